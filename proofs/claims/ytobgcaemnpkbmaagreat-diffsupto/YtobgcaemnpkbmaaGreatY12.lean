import Derived.Test.YtobgcaemnpkbmaaGreatY11
import Derived.StillTailTactics
namespace Go.Proofs.YtobgcaemnpkbmaaGreat
set_option maxRecDepth 100000
set_option maxHeartbeats 8000000
open Go.RowKit List
variable {Q:Exit->Act->World->Prop} {last:Int} {nb:Int->Nat} {R:List RN} {xs:List Value} {B b j k mb n q size:Nat} {rt:Option Nat} {ρ ρ':Qz} {e:TypeId} {av kv v:Value} {w w' w1 w2:World}
theorem Zj.after (a:Xb w w1) (c:Zj ρ ρ' w1 w2):Zj ρ ρ' w w2 := ⟨⟨c.1.os.trans a.os,c.1.tape.trans a.tape,c.1.output.trans a.output,Xb6 a.size c.1.size,λb d f=>(c.1.block b (Xb4 d a.size) f).trans (a.block b d)⟩,c.2.1,λb g=>(c.2.2 b g).imp id (λe=>Xb6 a.size e)⟩
theorem Zj.trans {h d f:Qz} {w w1 w2:World} (a:Zj h d w w1) (k:Zj d f w1 w2):Zj h f w w2:=by
 refine ⟨⟨k.1.os.trans a.1.os,k.1.tape.trans a.1.tape,k.1.output.trans a.1.output,Xb6 a.1.size k.1.size,λb g i=>?_⟩,λb c=>?_,λb c=>?_⟩
 ·refine (k.1.block b (Xb4 g a.1.size) (λc=>?_)).trans (a.1.block b g i);rcases a.2.2 b c with e|e
  ·exact i e
  omega
 ·rw [k.2.1 b (by rw [a.2.1 b c];exact c),a.2.1 b c]
 rcases k.2.2 b c with e|e
 ·exact a.2.2 b e
 exact .inr (Xb6 a.1.size e)
theorem QhD (a:k<R.length) (b:k<(QW R k).length):(QW R k)[k]={ R[k] with par:=0 }:=by rw [getElem_of_eq (J2 a),getElem_set_self]
theorem Qgy (b:k<R.length) (c:j<R.length) (a:j≠k) (d:j<(QW R k).length):(QW R k)[j]=R[j]:=by rw [getElem_of_eq (J2 b),getElem_set_ne (λe=>a e.symm)]
theorem QoT {t:Nat} (j:Ql ρ nb mb rt w q (QW R k) last) (i:Qx R) (a:k<R.length) (g:t<R.length) (c:R[t].id≠R[k].id) : Xl 44 #[Xp (nb R[t].id),Xp (nb R[k].id),.pointer none] w λe w'=>e=.returned (.tuple #[])/\∃ ρ',Zj ρ ρ' w w'/\Ql ρ' nb mb rt w' q (QM R { R[k] with par:=R[t].id } k 0) last:=by
 have d:k<(QW R k).length:=by rw [Qdj a];exact a
 have f:t<(QW R k).length:=by rw [Qdj a];exact g
 have b:=QhD a d;have h:=Qgy a g (λe=>c (by subst e;rfl)) f;have:=Qnq ρ nb mb rt w q (QW R k) last j (QgB i a) k t d f (by rw [b,h];exact c) (by rw [b]);rw [b,h,QhG a] at this;exact this
theorem QtA {t:Nat} (r:Ql ρ nb mb rt w q (QW R k) last) (p:Qx R) (a:k<R.length) (j:t<R.length) (f:R[t].id≠R[k].id) (l:b<R.length) (n:b≠k) (o:R[b].par=R[t].id) : Xl 44 #[Xp (nb R[t].id),Xp (nb R[k].id),Xp (nb R[b].id)] w λe w'=>e=.returned (.tuple #[])/\∃ ρ',Zj ρ ρ' w w'/\Ql ρ' nb mb rt w' q (QM R { R[k] with par:=R[t].id } k R[b].id) last:=by
 have g:k<(QW R k).length:=by rw [Qdj a];exact a
 have h:t<(QW R k).length:=by rw [Qdj a];exact j
 have i:b<(QW R k).length:=by rw [Qdj a];exact l
 have c:=QhD a g;have d:=Qgy a j (λe=>f (by subst e;rfl)) h;have m:=Qgy a l n i;have:=QpI ρ nb mb rt w q (QW R k) last r (QgB p a) k t g h (by rw [c,d];exact f) (by rw [c]) b i (by rw [d,m];exact o);rw [c,d,m,QhG a] at this;exact this
theorem Qsu (w:World) (a:Addr):(binOp .neq 112 (.pointer none) (.pointer (some a))).run Tryz.prog w=.ok (.bool true) w:=by
 have b:∀ d:Nat,(Op.equalIn (d+1) 112 (.pointer none) (.pointer (some a))).run Tryz.prog w=.ok false w:=λd=>by simp [Op.equalIn,run_underlying Tryz.underlying112]
 simp only [binOp];simp [Op.equal,Op.maxDepth,b 9999]
theorem Qty x (nb:Int->Nat) c w q R last (b:Ql x nb c (some (nb 1)) w q R last) (h id pa bf i:Int) (j nm k:ByteArray) (r:Qu id) (s:Qu pa) (t:∀ n,n ∈ R->n.id≠id) (pv:Value) (d:Qc1 (Z8 nb R pa)=pv) : Xl 87 #[Xp q,.agg #[Xi h,Xi id,Xi pa,Xi bf,Xi i,.string j,.string nm,.string k]] w λe w'=>e=.returned (.bool false)/\Xb w w':=by
 have l:=Qj b.blk 1 (.map (some c)) rfl;have f:=Q9 b.blk;have m:=Qj b.blk 0 (Xp (nb 1)) rfl;have p:=Qeh b r t;have u:Hid (∀ w1,Xb w w1->(Instr.lookup 111 (.map (some c)) (Xi pa) false).run Tryz.prog w1=.ok pv w1):=Qa λw1 y=>by rw [<- d];exact (b.below y).map.look s
 clear b d;go_enter Tryz.func87,Tryz.ntmps87;go_wp2_with fail;generalize g:w.alloc (.cells #[Xi h,Xi id,Xi pa,Xi bf,Xi i,.string j,.string nm,.string k] 29)=o;obtain ⟨a,z,-,C,D,E,-,-,-,-⟩:=QbN g;have F:=(Xh a q 1 f).trans l;have G:=(Xh a q 0 f).trans m;have A:=λn=>p.out (o.drewN n) (Qt a n);have B:=λn=>u.out (o.drewN n) (Qt a n);have v:=Qa a;clear g a l m;go_big_quiet (fail);go_wp2;go_ret;exact ⟨rfl,Qt v.out _⟩
theorem Quu D (nb:Int->Nat) f w q R last (b:Ql D nb f (some (nb 1)) w q R last) (m pa bf o:Int) (p nm s:ByteArray) (r:Nat) (t:r<R.length) (d:R[r].id=1) (y:Qu pa) (pv:Value) (j:Qc1 (Z8 nb R pa)=pv) : Xl 87 #[Xp q,.agg #[Xi m,Xi 1,Xi pa,Xi bf,Xi o,.string p,.string nm,.string s]] w λe w'=>e=.returned (.bool false)/\Xb w w':=by
 obtain ⟨F,G,g⟩:=b.node _ (Xa0 t);have u:=Qj b.blk 1 (.map (some f)) rfl;have k:=Q9 b.blk;have v:=Qj b.blk 0 (Xp (nb 1)) rfl;have z:Hid (∀ w1,Xb w w1->(Instr.lookup 111 (.map (some f)) (Xi 1) false).run Tryz.prog w1=.ok (Xp (nb 1)) w1):=Qa λw1 c=>by have:=(b.below c).map.look (i:=1) ⟨by decide,by decide⟩;rw [<- d,Qdr (getElem_mem t),d] at this;exact this
 have A:Hid (∀ w1,Xb w w1->(Instr.lookup 111 (.map (some f)) (Xi pa) false).run Tryz.prog w1=.ok pv w1):=Qa λw1 c=>by rw [<- j];exact (b.below c).map.look y
 have B:Hid (∀ w1,Xb w w1->(binOp .eql 112 (Xp (nb 1)) (Xp (nb 1))).run Tryz.prog w1=.ok (.bool true) w1):=Qa λw1 c=>by
  have x:J7 w1 (nb 1):=by rw [<- d];exact ⟨_,_,(c.block _ g.lt).trans g.blk⟩
  rw [QcP x x,beq_self_eq_true]
 clear b j g d;go_enter Tryz.func87,Tryz.ntmps87;go_wp2_with fail;generalize l:w.alloc (.cells #[Xi m,Xi 1,Xi pa,Xi bf,Xi o,.string p,.string nm,.string s] 29)=h;obtain ⟨a,H,-,K,L,M,-,-,-,-⟩:=QbN l;have N:=(Xh a q 1 k).trans u;have O:=(Xh a q 0 k).trans v;have I:=λn=>z.out (h.drewN n) (Qt a n);have J:=λn=>A.out (h.drewN n) (Qt a n);have E:=λn=>B.out (h.drewN n) (Qt a n);have C:=Qa a;clear l a u v;go_big_quiet (fail);go_wp2;go_ret;exact ⟨rfl,Qt C.out _⟩
theorem Qqg G (nb:Int->Nat) j w q R last (a:Ql G nb j (some (nb 1)) w q R last) (l id pa bf m:Int) (o nm p:ByteArray) (k:Nat) (f:k<R.length) (z:Qu R[k].id) (v:R[k].id=id) (r:Nat) (s:r<R.length) (h:R[r].id=1) (g:R[k].id≠1) (A:Qu pa) (B:∀ n,n ∈ R->n.id≠pa) : Xl 87 #[Xp q,.agg #[Xi l,Xi id,Xi pa,Xi bf,Xi m,.string o,.string nm,.string p]] w λe w'=>e=.returned (.bool false)/\Xb w w':=by
 subst v;obtain ⟨I,J,C⟩:=a.node _ (Xa0 f);obtain ⟨K,L,D⟩:=a.node _ (Xa0 s);have t:=Qj a.blk 1 (.map (some j)) rfl;have i:=Q9 a.blk;have u:=Qj a.blk 0 (Xp (nb 1)) rfl;have x:=Jf a f z;have y:=Qeh a A B;have E:=Qdc a f s h g;clear a C D h g;go_enter Tryz.func87,Tryz.ntmps87;go_wp2_with fail;generalize c:w.alloc (.cells #[Xi l,Xi R[k].id,Xi pa,Xi bf,Xi m,.string o,.string nm,.string p] 29)=d;have b:=Xt c;have M:w.heap.size<d.heap.size:=by rw [<- c];simp
 have P:=Xz c 1 (Xi R[k].id) rfl;have S:=Xz c 2 (Xi pa) rfl;have T:=Xz c 3 (Xi bf) rfl;have U:=(Xh b q 1 i).trans t;have V:=(Xh b q 0 i).trans u;have N:=λn=>x.out (d.drewN n) (Qt b n);have O:=λn=>y.out (d.drewN n) (Qt b n);have H:=λn=>E.out (d.drewN n) (Qt b n);have F:=Qa b;clear c b t u;go_big_quiet (fail);go_wp2;go_ret;exact ⟨rfl,Qt F.out _⟩
theorem Qv0 M (nb:Int->Nat) o w q R last (a:Ql M nb o (some (nb 1)) w q R last) (p id pa bf s:Int) (u nm v:ByteArray) (k:Nat) (g:k<R.length) (F:Qu R[k].id) (A:R[k].id=id) (r:Nat) (x:r<R.length) (j:R[r].id=1) (i:R[k].id≠1) (t:Nat) (h:t<R.length) (G:Qu R[t].id) (B:R[t].id=pa) (C:R[t].tag.toList.isEmpty=true) : Xl 87 #[Xp q,.agg #[Xi p,Xi id,Xi pa,Xi bf,Xi s,.string u,.string nm,.string v]] w λe w'=>e=.returned (.bool false)/\Xb w w':=by
 subst A;obtain ⟨O,P,H⟩:=a.node _ (Xa0 g);obtain ⟨S,T,I⟩:=a.node _ (Xa0 x);subst B;obtain ⟨U,V,J⟩:=a.node _ (Xa0 h);have y:=Qj a.blk 1 (.map (some o)) rfl;have l:=Q9 a.blk;have z:=Qj a.blk 0 (Xp (nb 1)) rfl;have D:=Jf a g F;have E:=Jf a h G;have K:=Qdc a g x j i;have L:=Qa3 a h (b:=false) (by rw [C];rfl);clear a H I J j i;go_enter Tryz.func87,Tryz.ntmps87;go_wp2_with fail;generalize d:w.alloc (.cells #[Xi p,Xi R[k].id,Xi R[t].id,Xi bf,Xi s,.string u,.string nm,.string v] 29)=f;have c:=Xt d;have W:w.heap.size<f.heap.size:=by rw [<- d];simp
 have a0:=Xz d 1 (Xi R[k].id) rfl;have a1:=Xz d 2 (Xi R[t].id) rfl;have a2:=Xz d 3 (Xi bf) rfl;have a3:=(Xh c q 1 l).trans y;have a4:=(Xh c q 0 l).trans z;have X:=λn=>D.out (f.drewN n) (Qt c n);have Y:=λn=>E.out (f.drewN n) (Qt c n);have N:=λn=>K.out (f.drewN n) (Qt c n);have m:=Qa c;clear d c y z;go_big_quiet (fail);go_wp2_with (first|(go_at_call 102;refine (Qb L _ (Qt (Qb m) _)).mono ?_;rintro e w1 ⟨rfl,rfl⟩));go_ret;exact ⟨rfl,Qt m.out _⟩
theorem QoF O (nb:Int->Nat) o w q R last (a:Ql O nb o (some (nb 1)) w q R last) (p id pa bf s:Int) (u nm v:ByteArray) (P:Qx R) rk (S:Up R rk) (k:Nat) (f:k<R.length) (F:Qu R[k].id) (A:R[k].id=id) (r:Nat) (x:r<R.length) (l:R[r].id=1) (j:R[k].id≠1) (t:Nat) (g:t<R.length) (G:Qu R[t].id) (B:R[t].id=pa) (C:R[t].tag.toList.isEmpty=false) (H:Zs R (rk R[t].id+1) R[t].id R[k].id=true) : Xl 87 #[Xp q,.agg #[Xi p,Xi id,Xi pa,Xi bf,Xi s,.string u,.string nm,.string v]] w λe w'=>e=.returned (.bool false)/\Xb w w':=by
 subst A;obtain ⟨U,V,I⟩:=a.node _ (Xa0 f);obtain ⟨W,X,J⟩:=a.node _ (Xa0 x);subst B;obtain ⟨Y,a0,K⟩:=a.node _ (Xa0 g);have y:=Qj a.blk 1 (.map (some o)) rfl;have m:=Q9 a.blk;have z:=Qj a.blk 0 (Xp (nb 1)) rfl;have D:=Jf a f F;have E:=Jf a g G;have L:=Qdc a f x l j;have M:=Qa3 a g (b:=true) (by rw [C];rfl);have N:=Qem a P S g f H;clear a I J K l j;go_enter Tryz.func87,Tryz.ntmps87;go_wp2_with fail;generalize d:w.alloc (.cells #[Xi p,Xi R[k].id,Xi R[t].id,Xi bf,Xi s,.string u,.string nm,.string v] 29)=h;have c:=Xt d;have a1:w.heap.size<h.heap.size:=by rw [<- d];simp
 have a4:=Xz d 1 (Xi R[k].id) rfl;have a5:=Xz d 2 (Xi R[t].id) rfl;have a6:=Xz d 3 (Xi bf) rfl;have a7:=(Xh c q 1 m).trans y;have a8:=(Xh c q 0 m).trans z;have a2:=λn=>D.out (h.drewN n) (Qt c n);have a3:=λn=>E.out (h.drewN n) (Qt c n);have T:=λn=>L.out (h.drewN n) (Qt c n);have i:=Qa c;clear d c y z;go_big_quiet (fail);go_wp2_with (first|(go_at_call 102;refine (Qb M _ (Qt (Qb i) _)).mono ?_;rintro e w1 ⟨rfl,rfl⟩)|(go_at_call 103;refine (Qb N _ (Qt (Qb i) _)).mono ?_;rintro e w1 ⟨rfl,rfl⟩));go_ret;exact ⟨rfl,Qt i.out _⟩
theorem Qwv a2 (nb:Int->Nat) o w q R last (a:Ql a2 nb o (some (nb 1)) w q R last) (x id pa bf y:Int) (z nm A:ByteArray) (a3:Qx R) rk (a4:Up R rk) (k:Nat) (h:k<R.length) (L:Qu R[k].id) (E:R[k].id=id) (r:Nat) (B:r<R.length) (u:R[r].id=1) (p:R[k].id≠1) (t:Nat) (i:t<R.length) (M:Qu R[t].id) (F:R[t].id=pa) (G:R[t].tag.toList.isEmpty=false) (N:Zs R (rk R[t].id+1) R[t].id R[k].id=false) (O:Qu bf) (a8:bf≠0) (H:∀ n,n ∈ R->n.id≠bf) : Xl 87 #[Xp q,.agg #[Xi x,Xi id,Xi pa,Xi bf,Xi y,.string z,.string nm,.string A]] w λe w'=>e=.returned (.bool false)/\Xb w w':=by
 subst E;obtain ⟨a9,aa,P⟩:=a.node _ (Xa0 h);obtain ⟨ab,ac,S⟩:=a.node _ (Xa0 B);subst F;obtain ⟨ad,ae,T⟩:=a.node _ (Xa0 i);have C:=Qj a.blk 1 (.map (some o)) rfl;have v:=Q9 a.blk;have D:=Qj a.blk 0 (Xp (nb 1)) rfl;have I:=Jf a h L;have J:=Jf a i M;have s:=Qeh a O H;have U:=Qdc a h B u p;have V:=Qa3 a i (b:=true) (by rw [G];rfl);have W:=Qem a a3 a4 i h N;clear a P S T u p;go_enter Tryz.func87,Tryz.ntmps87;go_wp2_with fail;generalize d:w.alloc (.cells #[Xi x,Xi R[k].id,Xi R[t].id,Xi bf,Xi y,.string z,.string nm,.string A] 29)=f;have c:=Xt d;have af:w.heap.size<f.heap.size:=by rw [<- d];simp
 have ai:=Xz d 1 (Xi R[k].id) rfl;have aj:=Xz d 2 (Xi R[t].id) rfl;have a5:=Xz d 3 (Xi bf) rfl;have a6:=(Xh c q 1 v).trans C;have ak:=(Xh c q 0 v).trans D;have X:=λn=>I.out (f.drewN n) (Qt c n);have Y:=λn=>J.out (f.drewN n) (Qt c n);have a0:=λn=>s.out (f.drewN n) (Qt c n);have K:=λn=>U.out (f.drewN n) (Qt c n);have l:=Qa c;clear d c C D;go_big_quiet (fail);go_wp2_with (first|(go_at_call 102;refine (Qb V _ (Qt (Qb l) _)).mono ?_;rintro e w1 ⟨rfl,rfl⟩)|(go_at_call 103;refine (Qb W _ (Qt (Qb l) _)).mono ?_;rintro e w1 ⟨rfl,rfl⟩));generalize g:f.drewN nq=j;have m:Xb w j:=by rw [<- g];exact Qt l.out _
 have ag:j.cell? (Xa w.heap.size 3)=some (Xi bf):=by rw [<- g];exact a5
 have ah:j.cell? (Xa q 1)=some (.map (some o)):=by rw [<- g];exact a6
 have a7:=λn=>s.out (j.drewN n) (Qt m n);have a1:=Qa m;clear g m X Y a0 K;go_big_quiet (fail);go_wp2;go_ret;exact ⟨rfl,Qt a1.out _⟩
theorem Qvh a0 (nb:Int->Nat) p w q R last (a:Ql a0 nb p (some (nb 1)) w q R last) (y id pa z:Int) (A nm B:ByteArray) (a1:Qx R) rk (a2:Up R rk) (k:Nat) (j:k<R.length) (L:Qu R[k].id) (G:R[k].id=id) (r:Nat) (C:r<R.length) (v:R[r].id=1) (s:R[k].id≠1) (t:Nat) (l:t<R.length) (M:Qu R[t].id) (H:R[t].id=pa) (I:R[t].tag.toList.isEmpty=false) (N:Zs R (rk R[t].id+1) R[t].id R[k].id=false) (a8:R[k].id≠0) : Xl 87 #[Xp q,.agg #[Xi y,Xi id,Xi pa,Xi id,Xi z,.string A,.string nm,.string B]] w λe w'=>e=.returned (.bool false)/\Xb w w':=by
 subst G;obtain ⟨a9,aa,m⟩:=a.node _ (Xa0 j);obtain ⟨ab,ac,O⟩:=a.node _ (Xa0 C);subst H;obtain ⟨ad,ae,P⟩:=a.node _ (Xa0 l);have D:=Qj a.blk 1 (.map (some p)) rfl;have x:=Q9 a.blk;have E:=Qj a.blk 0 (Xp (nb 1)) rfl;have u:=Jf a j L;have J:=Jf a l M;have S:=Qdc a j C v s;have T:=Qa3 a l (b:=true) (by rw [I];rfl);have U:=Qem a a1 a2 l j N;have V:Hid (∀ w1,Xb w w1->(binOp .eql 112 (Xp (nb R[k].id)) (Xp (nb R[k].id))).run Tryz.prog w1=.ok (.bool true) w1):=Qa λw1 a3=>by have F:J7 w1 (nb R[k].id):=⟨_,_,(a3.block _ m.lt).trans m.blk⟩;rw [QcP F F,beq_self_eq_true]
 clear a m O P v s;go_enter Tryz.func87,Tryz.ntmps87;go_wp2_with fail;generalize d:w.alloc (.cells #[Xi y,Xi R[k].id,Xi R[t].id,Xi R[k].id,Xi z,.string A,.string nm,.string B] 29)=f;have c:=Xt d;have af:w.heap.size<f.heap.size:=by rw [<- d];simp
 have ai:=Xz d 1 (Xi R[k].id) rfl;have aj:=Xz d 2 (Xi R[t].id) rfl;have a4:=Xz d 3 (Xi R[k].id) rfl;have a5:=(Xh c q 1 x).trans D;have ak:=(Xh c q 0 x).trans E;have W:=λn=>u.out (f.drewN n) (Qt c n);have X:=λn=>J.out (f.drewN n) (Qt c n);have K:=λn=>S.out (f.drewN n) (Qt c n);have o:=Qa c;clear d c D E;go_big_quiet (fail);go_wp2_with (first|(go_at_call 102;refine (Qb T _ (Qt (Qb o) _)).mono ?_;rintro e w1 ⟨rfl,rfl⟩)|(go_at_call 103;refine (Qb U _ (Qt (Qb o) _)).mono ?_;rintro e w1 ⟨rfl,rfl⟩));generalize h:f.drewN nq=g;have i:Xb w g:=by rw [<- h];exact Qt o.out _
 have ag:g.cell? (Xa w.heap.size 3)=some (Xi R[k].id):=by rw [<- h];exact a4
 have ah:g.cell? (Xa q 1)=some (.map (some p)):=by rw [<- h];exact a5
 have a6:=λn=>u.out (g.drewN n) (Qt i n);have a7:=λn=>V.out (g.drewN n) (Qt i n);have Y:=Qa i;clear h i W X K;go_big_quiet (fail);go_wp2;go_ret;exact ⟨rfl,Qt Y.out _⟩
theorem Qqu al (nb:Int->Nat) z w q R last (a:Ql al nb z (some (nb 1)) w q R last) (K id pa bf L:Int) (M nm N:ByteArray) (O:Qx R) rk (P:Up R rk) (k:Nat) (s:k<R.length) (a6:Qu R[k].id) (Y:R[k].id=id) (r:Nat) (S:r<R.length) (F:R[r].id=1) (D:R[k].id≠1) (t:Nat) (u:t<R.length) (a7:Qu R[t].id) (a0:R[t].id=pa) (a1:R[t].tag.toList.isEmpty=false) (a8:Zs R (rk R[t].id+1) R[t].id R[k].id=false) (b:Nat) (A:b<R.length) (a9:Qu R[b].id) (a2:R[b].id=bf) (G:R[b].id≠R[k].id) (av:R[b].id≠0) (aa:R[b].par≠R[t].id) : Xl 87 #[Xp q,.agg #[Xi K,Xi id,Xi pa,Xi bf,Xi L,.string M,.string nm,.string N]] w λe w'=>e=.returned (.bool false)/\Xb w w':=by
 subst Y;obtain ⟨aw,ax,l⟩:=a.node _ (Xa0 s);obtain ⟨ay,az,ab⟩:=a.node _ (Xa0 S);subst a0;obtain ⟨aA,aB,o⟩:=a.node _ (Xa0 u);subst a2;obtain ⟨aC,aD,d⟩:=a.node _ (Xa0 A);have T:=Qj a.blk 1 (.map (some z)) rfl;have H:=Q9 a.blk;have U:=Qj a.blk 0 (Xp (nb 1)) rfl;have a3:=Jf a s a6;have a4:=Jf a u a7;have E:=Jf a A a9;have ac:=Qdc a s S F D;have ad:=Qa3 a u (b:=true) (by rw [a1];rfl);have ae:=Qem a O P u s a8;have af:Hid (∀ w1,Xb w w1->(binOp .eql 112 (Xp (nb R[b].id)) (Xp (nb R[k].id))).run Tryz.prog w1=.ok (.bool false) w1):=Qa λw1 j=>by
  have B:J7 w1 (nb R[k].id):=⟨_,_,(j.block _ l.lt).trans l.blk⟩;have C:J7 w1 (nb R[b].id):=⟨_,_,(j.block _ d.lt).trans d.blk⟩;rw [QcP C B];have:(nb R[b].id==nb R[k].id)=false:=by rw [beq_eq_false_iff_ne];exact λe=>G (d.nb_inj l e)
  rw [this]
 have V:=Qj d.blk 5 (ZJ nb R[b].par) rfl;have ag:=d.lt;have I:Hid (∀ w1,Xb w w1->(binOp .neq 112 (ZJ nb R[b].par) (Xp (nb R[t].id))).run Tryz.prog w1=.ok (.bool true) w1):=Qa λw1 j=>by
  rcases P.par _ (Xa0 A) with e|⟨m,W,e⟩
  ·unfold ZJ;rw [if_pos e];exact Qsu w1 _
  obtain ⟨aJ,aK,v⟩:=a.node m W;have aE:=O.pos m W;have B:J7 w1 (nb m.id):=⟨_,_,(j.block _ v.lt).trans v.blk⟩;have C:J7 w1 (nb R[t].id):=⟨_,_,(j.block _ o.lt).trans o.blk⟩;unfold ZJ;rw [if_neg (by omega),<- e,QnN B C];have:(nb m.id !=nb R[t].id)=true:=by simp only [bne_iff_ne];exact λx=>aa (by rw [<- e];exact v.nb_inj o x)
  rw [this]
 obtain ⟨X,J⟩:∃ X,ZJ nb R[b].par=.pointer X:=by
  unfold ZJ;split
  ·exact ⟨_,rfl⟩
  exact ⟨_,rfl⟩
 rw [J] at I V;clear J;clear a l ab o d F D G;go_enter Tryz.func87,Tryz.ntmps87;go_wp2_with fail;generalize f:w.alloc (.cells #[Xi K,Xi R[k].id,Xi R[t].id,Xi R[b].id,Xi L,.string M,.string nm,.string N] 29)=h;have c:=Xt f;have aF:w.heap.size<h.heap.size:=by rw [<- f];simp
 have aL:=Xz f 1 (Xi R[k].id) rfl;have aM:=Xz f 2 (Xi R[t].id) rfl;have ao:=Xz f 3 (Xi R[b].id) rfl;have ap:=(Xh c q 1 H).trans T;have aN:=(Xh c q 0 H).trans U;have ah:=λn=>a3.out (h.drewN n) (Qt c n);have ai:=λn=>a4.out (h.drewN n) (Qt c n);have aj:=λn=>E.out (h.drewN n) (Qt c n);have a5:=λn=>ac.out (h.drewN n) (Qt c n);have y:=Qa c;clear f c T U;go_big_quiet (fail);go_wp2_with (first|(go_at_call 102;refine (Qb ad _ (Qt (Qb y) _)).mono ?_;rintro e w1 ⟨rfl,rfl⟩)|(go_at_call 103;refine (Qb ae _ (Qt (Qb y) _)).mono ?_;rintro e w1 ⟨rfl,rfl⟩));generalize p:h.drewN nq=i;have g:Xb w i:=by rw [<- p];exact Qt y.out _
 have aG:i.cell? (Xa w.heap.size 3)=some (Xi R[b].id):=by rw [<- p];exact ao
 have aH:i.cell? (Xa q 1)=some (.map (some z)):=by rw [<- p];exact ap
 have aq:=λn=>E.out (i.drewN n) (Qt g n);have ar:=λn=>af.out (i.drewN n) (Qt g n);have aI:=(Xh g (nb R[b].id) 5 ag).trans V;have au:=λn=>I.out (i.drewN n) (Qt g n);have ak:=Qa g;clear p g ah ai aj a5;go_big_quiet (fail);go_wp2;go_ret;exact ⟨rfl,Qt ak.out _⟩
theorem QqA o (nb:Int->Nat) c w q R last (a:Ql o nb c (some (nb 1)) w q R last) (G id pa H:Int) (I nm J:ByteArray) (v:Qx R) rk (K:Up R rk) (k:Nat) (g:k<R.length) (X:Qu R[k].id) (O:R[k].id=id) (r:Nat) (L:r<R.length) (z:R[r].id=1) (x:R[k].id≠1) (t:Nat) (j:t<R.length) (Y:Qu R[t].id) (P:R[t].id=pa) (S:R[t].tag.toList.isEmpty=false) (a0:Zs R (rk R[t].id+1) R[t].id R[k].id=false) (a1:R[t].id≠R[k].id) (T:∀ n,n ∈ R->n.id≠0) : Xl 87 #[Xp q,.agg #[Xi G,Xi id,Xi pa,Xi 0,Xi H,.string I,.string nm,.string J]] w λe w'=>e=.returned (.bool true)/\∃ ρ',Zj o ρ' w w'/\Ql ρ' nb c (some (nb 1)) w' q (QM R { R[k] with par:=R[t].id } k 0) last:=by
 subst O;obtain ⟨aq,ar,a2⟩:=a.node _ (Xa0 g);obtain ⟨au,av,a3⟩:=a.node _ (Xa0 L);subst P;obtain ⟨aw,ax,a4⟩:=a.node _ (Xa0 j);have M:=Qj a.blk 1 (.map (some c)) rfl;have A:=Q9 a.blk;have N:=Qj a.blk 0 (Xp (nb 1)) rfl;have U:=Jf a g X;have V:=Jf a j Y;have y:Hid (∀ w1,Xb w w1->(Instr.lookup 111 (.map (some c)) (Xi 0) false).run Tryz.prog w1=.ok (.pointer none) w1):=Qa λw1 a5=>by have:=(a.below a5).map.look (i:=0) ⟨by decide,by decide⟩;rw [Qen T] at this;exact this
 have a6:=Qdc a g L z x;have a7:=Qa3 a j (b:=true) (by rw [S];rfl);have a8:=Qem a v K j g a0;have a9:Hid (∀ w1,Xb w w1->Xl 104 #[Xp (nb R[k].id)] w1 λe w'=>e=.returned (.tuple #[])/\∃ ρ',Zj o ρ' w1 w'/\Ql ρ' nb c (some (nb 1)) w' q (QW R k) last):=Qa λw1 aj=>Qis o nb c _ w1 q R last (a.below aj) v ⟨rk,K⟩ k g;have aa:Hid (∀ (l:Qz) (w1:World),Ql l nb c (some (nb 1)) w1 q (QW R k) last->Xl 44 #[Xp (nb R[t].id),Xp (nb R[k].id),.pointer none] w1 λe w'=>e=.returned (.tuple #[])/\∃ ρ',Zj l ρ' w1 w'/\Ql ρ' nb c (some (nb 1)) w' q (QM R { R[k] with par:=R[t].id } k 0) last):=Qa λl w1 ak=>QoT ak v g j a1;clear a a2 a3 a4 z x;go_enter Tryz.func87,Tryz.ntmps87;go_wp2_with fail;generalize f:w.alloc (.cells #[Xi G,Xi R[k].id,Xi R[t].id,Xi 0,Xi H,.string I,.string nm,.string J] 29)=h;have d:=Xt f;have ay:w.heap.size<h.heap.size:=by rw [<- f];simp
 have aB:=Xz f 1 (Xi R[k].id) rfl;have aC:=Xz f 2 (Xi R[t].id) rfl;have al:=Xz f 3 (Xi 0) rfl;have ao:=(Xh d q 1 A).trans M;have aD:=(Xh d q 0 A).trans N;have ab:=λn=>U.out (h.drewN n) (Qt d n);have ac:=λn=>V.out (h.drewN n) (Qt d n);have ad:=λn=>y.out (h.drewN n) (Qt d n);have W:=λn=>a6.out (h.drewN n) (Qt d n);have s:=Qa d;clear f d M N;go_big_quiet (fail);go_wp2_with (first|(go_at_call 102;refine (Qb a7 _ (Qt (Qb s) _)).mono ?_;rintro e w1 ⟨rfl,rfl⟩)|(go_at_call 103;refine (Qb a8 _ (Qt (Qb s) _)).mono ?_;rintro e w1 ⟨rfl,rfl⟩));generalize m:h.drewN nq=p;have u:Xb w p:=by rw [<- m];exact Qt s.out _
 have az:p.cell? (Xa w.heap.size 3)=some (Xi 0):=by rw [<- m];exact al
 have aA:p.cell? (Xa q 1)=some (.map (some c)):=by rw [<- m];exact ao
 have ap:=λn=>y.out (p.drewN n) (Qt u n);have B:=Qa u;clear m u ab ac ad W;go_big_quiet (fail);go_wp2_with (first|(go_at_call 104;refine (Qb a9 _ (Qt (Qb B) _)).mono ?_;rintro e w1 ⟨rfl,l,C,D⟩;have ae:=Qa (Zj.after (Qt (Qb B) _) C);have af:=Qa D;clear C D)|(go_at_call 44;refine (Qb aa _ _ (Qb af)).mono ?_;rintro e w2 ⟨rfl,ag,E,F⟩;have ah:=Qa E;have ai:=Qa F;clear E F));go_ret;exact ⟨rfl,ag,ae.out.trans ah.out,ai.out⟩
theorem Qu6 v (nb:Int->Nat) d w q R last (a:Ql v nb d (some (nb 1)) w q R last) (S id pa bf T:Int) (U nm V:ByteArray) (x:Qx R) rk (W:Up R rk) (k:Nat) (i:k<R.length) (aa:Qu R[k].id) (a3:R[k].id=id) (r:Nat) (X:r<R.length) (G:R[r].id=1) (E:R[k].id≠1) (t:Nat) (j:t<R.length) (ab:Qu R[t].id) (a4:R[t].id=pa) (a5:R[t].tag.toList.isEmpty=false) (ac:Zs R (rk R[t].id+1) R[t].id R[k].id=false) (H:R[t].id≠R[k].id) (b:Nat) (D:b<R.length) (ad:Qu R[b].id) (a6:R[b].id=bf) (z:R[b].id≠R[k].id) (aF:R[b].id≠0) (A:R[b].par=R[t].id) : Xl 87 #[Xp q,.agg #[Xi S,Xi id,Xi pa,Xi bf,Xi T,.string U,.string nm,.string V]] w λe w'=>e=.returned (.bool true)/\∃ ρ',Zj v ρ' w w'/\Ql ρ' nb d (some (nb 1)) w' q (QM R { R[k] with par:=R[t].id } k R[b].id) last:=by
 subst a3;obtain ⟨aG,aH,p⟩:=a.node _ (Xa0 i);obtain ⟨aI,aJ,ae⟩:=a.node _ (Xa0 X);subst a4;obtain ⟨aK,aL,B⟩:=a.node _ (Xa0 j);subst a6;obtain ⟨aM,aN,f⟩:=a.node _ (Xa0 D);have Y:=Qj a.blk 1 (.map (some d)) rfl;have I:=Q9 a.blk;have a0:=Qj a.blk 0 (Xp (nb 1)) rfl;have a7:=Jf a i aa;have a8:=Jf a j ab;have F:=Jf a D ad;have af:=Qdc a i X G E;have ag:=Qa3 a j (b:=true) (by rw [a5];rfl);have ah:=Qem a x W j i ac;have ai:Hid (∀ w1,Xb w w1->(binOp .eql 112 (Xp (nb R[b].id)) (Xp (nb R[k].id))).run Tryz.prog w1=.ok (.bool false) w1):=Qa λw1 l=>by
  have ay:J7 w1 (nb R[k].id):=⟨_,_,(l.block _ p.lt).trans p.blk⟩;have y:J7 w1 (nb R[b].id):=⟨_,_,(l.block _ f.lt).trans f.blk⟩;rw [QcP y ay];have:(nb R[b].id==nb R[k].id)=false:=by rw [beq_eq_false_iff_ne];exact λe=>z (f.nb_inj p e)
  rw [this]
 have a1:=Qj f.blk 5 (ZJ nb R[b].par) rfl;have aj:=f.lt;have J:Hid (∀ w1,Xb w w1->(binOp .neq 112 (ZJ nb R[b].par) (Xp (nb R[t].id))).run Tryz.prog w1=.ok (.bool false) w1):=Qa λw1 l=>by have aO:=x.pos _ (Xa0 j);have y:J7 w1 (nb R[t].id):=⟨_,_,(l.block _ B.lt).trans B.blk⟩;unfold ZJ;rw [A,if_neg (by omega),QnN y y];simp
 obtain ⟨a2,K⟩:∃ a2,ZJ nb R[b].par=.pointer a2:=by
  unfold ZJ;split
  ·exact ⟨_,rfl⟩
  exact ⟨_,rfl⟩
 rw [K] at J a1;clear K;have ak:Hid (∀ w1,Xb w w1->Xl 104 #[Xp (nb R[k].id)] w1 λe w'=>e=.returned (.tuple #[])/\∃ ρ',Zj v ρ' w1 w'/\Ql ρ' nb d (some (nb 1)) w' q (QW R k) last):=Qa λw1 l=>Qis v nb d _ w1 q R last (a.below l) x ⟨rk,W⟩ k i;have al:Hid (∀ (s:Qz) (w1:World),Ql s nb d (some (nb 1)) w1 q (QW R k) last->Xl 44 #[Xp (nb R[t].id),Xp (nb R[k].id),Xp (nb R[b].id)] w1 λe w'=>e=.returned (.tuple #[])/\∃ ρ',Zj s ρ' w1 w'/\Ql ρ' nb d (some (nb 1)) w' q (QM R { R[k] with par:=R[t].id } k R[b].id) last):=Qa λs w1 az=>QtA az x i j H D (λe=>z (by subst e;rfl)) A;clear a p ae B f G E z A H;go_enter Tryz.func87,Tryz.ntmps87;go_wp2_with fail;generalize g:w.alloc (.cells #[Xi S,Xi R[k].id,Xi R[t].id,Xi R[b].id,Xi T,.string U,.string nm,.string V] 29)=m;have c:=Xt g;have aP:w.heap.size<m.heap.size:=by rw [<- g];simp
 have aT:=Xz g 1 (Xi R[k].id) rfl;have aU:=Xz g 2 (Xi R[t].id) rfl;have aA:=Xz g 3 (Xi R[b].id) rfl;have aB:=(Xh c q 1 I).trans Y;have aV:=(Xh c q 0 I).trans a0;have ao:=λn=>a7.out (m.drewN n) (Qt c n);have ap:=λn=>a8.out (m.drewN n) (Qt c n);have aq:=λn=>F.out (m.drewN n) (Qt c n);have a9:=λn=>af.out (m.drewN n) (Qt c n);have C:=Qa c;clear g c Y a0;go_big_quiet (fail);go_wp2_with (first|(go_at_call 102;refine (Qb ag _ (Qt (Qb C) _)).mono ?_;rintro e w1 ⟨rfl,rfl⟩)|(go_at_call 103;refine (Qb ah _ (Qt (Qb C) _)).mono ?_;rintro e w1 ⟨rfl,rfl⟩));generalize u:m.drewN nq=o;have h:Xb w o:=by rw [<- u];exact Qt C.out _
 have aQ:o.cell? (Xa w.heap.size 3)=some (Xi R[b].id):=by rw [<- u];exact aA
 have aR:o.cell? (Xa q 1)=some (.map (some d)):=by rw [<- u];exact aB
 have aC:=λn=>F.out (o.drewN n) (Qt h n);have aD:=λn=>ai.out (o.drewN n) (Qt h n);have aS:=(Xh h (nb R[b].id) 5 aj).trans a1;have aE:=λn=>J.out (o.drewN n) (Qt h n);have L:=Qa h;clear u h ao ap aq a9;go_big_quiet (fail);go_wp2_with (first|(go_at_call 104;refine (Qb ak _ (Qt (Qb L) _)).mono ?_;rintro e w1 ⟨rfl,s,M,N⟩;have ar:=Qa (Zj.after (Qt (Qb L) _) M);have au:=Qa N;clear M N)|(go_at_call 44;refine (Qb al _ _ (Qb au)).mono ?_;rintro e w2 ⟨rfl,av,O,P⟩;have aw:=Qa O;have ax:=Qa P;clear O P));go_ret;exact ⟨rfl,av,ar.out.trans aw.out,ax.out⟩
theorem QfZ {n:RN} (a:J3 ρ nb w R n av kv) (nm:ByteArray) : Xl 106 #[Xp (nb n.id),.string nm] w λe w'=>e=.returned (.tuple #[Xi (QB n.ats nm),.bool (Zu n.ats nm)])/\Xb w w':=by
 obtain ⟨ao,c,rfl⟩:=Qy a.arow;have f:=Qj a.blk 4 (.slice ao n.ats.length c) rfl;have b:Hid (∀ w1,w1=w->Xl 121 #[.slice ao n.ats.length c,.string nm,.func (.func 122) #[] #[]] w1 λe w'=>e=.returned (.tuple #[Xi (QB n.ats nm),.bool (Zu n.ats nm)])/\Xb w w') := Qa λw1 e=>by subst e;exact Qpn ao n.ats.length c n.ats nm w1 rfl a.few a.rise (QfW a.arow rfl a.size)
 clear a;go_enter Tryz.func106,Tryz.ntmps106;go_wp2_with (first|(go_at_call 121;refine (Qb b _ rfl).mono ?_;rintro e w1 ⟨rfl,d⟩));go_ret2;exact ⟨rfl,d⟩
theorem Qp4 r nb d s w q R last (b:Ql r nb d s w q R last) (f id pa bf g:Int) (h nm i:ByteArray) (k:Qu id) (l:∀ n,n ∈ R->n.id≠id) : Xl 90 #[Xp q,.agg #[Xi f,Xi id,Xi pa,Xi bf,Xi g,.string h,.string nm,.string i]] w λe w'=>e=.returned (.bool false)/\Xb w w':=by have j:=Qj b.blk 1 (.map (some d)) rfl;have m:=Q9 b.blk;have o:=Qeh b k l;clear b;go_enter Tryz.func90,Tryz.ntmps90;go_wp2_with fail;generalize c:w.alloc (.cells #[Xi f,Xi id,Xi pa,Xi bf,Xi g,.string h,.string nm,.string i] 29)=t;obtain ⟨a,u,-,v,-,-,-,-,-,-⟩:=QbN c;have x:=(Xh a q 1 m).trans j;have y:=λn=>o.out (t.drewN n) (Qt a n);have p:=Qa a;clear c a j;go_big_quiet (fail);go_wp2;go_ret;exact ⟨rfl,Qt p.out _⟩
theorem Qtp h nb i D w q R last (a:Ql h nb i D w q R last) (l id pa bf m:Int) (o nm p:ByteArray) (k:Nat) (r:k<R.length) (y:Qu R[k].id) (v:R[k].id=id) (x:Zu R[k].ats nm=false) : Xl 90 #[Xp q,.agg #[Xi l,Xi id,Xi pa,Xi bf,Xi m,.string o,.string nm,.string p]] w λe w'=>e=.returned (.bool false)/\Xb w w':=by
 subst v;obtain ⟨G,H,s⟩:=a.node _ (Xa0 r);have t:=Qj a.blk 1 (.map (some i)) rfl;have z:=Q9 a.blk;have A:=Jf a r y;have B:Hid (∀ w1,Xb w w1->Xl 106 #[Xp (nb R[k].id),.string nm] w1 λe w'=>e=.returned (.tuple #[Xi (QB R[k].ats nm),.bool false])/\Xb w1 w'):=Qa λw1 E=>by have:=QfZ (s.kept (R':=R) (w':=w1) (ρ':=h) (λb j e=>E.block b (a.low b (by rw [e];rfl))) (λ_ _=>rfl) rfl) nm;rw [x] at this;exact this
 clear a s;go_enter Tryz.func90,Tryz.ntmps90;go_wp2_with fail;generalize c:w.alloc (.cells #[Xi l,Xi R[k].id,Xi pa,Xi bf,Xi m,.string o,.string nm,.string p] 29)=u;have d:=Xt c;have F:w.heap.size<u.heap.size:=by rw [<- c];simp
 have I:=Xz c 1 (Xi R[k].id) rfl;have J:=Xz c 6 (.string nm) rfl;have K:=(Xh d q 1 z).trans t;have L:=λn=>A.out (u.drewN n) (Qt d n);have f:=Qa d;clear c d t;go_big_quiet (fail);go_wp2_with (first|(go_at_call 106;refine (Qb B _ (Qt (Qb f) _)).mono ?_;rintro e w1 ⟨rfl,g⟩;have C:=Qa ((Qt (Qb f) _).trans (g.mono (Qb f).size));clear g));go_ret;exact ⟨rfl,C.out⟩
theorem Qgt (l m:List (ByteArray × ByteArray)):QS (l++m)=QS l++QS m:=by unfold QS;rw [flatMap_append]
theorem Qku (l:List (ByteArray × ByteArray)) (i:Nat):QS (l.take i)=(QS l).take (i*2):=by induction l generalizing i with| nil=>simp [QS]| cons a l ih =>cases i with| zero=>simp [QS]| succ i =>have e:QS (a::l)=[.string a.1,.string a.2]++QS l:=rfl;rw [take_succ_cons,e,show (i+1)*2=i*2+1+1 by omega];show [.string a.1,.string a.2]++QS (l.take i)=_;rw [ih i];rfl
theorem QkI (l:List (ByteArray × ByteArray)) (i:Nat):QS (l.drop i)=(QS l).drop (i*2):=by induction l generalizing i with| nil=>simp [QS]| cons a l ih =>cases i with| zero=>simp| succ i =>have e:QS (a::l)=[.string a.1,.string a.2]++QS l:=rfl;rw [drop_succ_cons,e,show (i+1)*2=i*2+1+1 by omega,ih i];rfl
theorem Qqv s nb B L w q R last (h:Ql s nb B L w q R last) (M id pa bf N:Int) (O nm P:ByteArray) (k:Nat) (C:k<R.length) (a2:Qu R[k].id) (Y:R[k].id=id) (aa:Qx R) (m:Zu R[k].ats nm=true) : Xl 90 #[Xp q,.agg #[Xi M,Xi id,Xi pa,Xi bf,Xi N,.string O,.string nm,.string P]] w λe w'=>e=.returned (.bool true)/\∃ ρ',Zj s ρ' w w'/\Ql ρ' nb B L w' q (R.set k { R[k] with ats:=QI R[k].ats nm }) last:=by
 subst Y;obtain ⟨ab,ac,d⟩:=h.node _ (Xa0 C);have S:=Qj h.blk 1 (.map (some B)) rfl;have a3:=Q9 h.blk;have a4:=Jf h C a2;have a5:Hid (∀ w1,Xb w w1->Xl 106 #[Xp (nb R[k].id),.string nm] w1 λe w'=>e=.returned (.tuple #[Xi (QB R[k].ats nm),.bool true])/\Xb w1 w'):=Qa λw1 l=>by have:=QfZ (d.kept (R':=R) (w':=w1) (ρ':=s) (λb j e=>l.block b (h.low b (by rw [e];rfl))) (λ_ _=>rfl) rfl) nm;rw [m] at this;exact this
 have X:QB R[k].ats nm<R[k].ats.length:=by unfold Zu at m;simp only [Bool.and_eq_true,decide_eq_true_eq] at m;exact m.1
 obtain ⟨g,c,rfl⟩:∃ g c,ab=Xe g R[k].ats.length c:=by
  rcases d.arow.2 with ⟨_,e⟩|⟨g,a6,ai,e,_⟩
  ·omega
  exact ⟨g,a6,e⟩
 have ah:=d.few;have T:=Qj d.blk 4 (Xe g R[k].ats.length c) rfl;have ad:=Qax d.blk 4;have y:=d.lt;have I:g≠nb R[k].id:=λe=>by have:=d.arole g rfl;rw [e,d.role] at this;have:=(Xb8 (Xb5 this)).2;omega
 have aj:g<w.heap.size:=(d.arow.lt g rfl).2;have a7:Hid (∀ w1,Xb w w1->Xl 108 #[Xe g R[k].ats.length c,Xi (QB R[k].ats nm),Xi ((QB R[k].ats nm:Int)+1)] w1 λe w'=>e=.returned (Xe g (R[k].ats.length-1) c) /\ w'.ownsRow 0 72 2 (Xe g (R[k].ats.length-1) c) (R[k].ats.length-1) (QS (QI R[k].ats nm))/\w1.grownBy w' (some g)/\w'.heap.size=w1.heap.size):=Qa λw1 l=>by have:=QvJ g R[k].ats.length c (QB R[k].ats nm) (QB R[k].ats nm+1) (QS R[k].ats) w1 (QX d.arow l) X rfl (QeC _);rw [QiE d.rise,m,if_pos rfl,Qgt,Qku,QkI];exact this
 have D:=Qa h;have a:=Qa d;clear h d;go_enter Tryz.func90,Tryz.ntmps90;go_wp2_with fail;generalize o:w.alloc (.cells #[Xi M,Xi R[k].id,Xi pa,Xi bf,Xi N,.string O,.string nm,.string P] 29)=U;have t:=Xt o;have ak:w.heap.size<U.heap.size:=by rw [<- o];simp
 have ap:=Xz o 1 (Xi R[k].id) rfl;have aq:=Xz o 6 (.string nm) rfl;have ar:=(Xh t q 1 a3).trans S;have au:=λn=>a4.out (U.drewN n) (Qt t n);have z:=Qa t;clear o t S;go_big_quiet (fail);go_wp2_with (first|(go_at_call 106;refine (Qb a5 _ (Qt (Qb z) _)).mono ?_;rintro e w1 ⟨rfl,J⟩;have f:=Qa ((Qt (Qb z) _).trans (J.mono (Qb z).size));clear J;have av:=((Qb f).cell (p:=(Xa (nb R[k].id) 4)) y).trans T)|(go_at_call 108;refine (Qb a7 _ (Qb f)).mono ?_;rintro e w2 ⟨rfl,F,A,K⟩;have u:w2.heap[nb R[k].id]?=w.heap[nb R[k].id]?:=(A.block _ (Xb4 y (Qb f).size) (λe=>I (Xb5 e).symm)).trans ((Qb f).block _ y);have aw:=(Xk (nb R[k].id) 4 u).trans T;have ax:=(Xm (nb R[k].id) 4 u).trans ad;have a0:=Qa F;have v:=Qa A;have a8:=Qa K;have a9:=Qa u;clear F A K u));go_ret;have al:=f.out.size;have ao:=a8.out;have G:∀ b,b<w.heap.size->b≠nb R[k].id->b≠g->(w2.setCell (Xa (nb R[k].id) 4) (Xe g (R[k].ats.length-1) c)).heap[b]?=w.heap[b]?:=λb l E ae => (X5 E).trans ((v.out.block b (by omega) (λe=>ae (Xb5 e))).trans (f.out.block b l));have a1:(QI R[k].ats nm).length=R[k].ats.length-1:=by rw [QiE a.out.rise,m,if_pos rfl];simp;omega
 refine ⟨rfl,s,⟨⟨v.out.os.trans f.out.os,v.out.tape.trans f.out.tape,v.out.output.trans f.out.output,by rw [QJ];omega,λb l V=>?_⟩,λ_ _=>rfl,λ_ h=>.inl h⟩,?_⟩
 ·exact G b l (λe=>V (by rw [e,a.out.role];rfl)) (λe=>V (by rw [e,a.out.arole g rfl];rfl))
 have H:∀ b r,s b=some r->r≠(R[k].id,0)->r≠(R[k].id,1)->(w2.setCell (Xa (nb R[k].id) 4) (Xe g (R[k].ats.length-1) c)).heap[b]?=w.heap[b]?:=λb r e af E=>by
  refine G b (D.out.low b (by rw [e];rfl)) (λx=>af ?_) (λx=>E ?_)
  ·rw [x,a.out.role] at e;exact (Xb5 e).symm
  rw [x,a.out.arole g rfl] at e;exact (Xb5 e).symm
 refine Ql.put (n':={ R[k] with ats:=QI R[k].ats nm }) (av':=Xe g (R[k].ats.length-1) c) (kv':=ac) D.out aa C rfl rfl (λ_ _=>rfl) (λb e=>by rw [QJ];have:=D.out.low b e;omega) (λb r e W=>H b r e (λx=>W (by rw [x])) (λx=>W (by rw [x]))) ⟨?_,a.out.role,?_,a.out.arole,?_,a.out.krole,?_,Qlr a.out.rise,a.out.tag,a.out.text,λx ag=>a.out.size x (QnG ag)⟩
 ·exact QcJ (i:=4) (a9.out.trans a.out.blk) (Xe g (R[k].ats.length-1) c)
 ·show World.ownsRow _ _ _ _ _ (QI R[k].ats nm).length _;rw [a1];exact Q8 a0.out λb e=>X5 (by cases e;exact I)
 ·exact Q8 a.out.krow λb e=>H b _ (a.out.krole b e) (λx=>by have:=(Xb8 x).2;omega) (λx=>by have:=(Xb8 x).2;omega)
 show (QI R[k].ats nm).length<=5;omega
def Qhe (b:Qz) (nb:Int->Nat) (c:Nat) (d:Option Nat) (w:World) (q:Nat) (R:List RN) (last:Int) (n:RN) (e:Ending) (w':World):Prop :=
  ∃ (a:Int->Nat) (ρ':Qz),e=.returned (Xp (a (last+1)))/\(∀ i,i≠last+1->a i=nb i)/\w.heap.size<=a (last+1)/\Zj b ρ' w w'/\Ql ρ' a c d w' q (R++[n]) (last+1)
theorem QtW (a:w.ownsRow B e size v n xs):w.ownsRow 0 e size v n xs:=by
 refine ⟨a.1,?_⟩;rcases a.2 with f|⟨g,c,d,e,_,b⟩
 ·exact .inl f
 exact .inr ⟨g,c,d,e,X3,b⟩
theorem QuW {a:Int->Nat} {K:List Int} (c:∀ i,i ∈ K->a i=nb i):Jw a K=Jw nb K:=by unfold Jw;exact map_congr_left λi b=>by rw [c i b]
theorem Ql.added (f:Ql ρ nb mb rt w q R last) (F:Qx R) (a1:0<=last) (u:∀ n,n ∈ R->n.id<=last/\0<=n.par/\n.par<=last) (Y:R.length<800) {c:Nat} {n:RN} (k:n.id=last+1) (O:n.par=0) (P:w.heap.size<=c) (a0:c<w'.heap.size) (G:w.heap.size<=w'.heap.size) (A:w'.os=w.os/\w'.tape=w.tape/\w'.output=w.output) (C:∀ b,b<w.heap.size->b≠q->b≠mb->w'.heap[b]?=w.heap[b]?) (V:w'.heap[q]?=some (.cells #[Qc1 rt,.map (some mb),Xi (last+1)] 114 (0,0))) (L:JJ w' mb (λj=>if j=last+1 then some c else Z8 nb R j) (R.length+1)) (M:w'.heap[c]?=some (.cells #[Xi (last+1),Xi n.key,.string n.tag,.string n.text,av,.pointer none,Xv] 138 (0,0))) (D:w'.ownsRow 0 72 2 av n.ats.length (QS n.ats)) (v:∀ b,av.ownBlock=some b->w.heap.size<=b/\b≠c) (N:n.ats.length<=5) (J:ZM n.ats) (W:n.tag.size<=maxLen) (l:n.text.size<=maxLen) (S:∀ x,x ∈ n.ats->x.1.size<=maxLen/\x.2.size<=maxLen) : Qhe ρ nb mb rt w q R last n (.returned (Xp c)) w':=by
 have p:∀ b,(ρ b).isSome=true->(if b=c then some (last+1,0) else if av.ownBlock=some b then some (last+1,1) else ρ b)=ρ b:=λb d=>by have:=f.low b d;rw [if_neg (by omega),if_neg (λe=>by have:=(v b e).1;omega)]
 have r:∀ i,i≠last+1->(if i=last+1 then c else nb i)=nb i:=λi s=>if_neg s;have E:∀ m,m ∈ R->Qf (R++[n]) m.id=Qf R m.id:=λm g=>by have:=F.pos m g;rw [Jt,QaB,if_neg (by omega),append_nil]
 refine ⟨λi=>if i=last+1 then c else nb i,λb=>if b=c then some (last+1,0) else if av.ownBlock=some b then some (last+1,1) else ρ b,by simp,r,by simp;exact P,⟨⟨A.1,A.2.1,A.2.2,G,λb B H=>?_⟩,p,λb d=>?_⟩,⟨V,?_,?_,?_,λm g=>?_,λb d=>?_,by simp;omega⟩⟩
 ·exact C b B (λe=>H (by rw [e,f.role];rfl)) (λe=>H (by rw [e,f.mrole];rfl))
 ·simp only at d;by_cases e:b=c
  ·right;omega
  rw [if_neg e] at d;by_cases o:av.ownBlock=some b
  ·exact .inr (v b o).1
  rw [if_neg o] at d;exact .inl d
 ·exact (p q (by rw [f.role];rfl)).trans f.role
 ·exact (p mb (by rw [f.mrole];rfl)).trans f.mrole
 ·have e:Z8 (λi=>if i=last+1 then c else nb i) (R++[n])=λj=>if j=last+1 then some c else Z8 nb R j:=by
   funext j;by_cases t:j=last+1
   ·rw [if_pos t,t,<- k,Qdr (by simp),k,if_pos rfl]
   rw [if_neg t];unfold Z8;rw [any_append];have:([n].any λm=>m.id==j)=false:=by simp [k];omega
   rw [this,Bool.or_false];simp only [if_neg t]
  rw [e,length_append];exact L
 ·rcases Xa4.1 g with g|g
  ·obtain ⟨y,z,X⟩:=f.node m g;have a2:=u m g;have B:∀ b j,ρ b=some (m.id,j)->w'.heap[b]?=w.heap[b]?:=λb j e=>by
    have a3:=F.pos m g;refine C b (f.low b (by rw [e];rfl)) (λx=>?_) (λx=>?_)
    ·rw [x,f.role] at e;have:=(Xb8 (Xb5 e)).1;omega
    rw [x,f.mrole] at e;have:=(Xb8 (Xb5 e)).1;omega
   have h:=X.kept (w':=w') (R':=R++[n]) B p (E m g);have I:(if m.id=last+1 then c else nb m.id)=nb m.id:=r m.id (by omega);have o:QcI (λi=>if i=last+1 then c else nb i) m y z=QcI nb m y z:=by have l:=r m.par (by omega);unfold QcI ZJ;simp only [l]
   refine ⟨y,z,⟨?_,?_,h.arow,h.arole,?_,h.krole,h.few,h.rise,h.tag,h.text,h.size⟩⟩
   ·rw [o];simp only [I];exact h.blk
   ·simp only [I];exact h.role
   rw [QuW (nb:=nb) (λi s=>?_)]
   ·exact h.krow
   rw [E m g] at s;obtain ⟨x,l,_,rfl⟩:=Qbb.1 s;exact r x.id (by have:=(u x l).1;omega)
  rw [mem_singleton.1 g];have T:Qf (R++[n]) n.id=[]:=by rw [Jt,QaB,if_neg (by omega),append_nil];cases l:Qf R n.id with| nil=>rfl| cons a K =>obtain ⟨x,U,a4,_⟩:=Qbb.1 (show a ∈ Qf R n.id by rw [l];simp);have:=(u x U).2.2;omega
  refine ⟨av,Xv,⟨?_,?_,D,λb e=>?_,?_,(λb e=>by cases e),N,J,W,l,S⟩⟩
  ·simp only [k,if_true];rw [M];unfold QcI ZJ;rw [k,O,if_pos rfl]
  ·simp only [k,if_true]
  ·show (if b=c then some (last+1,0) else if av.ownBlock=some b then some (last+1,1) else ρ b)=some (n.id,1);rw [if_neg (v b e).2,if_pos e,k]
  rw [T];exact Xc0 _ _ _ _
 replace d:(if b=c then some (last+1,0) else if av.ownBlock=some b then some (last+1,1) else ρ b).isSome=true:=d;by_cases e:b=c
 ·omega
 rw [if_neg e] at d;by_cases o:av.ownBlock=some b
 ·exact (D.lt b o).2
 rw [if_neg o] at d;exact Xb4 (f.low b d) G
theorem QeZ {P:Program} (w:World) {f:Oper} {a:Act} {K:Act->World->Prop} (s x:Operand) (t:TypeId) (C:f.op=.call { callee:=.builtin .append,args:=#[s,x],argTypes:=#[t,t] }) (base:Nat) (e:TypeId) (i:TypeInfo) (k:Value) (size g:Nat) (D:P.underlying t=some (.slice e)) (E:P.info? e=some i) (F:i.zero=some k) (o:i.size=size) (z:i.bytes=g) (A:k.cells.size=size) (v:Value) (n:Nat) (h:List Value) (G:a.eval s=v) (y:w.ownsRow base e size v n h) (ao:Option Addr) (m c:Nat) (b:List Value) (H:a.eval x=.slice ao m c) (p:ao=none->m=0/\c=0) (I:b.length=m*size) (q:∀ a,ao=some a->∀ j u,b[j]?=some u->w.cell? (a.add j)=some u) (J:∀ u ∈ b,u.oneCell'=true) (B:n+m<=9223372036854775807) (l:(n+m)*g<=140737488355328) (r:base<=w.heap.size) (O:∀ d w',w'.ownsRow base e size d (n+m) (h++b)->ZV w w' v d->K (a.put f.dst d) w'):f.wp P a w K Q:=by obtain ⟨d,w',L,M,N,R⟩:=Qmg (P:=P) w base t f.type e i k size g D E F o z A v n h y ao m c b p I q J B l r;unfold Oper.wp execOp;simp only [C,resolve,invoke,builtin,Sem.run_bind,Sem.run_pure,Result.andThen_ok,map_toArray,map_cons,map_nil,G,H,L];exact O d w' M N
theorem QiQ b6 nb B Y w q R last (a0:Ql b6 nb B Y w q R last) (d C:Int) (h k:ByteArray) ao (an ac:Nat) (l:List (ByteArray × ByteArray)) (aW:an=l.length) (c5:an<=5) (bb:ZM l) (aX:Zn w ao an (QP l) (Q6 l)) (bj:0<=last) (ca:last<=4611686018427387904) (bM:Qx R) (aS:∀ n,n ∈ R->n.id<=last/\0<=n.par/\n.par<=last) (bc:R.length<800) (cb:h.size<=1000000) (cc:k.size<=1000000) (aY:∀ x,x ∈ l->x.1.size<=1000000/\x.2.size<=1000000) : Xl 43 #[Xp q,.agg #[Xi d,.string h,Xi C,.slice ao an ac,.string k]] w (Qhe b6 nb B Y w q R last { id:=last+1,par:=0,tag:=h,key:=C,text:=k,ats:=l,ao:=none,an:=0,ac:=0 }):=by
 obtain ⟨bN,bO,bk,a7,bl⟩:=info_parts Qcr;have b7:=Qj a0.blk 2 (Xi last) rfl;have bP:=Qax a0.blk 2;have aZ:=Q9 a0.blk;have z:=Qa a0;have av:=Qa aW;have bm:=Qa aX;have bn:h.size<=281474976710656:=by omega
 have aw:k.size<=281474976710656:=by omega
 clear a0 aW aX;go_enter Tryz.func43,Tryz.ntmps43;go_wp2_with fail;generalize y:(w.setCell (Xa q 2) (Xi (last+1))).alloc (.cells #[Xi d,.string h,Xi C,.slice ao an ac,.string k] 33)=w1;have a7:w1.heap.size=w.heap.size+1:=by rw [<- y];simp
 have bQ:w1.cell? (Xa w.heap.size 1)=some (.string h):=by rw [<- y];simp [go_sem]
 have bR:w1.cell? (Xa w.heap.size 2)=some (Xi C):=by rw [<- y];simp [go_sem]
 have b8:w1.cell? (Xa w.heap.size 3)=some (.slice ao an ac):=by rw [<- y];simp [go_sem]
 have bS:w1.cell? (Xa w.heap.size 4)=some (.string k):=by rw [<- y];simp [go_sem]
 have bT:w1.cell? (Xa q 2)=some (Xi (last+1)):=by rw [<- y,World.cell?_alloc_lt _ _ _ (by rw [QJ];exact aZ)];exact Xc9 _ _ _ b7
 have b0:Hid (∀ b,b<w.heap.size->b≠q->w1.heap[b]?=w.heap[b]?):=Qa λb v s=>by rw [<- y,heap_alloc_old _ _ (by rw [QJ];exact v)];exact X5 s
 have bo:Hid (w1.heap[q]?=some (.cells #[Qc1 Y,.map (some B),Xi (last+1)] 114 (0,0))):=Qa (by rw [<- y,heap_alloc_old _ _ (by rw [QJ];exact aZ)];exact QcJ (i:=2) z.out.blk _);have ax:Hid (w1.os=w.os/\w1.tape=w.tape/\w1.output=w.output):=Qa (by rw [<- y];exact ⟨rfl,rfl,rfl⟩);have cd:q<w1.heap.size:=by omega
 have bp:w.heap.size<w1.heap.size:=by omega
 have bq:=Qa a7;clear y a7 b7 bP
 go_region_held3 (λw'=>w'.cell? (Xa q 2)=some (Xi (last+1))/\w'.cell? (Xa w.heap.size 1)=some (.string h)/\w'.cell? (Xa w.heap.size 2)=some (Xi C)/\w'.cell? (Xa w.heap.size 4)=some (.string k))
   (first
     | go_keep
     | (go_split_ands
        refine ⟨?_,?_,?_,?_⟩
        · (rw [G.cell (by simp;omega)];assumption)
        · (rw [G.cell (by simp;omega)];assumption)
        · (rw [G.cell (by simp;omega)];assumption)
        · (rw [G.cell (by simp;omega)];assumption))
     | (go_split_ands
        refine ⟨?_,?_,?_,?_⟩
        · (rw [H.cell (by simp;omega)];assumption)
        · (rw [H.cell (by simp;omega)];assumption)
        · (rw [H.cell (by simp;omega)];assumption)
        · (rw [H.cell (by simp;omega)];assumption)))
   (first|(go_at_call_of 63 (Value.string h);refine (Qc5 h _ bn).mono ?_;rintro e bU ⟨rfl,G⟩;have b1:w1.heap.size<=bU.heap.size:=G.size)|(go_at_call_of 63 (Value.string k);refine (Qc5 k _ aw).mono ?_;rintro e aE ⟨rfl,H⟩;have br:=H.size))
 rename_i hHeld;clear hHeld;have a1:Xb w1 aE:=(Below.refl w1.heap.size w1).drew.trans (G.trans (H.mono b1));generalize a8:aE.heap.size=c;generalize a9:aE.alloc (.cells #[Xi (last+1),Xi C,.string h,.string k,Xv,.pointer none,Xv] 138)=m at *;have bs:Hid (m.heap[c]?=some (.cells #[Xi (last+1),Xi C,.string h,.string k,Xv,.pointer none,Xv] 138 (0,0))):=Qa (by rw [<- a9,<- a8];exact Xc5 _ _);have aq:Xb w1 m:=by rw [<- a9];exact a1.alloc a1.size _
 have ay:m.heap.size=c+1:=by rw [<- a9,<- a8];simp
 have ce:w1.heap.size<=c:=by rw [<- a8];exact a1.size
 have cn:=(Xh aq w.heap.size 3 bp).trans b8;have K:=Qa aq;have bt:=Qa ay;clear G H b1 br a1 aq ay a9 a8 bQ bR b8 bS bT;go_wp2;go_loopw [7,32] (λ_ i wr=>∃ (j:Nat) (ah:Value),j<=an/\i=Xi j/\Hid (wr.heap[c]?=some (.cells #[Xi (last+1),Xi C,.string h,.string k,ah,.pointer none,Xv] 138 (0,0)))/\Hid (wr.ownsRow m.heap.size 72 2 ah j (QS (l.take j)))/\Hid (m.heap.size<=wr.heap.size)/\Hid (∀ b,b<m.heap.size->b≠c->wr.heap[b]?=m.heap[b]?)/\Hid (wr.os=m.os/\wr.tape=m.tape/\wr.output=m.output)) (λ_ i _=>an-(intOf i).toNat);·exact ⟨0,Xv,X3,rfl,bs,Qa (Xc0 _ _ _ _),Qa X0,Qa (λ_ _ _=>rfl),Qa ⟨rfl,rfl,rfl⟩⟩
 case round =>
  obtain ⟨j,ah,co,rfl,V,a2,bu,a3,L⟩:=hrel;have ay:=bt.out;have c6:=bu.out;by_cases bv:j<an
  ·have aa:j<l.length:=by have:=av.out;omega
   obtain ⟨g,aQ,bw,bx,f,N,_,_⟩:=bm.out j bv;subst bw;have bz:g≠q:=λe=>by
    subst e;have D:=z.out.blk;simp only [World.cell?,D] at f;rcases O:(aQ+j*2) with _|_|_|n
    ·rw [O] at f;cases Y<;>simp [Qc1] at f
    ·rw [O] at f;simp at f
    ·rw [O] at f;simp at f
    rw [O] at f;simp at f
   have az:wr.heap[g]?=w.heap[g]?:=(a3.out g (by omega) (by omega)).trans ((K.out.block g (by omega)).trans (b0.out g bx bz));have bV:wr.cell? (Xa g (aQ+j*2))=some (.string l[j].1):=by rw [World.cell?_of_block az,f];unfold QP;rw [Xg aa];rfl
   have bW:wr.cell? (Xa g (aQ+j*2+1))=some (.string l[j].2):=by rw [World.cell?_of_block az,N];unfold Q6;rw [Xg aa];rfl
   have cf:=aY l[j] (Xa0 aa);have bA:l[j].1.size<=281474976710656:=by omega
   have bB:l[j].2.size<=281474976710656:=by omega
   have cg:(j:Int)<(an:Int):=by omega
   obtain ⟨P,T,M⟩:=Qy a2.out;clear f N az;subst M;go_wp2_with fail;have bC:l[j]=(l[j].1,l[j].2):=rfl;generalize ch:l[j].1=o at *;generalize ci:l[j].2=r at *;generalize W:wr.alloc (.cells #[.string o,.string r] 72)=E;have aA:=Xt W;have b9:=X1 W;have aF:=Xz W 0 (.string o) rfl;have aG:=Xz W 1 (.string r) rfl;have X:c<wr.heap.size:=by omega
   have aB:E.heap[c]?=_:=(aA.block c X).trans V.out;have aH:=Qj aB 4 (.slice P j T) rfl;have aI:Xf E c 4:=Qax aB 4;have bD:=Qa aA;have cp:=Qa b9;have b2:wr.heap.size<E.heap.size:=by omega
   have b3:c<E.heap.size:=by omega
   clear W aA b9 bV bW aB;have ab:(λw'=>Xf w' c 4/\Xc w' c 4 (.slice P j T)/\Xc w' wr.heap.size 0 (.string o)/\Xc w' wr.heap.size 1 (.string r)) E.drew:=⟨aI,aH,aF,aG⟩;refine ZU (S:=(λw'=>w'.frozen? (Xa c 4)=false/\w'.cell? (Xa c 4)=some (.slice P j T)/\w'.cell? (Xa wr.heap.size 0)=some (.string o)/\w'.cell? (Xa wr.heap.size 1)=some (.string r))) (by kernel_rfl) ?_;iterate 7
    apply Qbz ?_ ab ?_;rotate_left
    ·(intro w' hSw;(try dsimp only at hSw);simp only [Xq];go_simp;try (with_reducible rfl))
    simp only [Xq,Xr]
   refine J9 8 ?_;apply Qbh ?_ ab ?_;rotate_left
   ·(intro w' hSw;(try dsimp only at hSw);simp only [Xq];go_simp;try (with_reducible rfl))
   simp only [Xq,Xr];refine J9 9 ?_;apply Qbh ?_ ab ?_;rotate_left
   ·(intro w' hSw;(try dsimp only at hSw);simp only [Xq];go_simp;try (with_reducible rfl))
   simp only [Xq,Xr];refine Qbe 7 ?_;simp only [Xq];go_simp;refine (Qc5 o _ bA).mono ?_;rintro e aJ ⟨rfl,I⟩;have cq:E.heap.size<=aJ.heap.size:=I.size;have aK:=(Xh I wr.heap.size 0 b2).trans aF;have aL:=(Xh I wr.heap.size 1 b2).trans aG;have aM:=(Xh I c 4 b3).trans aH;have aN:=(Xj I c 4 b3).trans aI;have bE:Hid (Xb wr aJ):=Qa (bD.out.trans (((Below.refl E.heap.size E).drew.trans I).mono (by omega)));refine ⟨.inr ⟨aN,aM,aK,aL⟩,?_⟩;clear I ab aF aG aH aI;try simp only [Xr]
   refine Qbe 10 ?_;simp only [Xq];go_simp;refine (Qc5 r _ bB).mono ?_;rintro e A ⟨rfl,F⟩;have cj:aJ.heap.size<=A.heap.size:=F.size;have f:=(Xh F wr.heap.size 0 (by show wr.heap.size<_;omega)).trans aK;have N:=(Xh F wr.heap.size 1 (by show wr.heap.size<_;omega)).trans aL;have aO:=(Xh F c 4 (by show c<_;omega)).trans aM;have ba:=(Xj F c 4 (by show c<_;omega)).trans aN;have aT:Hid (Xb wr A):=Qa (bE.out.trans (F.mono (by omega)));refine ⟨.inr ⟨ba,aO,f,N⟩,?_⟩;clear F aK aL aM aN;try simp only [Xr]
   refine Qbe 11 ?_;simp only [Xq];go_simp;refine Qbe 12 ?_;simp only [Xq];go_simp;generalize U:A.alloc (.cells #[.string o,.string r] 72)=t;have ar:Xb wr t:=by rw [<- U];exact aT.out.alloc aT.out.size _
   have b4:=X1 U;have aR:∀ a,some ((Xa A.heap.size 0):Addr)=some a->∀ i u,[Value.string o,.string r][i]?=some u->t.cell? (a.add i)=some u:=by rw [<- U];exact Q3 A #[.string o,.string r] 72
   have ai:=(Xc2 A (.cells #[.string o,.string r] 72) (Xa wr.heap.size 0) (by show wr.heap.size<_;omega)).trans f;have aj:=(Xc2 A (.cells #[.string o,.string r] 72) (Xa wr.heap.size 1) (by show wr.heap.size<_;omega)).trans N;have ak:=(Xc2 A (.cells #[.string o,.string r] 72) (Xa c 4) (by show c<_;omega)).trans aO;have aP:t.frozen? (Xa c 4)=false:=by rw [ar.frozen (p:=(Xa c 4)) X];exact Qax V.out 4
   rw [U] at ai aj ak;refine ⟨.inr ⟨aP,ak,ai,aj⟩,?_⟩;have J:=Qa ar;have ck:=Qa b4;have c7:wr.heap.size<t.heap.size:=by omega
   have bd:m.heap.size<=t.heap.size:=by omega
   clear U ar b4 f N aO ba;refine Qbe 13 ?_;simp only [Xq];refine QeZ t _ _ 31 (by rfl) m.heap.size 72 bN _ 2 32 Tryz.underlying31 bO bk a7 bl rfl (.slice P j T) j (QS (l.take j)) (by rfl) (QX a2.out J.out) (some (Xa A.heap.size 0)) 1 1 [.string o,.string r] (by rfl) (by simp) rfl aR (by simp [Value.oneCell']) (by omega) (by omega) bd ?_;intro cr ad al a4;obtain ⟨bX,bY,rfl⟩:=Qy al;have cl:t.heap.size<=ad.heap.size:=a4.size;have M:∀ b,Value.ownBlock (.slice P j T)=some b->m.heap.size<=b/\b<wr.heap.size:=λb e=>a2.out.lt b e;have a5:∀ b,b<t.heap.size->Value.ownBlock (.slice P j T)≠some b->ad.heap[b]?=t.heap[b]?:=λb v s=>a4.by.block b v (λe=>s e.symm);have ae:ad.heap[c]?=t.heap[c]?:=a5 c (by omega) (λe=>by have:=M _ e;omega);have aC:ad.heap[wr.heap.size]?=t.heap[wr.heap.size]?:=a5 wr.heap.size (by omega) (λe=>by have:=M _ e;omega);have bZ:=(Xk wr.heap.size 0 aC).trans ai;have c0:=(Xk wr.heap.size 1 aC).trans aj;have c1:=(Xk c 4 ae).trans ak;have c2:=(Xm c 4 ae).trans aP;refine ⟨.inr ⟨c2,c1,bZ,c0⟩,?_⟩;have aU:=Qa al;have au:=Qa a4;have bF:=Qa M;have bf:=Qa a5;have bG:=Qa ae;clear al a4 M a5 ae aC ai aj ak aP aR;try simp only [Xr]
   refine Qbe 14 ?_;simp only [Xq];go_simp;refine Qbe 15 ?_;simp only [Xq];go_simp;refine Qbe 16 ?_;simp only [Xq];go_simp;refine ⟨by kernel_rfl,?_⟩;refine ZP (by kernel_rfl) ?_ _;go_wp2;go_roundw
   ·have bg:=bG.out.trans ((J.out.block c X).trans V.out);refine ⟨j+1,.slice bX (j+1) bY,by omega,by go_num,Qa (QcJ (i:=4) bg _),?_,Qa (by rw [QJ];omega),Qa (λb v s=>?_),Qa ⟨?_,?_,?_⟩⟩
    ·have e:QS (l.take (j+1))=QS (l.take j)++[.string o,.string r]:=by rw [Qgm aa,Qgt,bC];rfl
     rw [e];exact Qa (Q8 aU.out λb c3=>X5 (λx=>by have x:b=c:=x;have:=(aU.out.lt b c3).1;omega))
    ·rw [X5 s,bf.out b (by omega) (λe=>by have:=bF.out b e;omega),J.out.block b (by omega)];exact a3.out b v s
    ·exact au.out.by.os.trans (J.out.os.trans L.out.1)
    ·exact au.out.by.tape.trans (J.out.tape.trans L.out.2.1)
    exact au.out.by.output.trans (J.out.output.trans L.out.2.2)
   simp [intOf];omega
  have b5:j=an:=by omega
  have af:Hid (wr.ownsRow m.heap.size 72 2 ah an (QS l)):=by have:=a2.out;rw [b5,take_of_length_le (by have:=av.out;omega)] at this;exact Qa this
  have X:c<wr.heap.size:=by omega
  have aV:=V.out;have cs:=Qj aV 0 (Xi (last+1)) rfl;have aD:wr.heap[q]?=some (.cells #[Qc1 Y,.map (some B),Xi (last+1)] 114 (0,0)):=(a3.out q (by omega) (by omega)).trans ((K.out.block q (by omega)).trans bo.out);have ct:=Qj aD 1 (.map (some B)) rfl;have ap:∀ b,b<w.heap.size->b≠q->wr.heap[b]?=w.heap[b]?:=λb v s=>(a3.out b (by omega) (by omega)).trans ((K.out.block b (by omega)).trans (b0.out b v s));have bh:Hid (JJ wr B (Z8 nb R) R.length):=Qa (z.out.map.heap (ap B z.out.map.lt (λe=>by have D:=z.out.mrole;rw [e,z.out.role] at D;have:=(Xb8 (Xb5 D)).2;omega)));have bH:=Qa aD;have bI:=Qa ap;clear b5 aD ap aV;go_wp2_with fail;have bJ:Hid (Z8 nb R (last+1)=none):=Qa (Qen (λn s=>by have:=(aS n s).1;omega));go_still_tail 9,(by kernel_rfl);change wpList _ _ _ _ _ wr.drew;go_wp2_with (first|(at_mapUpdate;refine Qt9 _ rfl _ _ _ rfl rfl (JJ.heap (w':=wr.drew) (Qb bh) rfl) (by unfold maxLen;omega) (last+1) c ⟨by omega,by omega⟩ rfl rfl (Qb bJ) ?_;intro w2 bK ag aw));go_ret;have bL:q≠B:=λe=>by have D:=z.out.mrole;rw [<- e,z.out.role] at D;have:=(Xb8 (Xb5 D)).2;omega
  have cm:=z.out.map.lt;have a6:∀ b,b<wr.heap.size->b≠B->w2.heap[b]?=wr.heap[b]?:=λb v s=>ag.out.block b v (λe=>s (Xb5 e));have c8:w2.heap.size=wr.heap.size:=aw;have c9:=bq.out;have bi:=av.out;refine Ql.added z.out bM bj aS bc (n:={ id:=last+1,par:=0,tag:=h,key:=C,text:=k,ats:=l,ao:=none,an:=0,ac:=0 }) rfl rfl (by omega) (by omega) (by omega) ⟨ag.out.os.trans (L.out.1.trans (K.out.os.trans ax.out.1)),ag.out.tape.trans (L.out.2.1.trans (K.out.tape.trans ax.out.2.1)),ag.out.output.trans (L.out.2.2.trans (K.out.output.trans ax.out.2.2))⟩ (λb v D c4=>(a6 b (by omega) c4).trans (bI.out b v D)) ((a6 q (by omega) bL).trans bH.out) bK.out ((a6 c X (by omega)).trans V.out) ?_ (λb e=>?_) (by show l.length<=5;omega) bb (by show h.size<=_;unfold maxLen;omega) (by show k.size<=_;unfold maxLen;omega) (λx O=>by have:=aY x O;unfold maxLen;omega)
  ·show World.ownsRow _ _ _ _ _ l.length _;rw [<- bi];exact Q8 (QtW af.out) λb e=>a6 b (af.out.lt b e).2 (by have:=(af.out.lt b e).1;omega)
  have:=af.out.lt b e;exact ⟨by omega,by omega⟩
end Go.Proofs.YtobgcaemnpkbmaaGreat
