import Derived.Test.YtobgcaemnpkbmaaGreatY17
import Derived.Shelf.RegionOpenPlain
import Derived.ScopeJumps
import Derived.WalkMore
import Derived.WideKeyEntry
import Derived.DeepKeys4
namespace Go.Proofs.YtobgcaemnpkbmaaGreat
set_option maxRecDepth 100000
set_option maxHeartbeats 8000000
open Go.RowKit List
variable {Q:Exit->Act->World->Prop} {xs:List Value} {N g i k m mb n p:Nat} {ah:Nat->Int} {w w1 wr:World}
def Qaw (D:Nat->Int) (n i:Nat):Bool:=(i==n)||(D i==D 0+1)
def Zo (D:Nat->Int) (n:Nat):Nat->List (Nat × Nat) × Nat
 | 0=>([],1)
 | k+1=>bif Qaw D n (k+2) then ((Zo D n k).1++[((Zo D n k).2,k+2)],k+2) else Zo D n k
def JD (D:Nat->Int) (n:Nat):List (Nat × Nat):=(Zo D n (n-1)).1
def Qct (b a c:Nat) (s:Nat × Nat):Value:=.slice (some (Xa b (a+s.1*5))) (s.2-s.1) (c-s.1)
def QaZ (b a c:Nat) (l:List (Nat × Nat)):List Value:=l.map (Qct b a c)
theorem Qc7 {D:Nat->Int} (a:Qaw D n (k+2)=true):Zo D n (k+1)=((Zo D n k).1++[((Zo D n k).2,k+2)],k+2):=by simp only [Zo,a,cond_true]
theorem Qd1 {D:Nat->Int} (a:Qaw D n (k+2)=false):Zo D n (k+1)=Zo D n k:=by simp only [Zo,a,cond_false]
theorem Qed (D:Nat->Int) (n:Nat):∀ k,1<=(Zo D n k).2/\(Zo D n k).2<=k+1| 0=>⟨X0,X0⟩| k+1=>by have:=Qed D n k;cases a:Qaw D n (k+2) with| true=>rw [Qc7 a];exact ⟨by show 1<=k+2;omega,X0⟩| false=>rw [Qd1 a];omega
theorem QiA (D:Nat->Int) (n:Nat):∀ k,(Zo D n k).1.length<=k| 0=>X0| k+1=>by have:=QiA D n k;cases a:Qaw D n (k+2) with| true=>rw [Qc7 a];show (List.append _ _).length<=_;rw [append_eq,length_append];show _+1<=_;omega| false=>rw [Qd1 a];omega
theorem Qr5 (b d n c:Nat) (D:Nat->Int) (w:World) (O:1<=n) (a9:n<=c) (a5:n<=100000) (E:b<w.heap.size) (P:∀ i,i<n->w.cell? (Xa b (d+i*5))=some (Xi (D i))) (R:∀ i,i<n->0<=D i/\D i<=1000) : Xl 95 #[.slice (some (Xa b d)) n c] w λe w'=>∃ q,e=.returned q/\w'.ownsRow w.heap.size 24 1 q (JD D n).length (QaZ b d c (JD D n))/\Xb w w':=by
 obtain ⟨S,T,K,L,M⟩:=info_parts QkY;have t:=Qa P;have x:=Qa R;clear P R;go_enter Tryz.func95,Tryz.ntmps95;go_wp2;go_loopw [3,4,5] (λa1 s i wr=>∃ (j a:Nat) (q:Value) (l:List (Nat × Nat)),2<=j/\j<=n+1/\i=Xi (j:Int)/\s=Xi (a:Int)/\q=a1/\Hid (Zo D n (j-2)=(l,a))/\Hid (wr.ownsRow w.heap.size 24 1 q l.length (QaZ b d c l))/\Hid (Xb w wr)) (λ_ _ i _=>n+1-(intOf i).toNat);·exact ⟨2,1,_,[],X0,by omega,rfl,rfl,rfl,Qa rfl,Qa (Xc0 _ _ _ _),Qa (.refl _ _)⟩
 case round =>
  obtain ⟨j,a,q,l,a6,aa,rfl,rfl,rfl,k,m,h⟩:=hrel;by_cases a7:j<=n
  ·have z:1<=a/\a<j:=by have:=Qed D n (j-2);rw [k.out] at this;exact ⟨this.1,by have:=this.2;omega⟩
   have a8:l.length<=n:=by have:=QiA D n (j-2);rw [k.out] at this;have:l.length<=j-2:=this;omega
   have a3:=z.1;have a4:=z.2;clear z;have F:wr.cell? (Xa b d)=some (Xi (D 0)):=(Xh h.out b d E).trans (by simpa using t.out 0 O);have A:=x.out 0 O;have ab:=A.1;have ac:=A.2;clear A;obtain ⟨U,V,rfl⟩:=Qy m.out;have Y:=h.out.size;have N:b<wr.heap.size:=Xb4 E Y;by_cases G:j=n
   ·have a2:((j:Int)==(n:Int))=true:=by rw [G];simp
    have o:Qaw D n (j-2+2)=true:=by unfold Qaw;rw [show j-2+2=n by omega];simp
    have ad:=Qa G;clear G;go_wp2;go_big_quiet (fail);have f:=Qa (Q8 (w':=wr.drewN nq) m.out λ_ _=>rfl);have g:=Qa (Qv h.out nq);have B:b<(wr.drewN nq).heap.size:=N;clear m h t x F;generalize wr.drewN nq=y at f g B ⊢;have C:=g.out.size;go_wp2_with ((at_builtin;refine Zp _ rfl (.tmp 29) (.tmp 34) 38 rfl w.heap.size 24 S Xv 1 24 Tryz.underlying38 T K L M rfl (.slice U l.length V) _ _ rfl (f.out.alloc _) (some (Xa y.heap.size 0)) 1 1 [Qct b d c (a,j)] rfl (by simp) rfl (Q3 _ _ _) (by simp [Value.oneCell',Qct]) (by omega) (by omega) (by simp;omega) ?_;intro u v p r _));have H:Hid (Zo D n (j+1-2)=(l++[(a,j)],j)):=Qa (by rw [show j+1-2=j-2+1 by omega,Qc7 o,k.out,show j-2+2=j by omega]);have I:Hid (v.ownsRow w.heap.size 24 1 u (l++[(a,j)]).length (QaZ b d c (l++[(a,j)]))):=Qa (by rw [length_append,show QaZ b d c (l++[(a,j)])=QaZ b d c l++[Qct b d c (a,j)] by simp [QaZ]];exact p.out);have J:Hid (Xb w v):=Qa ((g.out.alloc C _).grown r.out.by (by simp;omega) (λb e=>(f.out.lt b e).1));clear p r k;go_wp2_with fail;exact ⟨⟨j+1,j,u,l++[(a,j)],by omega,by omega,by go_num,rfl,rfl,H,I,J⟩,by simp only [intOf];omega⟩
   have a2:((j:Int)==(n:Int))=false:=by rw [beq_eq_false_iff_ne];omega
   have a0:j<n:=by omega
   have W:Xc wr b (d+j*5) (Xi (D j)):=(Xh h.out b (d+j*5) E).trans (t.out j a0);cases X:(D j==D 0+1) with
   | true =>
    have o:Qaw D n (j-2+2)=true:=by unfold Qaw;rw [show j-2+2=j by omega,X];simp
    go_wp2;go_big_quiet (fail);have f:=Qa (Q8 (w':=wr.drewN nq) m.out λ_ _=>rfl);have g:=Qa (Qv h.out nq);have B:b<(wr.drewN nq).heap.size:=N;clear m h t x F W;generalize wr.drewN nq=y at f g B ⊢;have C:=g.out.size;go_wp2_with ((at_builtin;refine Zp _ rfl (.tmp 29) (.tmp 34) 38 rfl w.heap.size 24 S Xv 1 24 Tryz.underlying38 T K L M rfl (.slice U l.length V) _ _ rfl (f.out.alloc _) (some (Xa y.heap.size 0)) 1 1 [Qct b d c (a,j)] rfl (by simp) rfl (Q3 _ _ _) (by simp [Value.oneCell',Qct]) (by omega) (by omega) (by simp;omega) ?_;intro u v p r _));have H:Hid (Zo D n (j+1-2)=(l++[(a,j)],j)):=Qa (by rw [show j+1-2=j-2+1 by omega,Qc7 o,k.out,show j-2+2=j by omega]);have I:Hid (v.ownsRow w.heap.size 24 1 u (l++[(a,j)]).length (QaZ b d c (l++[(a,j)]))):=Qa (by rw [length_append,show QaZ b d c (l++[(a,j)])=QaZ b d c l++[Qct b d c (a,j)] by simp [QaZ]];exact p.out);have J:Hid (Xb w v):=Qa ((g.out.alloc C _).grown r.out.by (by simp;omega) (λb e=>(f.out.lt b e).1));clear p r k;go_wp2_with fail;exact ⟨⟨j+1,j,u,l++[(a,j)],by omega,by omega,by go_num,rfl,rfl,H,I,J⟩,by simp only [intOf];omega⟩
   | false =>
    have o:Qaw D n (j-2+2)=false:=by unfold Qaw;rw [show j-2+2=j by omega,X];simp;omega
    go_wp2;go_big_quiet (fail);have f:=Qa (Q8 (w':=wr.drewN nq) m.out λ_ _=>rfl);have g:=Qa (Qv h.out nq);clear m h t x F W;generalize wr.drewN nq=y at f g ⊢;go_wp2_with fail;exact ⟨⟨j+1,a,_,l,by omega,by omega,by go_num,rfl,rfl,Qa (by rw [show j+1-2=j-2+1 by omega,Qd1 o];exact k.out),f,g⟩,by simp only [intOf];omega⟩
  have:j=n+1:=by omega
  subst this;go_wp2;go_ret;have e:JD D n=l:=by unfold JD;rw [show n-1=n+1-2 by omega,k.out]
  rw [e];exact ⟨q,rfl,m.out,h.out⟩
def QL (x:Int):Bool:=!Qab x
theorem QvL {l:List Int} (b:Qbt Qab l=-1):l.filter QL=l:=by rw [filter_eq_self];intro x c;unfold Qbt at b;cases a:l.findIdx? Qab with| some k=>rw [a] at b;simp at b| none =>rw [findIdx?_eq_none_iff] at a;unfold QL;rw [a x c];rfl
theorem Qu1 (l:List Int):Qbt Qab l=-1 \/ ∃ k,∃ a:k<l.length,Qbt Qab l=(k:Int)/\Qab l[k]=true/\∀ j,(d:j<l.length)->j<k->Qab l[j]=false:=by unfold Qbt;cases b:l.findIdx? Qab with| none=>exact .inl rfl| some k =>rw [findIdx?_eq_some_iff_getElem] at b;obtain ⟨a,e,c⟩:=b;exact .inr ⟨k,a,rfl,e,λj d f=>by simpa using c j f⟩
theorem Qw1 {l:List Int} (c:k<l.length) (d:Qab l[k]=true) (b:∀ j,(a:j<l.length)->j<k->Qab l[j]=false):(l.take (k+1)).filter QL=l.take k:=by
 rw [take_succ_eq_append_getElem c,filter_append];have f:(l.take k).filter QL=l.take k:=by rw [filter_eq_self];intro x g;obtain ⟨j,a,rfl⟩:=Xa3 g;rw [length_take] at a;rw [getElem_take];unfold QL;rw [b j (by omega) (by omega)];rfl
 rw [f];simp [QL,d]
theorem QvW (l:List Int) (k:Nat):(Qs l).take k=Qs (l.take k):=by unfold Qs;rw [map_take]
theorem QnC (l:List Int) (k:Nat):(Qs l).drop k=Qs (l.drop k):=by unfold Qs;rw [map_drop]
theorem QtF (B:Nat) (ao:Option Addr) (n c:Nat) (l:List Int) (w:World) (r:w.ownsRow B 3 1 (.slice ao n c) n (Qs l)) (C:n<=1000000) : Xl 115 #[.slice ao n c,.func (.func 117) #[] #[]] w λe w'=>∃ q,e=.returned q/\w'.ownsRow B 3 1 q (l.filter QL).length (Qs (l.filter QL))/\Qi (λb=>B<=b) w w':=by
 have x:=Qa (QuR B ao n c l w r C);have a0:l.length=n:=by have:=r.1;rw [QaR] at this;omega
 rcases Qu1 l with s|⟨k,a1,s,N,O⟩
 ·have I:=Qa (QvL s);have a7:=Qa r;rw [s] at x;clear r s;go_enter Tryz.func115,Tryz.ntmps115;go_wp2_with (first|(go_at_call 131;refine (Qb x).mono ?_;rintro e w1 ⟨rfl,rfl⟩));go_ret;refine ⟨_,rfl,?_,Qi.of_below X4⟩;rw [I.out,a0];exact a7.out
 rw [s] at x;have F:=Qa (Qw1 a1 N O);have a2:0<n:=by omega
 obtain ⟨g,_,U,_,V,a9⟩:=Qb0 r a2;subst U;have R:Hid (∃ a,w.ownsRow B 3 1 (Xe g n c) n a/\a.take k=Qs ((l.take (k+1)).filter QL)/\a.drop (k+1)=Qs (l.drop (k+1))/\((l.take (k+1)).filter QL).length=k):=Qa ⟨Qs l,r,by rw [F.out,QvW],QnC _ _,by rw [F.out,length_take];omega⟩;clear r s F N O;go_enter Tryz.func115,Tryz.ntmps115;go_wp2_with (first|(go_at_call 131;refine (Qb x).mono ?_;rintro e w ⟨rfl,rfl⟩));go_loopw [5,6,7] (λa3 J _ wr=>∃ i j:Nat,i<j/\j<=n/\a3=Xi i/\J=Xi j/\Hid (∃ a,wr.ownsRow B 3 1 (Xe g n c) n a/\a.take i=Qs ((l.take j).filter QL)/\a.drop j=Qs (l.drop j)/\((l.take j).filter QL).length=i)/\Hid (Qi (λb=>B<=b) w wr)) (λ_ J _ _=>n-(intOf J).toNat);·exact ⟨k,k+1,by omega,by omega,rfl,by go_num,R,Qa (Qi.of_below X4)⟩
 case round =>
  obtain ⟨i,j,aa,ab,rfl,rfl,z,E⟩:=hrel;clear R x;obtain ⟨a,d,o,v,h⟩:=z.out;have G:a.length=n:=by have:=d.1;omega
  have a4:∀ M,Xf wr g M:=λM=>d.frozenAt M;by_cases ac:j<n
  ·have H:j<l.length:=by omega
   have ak:wr.cell? (Xa g j)=some (Xi l[j]):=by rw [d.cellAt j (by omega)];have f:=congrArg (λa8=>a8[0]?) v;simp only [getElem?_drop,Nat.add_zero] at f;rw [f];unfold Qs;rw [getElem?_map,getElem?_drop,Nat.add_zero,getElem?_eq_getElem H];rfl
   have S:∃ u,wr.cell? (Xa g i)=some u:=⟨a[i]'(by omega),by rw [d.cellAt i (by omega),getElem?_eq_getElem]⟩;obtain ⟨u,S⟩:=S;have W:(j:Int)<(n:Int):=by omega
   have ad:(i:Int)<(n:Int):=by omega
   have D:=Qa (QgT l[j] wr);have A:a.drop (j+1)=Qs (l.drop (j+1)):=by have:=congrArg (List.drop 1) v;rw [drop_drop,QnC,drop_drop] at this;exact this
   by_cases e:Qab l[j]=true
   ·have e':(l[j]==-1)=true:=e;have K:Hid (∃ a,wr.ownsRow B 3 1 (Xe g n c) n a/\a.take i=Qs ((l.take (j+1)).filter QL)/\a.drop (j+1)=Qs (l.drop (j+1))/\((l.take (j+1)).filter QL).length=i):=by
     have y:(l.take (j+1)).filter QL=(l.take j).filter QL:=by rw [take_succ_eq_append_getElem H,filter_append];simp [QL,e]
     exact Qa ⟨a,d,by rw [y];exact o,A,by rw [y];exact h⟩
    rw [e'] at D;clear d o v h G A z;go_wp2_with (first|(go_at_call 117;refine (Qb D).mono ?_;rintro e w1 ⟨rfl,rfl⟩));go_roundw;·exact ⟨_,_,_,_,_,_,_,_,_,_,_,_,_,_,_,_,_,_,_,_,_,_,_,⟨i,j+1,by omega,by omega,rfl,by go_num,K,E⟩,rfl⟩
    simp [intOf];omega
   have e:Qab l[j]=false:=by simpa using e
   have e':(l[j]==-1)=false:=e;have K:Hid (∃ a,(wr.setCell (Xa g i) (Xi l[j])).ownsRow B 3 1 (Xe g n c) n a/\a.take (i+1)=Qs ((l.take (j+1)).filter QL)/\a.drop (j+1)=Qs (l.drop (j+1))/\((l.take (j+1)).filter QL).length=i+1):=by
    have y:(l.take (j+1)).filter QL=(l.take j).filter QL++[l[j]]:=by rw [take_succ_eq_append_getElem H,filter_append];simp [QL,e]
    refine Qa ⟨a.set i (Xi l[j]),(d.stored i _).1,?_,?_,?_⟩
    ·rw [y,QcR,<- o,take_set,take_succ_eq_append_getElem (by omega),set_append_right _ _ (by rw [length_take];omega)];simp [length_take,Nat.min_eq_left (show i<=a.length by omega)]
    ·rw [drop_set,if_pos (by omega)];exact A
    rw [y,length_append,h];rfl
   have L:Hid (Qi (λb=>B<=b) w (wr.setCell (Xa g i) (Xi l[j]))):=Qa (E.out.set (.inl V) _);rw [e'] at D;clear d o v h G A z;go_wp2_with (first|(go_at_call 117;refine (Qb D).mono ?_;rintro e w1 ⟨rfl,rfl⟩));go_roundw;·exact ⟨_,_,_,_,_,_,_,_,_,_,_,_,_,_,_,_,_,_,_,_,_,_,_,⟨i+1,j+1,by omega,by omega,by go_num,by go_num,K,L⟩,rfl⟩
   simp [intOf];omega
  have X:j=n:=by omega
  subst X;have W:¬ (j:Int)<(j:Int):=by omega
  have ae:∀ ty,(Builtin.clear_ #[69] ty #[.slice (some (Xa g i)) (j-i) (c-i)]).run Tryz.prog wr=.ok (.tuple #[]) (wr.setCells g i (List.replicate (j-i) (Xi 0))):=λty => Lib.run_clear_slice wr _ _ ty _ Tryz.underlying69 (λw=>Tryz.zeroValue3 w) rfl rfl g i _ _ (by omega) (λt p=>by rw [d.cellAt (i+t) (by omega),getElem?_eq_getElem (by omega)];rfl) (λt _=>a4 _);obtain ⟨af,_,_,ag,ah⟩:=Qee d;have I:Hid ((wr.setCells g i (List.replicate (j-i) (Xi 0))).ownsRow B 3 1 (Xe g i c) i (Qs (l.filter QL))):=by
   have f:=QiG (QbM (List.replicate (j-i) (Value.int .i64 0)) i d) (m:=i) (by omega);rw [Qcs _ _ _ (by rw [length_replicate];omega)] at f;have a5:l.take j=l:=take_of_length_le (by omega);rw [a5] at o;have a6:(a.take i++List.replicate (j-i) (Value.int .i64 0)++a.drop (i+(List.replicate (j-i) (Value.int .i64 0)).length)).take (i*1)=Qs (l.filter QL):=by rw [append_assoc,take_append_of_le_length (by rw [length_take];omega),Nat.mul_one,take_take,Nat.min_self,o]
   rw [a6] at f;exact Qa f
  have P:(l.filter QL).length=i:=by rw [take_of_length_le (by omega)] at h;exact h
  have Y:=Qa P;have L:Hid (Qi (λb=>B<=b) w (wr.setCells g i (List.replicate (j-i) (Xi 0)))):=by obtain ⟨f,al⟩:=QaQ g (List.replicate (j-i) (Value.int .i64 0)) i wr;have p:=E.out;exact Qa ⟨f.os.trans p.os,f.tape.trans p.tape,f.output.trans p.output,Xb6 p.size f.size,λb T C=>(f.block b (Xb4 T p.size) (λe=>C (by have:=Xb5 e;omega))).trans (p.block b T C)⟩
  have ai:(i:Int)<=(j:Int):=by omega
  have aj:i<=j:=by omega
  clear d o v h G z P;go_wp2;go_ret;exact ⟨_,rfl,by rw [Y.out];exact I.out,L.out⟩
theorem Qro (B:Nat) (ao:Option Addr) (n c:Nat) (l:List Int) (w:World) (f:w.ownsRow B 3 1 (.slice ao n c) n (Qs l)) (O:n<=1000000) : Xl 116 #[.slice ao n c] w λe w'=>∃ q,e=.returned q/\w'.ownsRow w.heap.size 3 1 q n (Qs l)/\Xb w w':=by
 obtain ⟨C,D,r,s,t⟩:=info_parts QbF;have L:∀ w a l c,(binOp .eql 69 (.slice a l c) Xv).run Tryz.prog w=.ok (.bool a.isNone) w:=λw a l c => Lib.run_eql_slice_nil (P:=Tryz.prog) w 69 3 a l c 0 0 Tryz.underlying69;have E:l.length=n:=by have:=f.1;rw [QaR] at this;omega
 cases ao with
 | none =>
  have F:n=0:=by
   rcases f.2 with ⟨_,e⟩|⟨g,M,N,e,_⟩
   ·exact e
   simp at e
  subst F;have v:l=[]:=eq_nil_of_length_eq_zero E;subst v;clear f;go_enter Tryz.func116,Tryz.ntmps116;go_wp2;go_ret;exact ⟨_,rfl,Xc0 _ _ _ _,X4⟩
 | some m =>
  have T:=Qa f;have k:∀ a,some m=some a->∀ j u,(Qs l)[j]?=some u->∀ i,(w.alloc i).cell? (a.add j)=some u:=λa h j u d i=>by
   cases h;have G:j<n:=by have:=(Xd3.1 d).1;rw [QaR] at this;omega
   obtain ⟨g,y,e,H,_,I⟩:=Qb0 f G;cases e;rw [QdH,World.cell?_alloc_lt w i (Xa g (0+j)) I,Nat.zero_add,H];unfold Qs at d;rw [getElem?_map,getElem?_eq_getElem y] at d;exact d
  have J:=Qa k;clear f k;go_enter Tryz.func116,Tryz.ntmps116;have o:Hid ((w.alloc (.cells #[] 3)).ownsRow w.heap.size 3 1 (Xe w.heap.size 0 0) 0 []):=Qa (by refine ⟨rfl,.inr ⟨w.heap.size,0,#[],rfl,X0,?_,X0,by unfold maxLen;omega,rfl,rfl⟩⟩;show (w.heap.push _)[w.heap.size]?=_;simp);go_wp2_with ((at_builtin;refine Zp _ rfl (.tmp 5) (.tmp 6) 69 rfl w.heap.size 3 C (Xi 0) 1 8 Tryz.underlying69 D r s t rfl (Xe w.heap.size 0 0) 0 [] rfl o.out (some m) n c (Qs l) rfl (by simp) (by rw [QaR];omega) (λa h j u d=>J.out a h j u d _) (λu d=>by unfold Qs at d;obtain ⟨x,_,rfl⟩:=Xa5.1 d;rfl) (by omega) (by omega) (by simp) ?_;intro R S z A _));go_ret;have K:=((Below.refl w.heap.size w).alloc X0 (.cells #[] 3)).grown A.out.by (by simp) (λb e=>(o.out.lt b e).1);have p:=z.out;rw [Nat.zero_add,nil_append] at p;exact ⟨_,rfl,p,K⟩
def QbX (l:List Int) (t:Nat):List Int:=(List.range l.length).map λp=>if p<t \/ l.length-t<=p then l.getD (l.length-1-p) 0 else l.getD p 0
theorem Qd5 (l:List Int) (t:Nat):(QbX l t).length=l.length:=by unfold QbX;simp
theorem Qfz (l:List Int) (t p:Nat) (a:p<l.length):(QbX l t)[p]'(by rw [Qd5];exact a)=if p<t \/ l.length-t<=p then l.getD (l.length-1-p) 0 else l.getD p 0:=by unfold QbX;rw [getElem_map,getElem_range]
theorem QpW (l:List Int):QbX l 0=l:=by apply ext_getElem (Qd5 l 0);intro p b a;rw [Qfz l 0 p a,if_neg (by omega),Xg a];rfl
theorem QrK (l:List Int) (t:Nat) (f:l.length<=2*t+1) (d:2*t<=l.length):QbX l t=l.reverse:=by
 apply ext_getElem (by rw [Qd5,length_reverse]);intro p c g;have a:p<l.length:=by rwa [Qd5] at c
 rw [Qfz l t p a,getElem_reverse];have e:∀ q,(b:q<l.length)->l.getD q 0=l[q]:=λq b=>by rw [Xg b];rfl
 split
 ·rw [e _ (by omega)]
 rw [e _ a];congr 1
 omega
theorem Qn6 (l:List Int) (t:Nat) (g:t<l.length-1-t):((QbX l t).set t (l.getD (l.length-1-t) 0)).set (l.length-1-t) (l.getD t 0)=QbX l (t+1):=by
 apply ext_getElem (by simp [Qd5]);intro p h f;have a:p<l.length:=by rwa [Qd5] at f
 rw [Qfz l (t+1) p a,getElem_set,getElem_set];by_cases b:l.length-1-t=p
 ·rw [if_pos b,if_pos (by omega)];congr 1
  omega
 rw [if_neg b];by_cases c:t=p
 ·rw [if_pos c,if_pos (by omega)];congr 1
  omega
 rw [if_neg c,Qfz l t p a];by_cases d:p<t \/ l.length-t<=p
 ·rw [if_pos d,if_pos (by omega)]
 rw [if_neg d,if_neg (by omega)]
theorem Qk0 (l:List Int) (t p:Nat) (a:t<=p) (b:p<l.length-t):(Qs (QbX l t))[p]?=some (Xi (l.getD p 0)):=by unfold Qs;rw [getElem?_map,getElem?_eq_getElem (by rw [Qd5];omega),Qfz l t p (by omega),if_neg (by omega)];rfl
theorem QgK (l:List Int) (k:Nat) (x:Int):(Qs l).set k (Xi x)=Qs (l.set k x):=by unfold Qs;rw [map_set]
theorem Qq2 (B:Nat) (ao:Option Addr) (n c:Nat) (l:List Int) (w:World) (k:w.ownsRow B 3 1 (.slice ao n c) n (Qs l)) (H:n<=1000000) : Xl 130 #[.slice ao n c] w λe w'=>e=.returned (.tuple #[])/\w'.ownsRow B 3 1 (.slice ao n c) n (Qs l.reverse)/\Qi (λb=>B<=b) w w':=by
 have s:l.length=n:=by have:=k.1;rw [QaR] at this;omega
 have p:Hid (w.ownsRow B 3 1 (.slice ao n c) n (Qs (QbX l 0))):=Qa (by rw [QpW];exact k);clear k;go_enter Tryz.func130,Tryz.ntmps130;go_wp2;go_loopw [2,3] (λi u wr=>∃ t:Nat,2*t<=n/\i=Xi t/\u=Xi ((n:Int)-1-t)/\Hid (wr.ownsRow B 3 1 (.slice ao n c) n (Qs (QbX l t)))/\Hid (Qi (λb=>B<=b) w wr)) (λi _ _=>n-(intOf i).toNat);·exact ⟨0,by omega,rfl,by go_num,p,Qa (Qi.of_below X4)⟩
 case round =>
  obtain ⟨t,D,rfl,rfl,h,m⟩:=hrel;clear p;by_cases r:(t:Int)<(n:Int)-1-t
  ·have a:=h.out;obtain ⟨g,f,e⟩:∃ g f,Value.slice ao n c=Xe g n f:=by
    rcases a.2 with ⟨_,e⟩|⟨g,f,E,e,_⟩
    ·omega
    exact ⟨g,f,e⟩
   simp at e;obtain ⟨rfl,rfl⟩:=e;have o:=(a.lt g rfl);have I:Xc wr g t (Xi (l.getD t 0)):=(a.cellAt t (by omega)).trans (Qk0 l t t (by omega) (by omega));have J:Xc wr g (n-1-t) (Xi (l.getD (n-1-t) 0)):=(a.cellAt (n-1-t) (by omega)).trans (Qk0 l t (n-1-t) (by omega) (by omega));have K:=a.frozenAt t;have L:=a.frozenAt (n-1-t);have v:(n:Int)-1-t=((n-1-t:Nat):Int):=by omega
   rw [v] at r ⊢;have y:Hid (∀ w2:World,w2.heap=((wr.setCell (Xa g t) (Xi (l.getD (n-1-t) 0))).setCell (Xa g (n-1-t)) (Xi (l.getD t 0))).heap->w2.ownsRow B 3 1 (Xe g n c) n (Qs (QbX l (t+1)))):=Qa λw2 z=>by have j:=((a.stored t (Xi (l.getD (n-1-t) 0))).1.stored (n-1-t) (Xi (l.getD t 0))).1;rw [QgK,QgK] at j;subst s;rw [Qn6 l t (by omega)] at j;exact Q8 j λb _=>by rw [z]
   have d:Hid (Qi (λb=>B<=b) w ((wr.setCell (Xa g t) (Xi (l.getD (n-1-t) 0))).setCell (Xa g (n-1-t)) (Xi (l.getD t 0)))):=Qa ((m.out.set (.inl o.1) _).set (.inl o.1) _);clear a h;have C:Tryz.prog.follows .mixedOrders=true:=by kernel_rfl
   have F:t<n:=by omega
   have G:n-1-t<n:=by omega
   generalize M:n-1-t=q at *;generalize l.getD t 0=x at *;generalize l.getD q 0=N at *;go_wp2_with fail;go_region_o;go_wp2;go_roundw
   ·refine ⟨t+1,by omega,by go_num,?_,Qa (y.out _ rfl),Qa ⟨d.out.os,d.out.tape,d.out.output,d.out.size,d.out.block⟩⟩;congr 1
    omega
   simp [intOf];omega
  have A:=Qa (QrK l t (by omega) (by omega));go_wp2;refine bodyPost_end (results_none rfl _ _ _) rfl ?_;exact ⟨rfl,by rw [<- A.out];exact h.out,m.out⟩
def ZX (c:List Nat):Nat:=c.headD 0
def QU (v:Nat->Int) (C:List (List Nat)) (i:Nat):Nat:=(C.takeWhile λc=>decide (v (ZX c)<v i)).length
def QaE (C:List (List Nat)) (p i:Nat):List Nat:=i::(if p=0 then [] else C.getD (p-1) [])
def Qat (v:Nat->Int) (C:List (List Nat)) (i:Nat):List (List Nat) :=
 if QU v C i<C.length then C.set (QU v C i) (QaE C (QU v C i) i) else C++[QaE C (QU v C i) i]
def Qp (v:Nat->Int):Nat->List (List Nat)
 | 0=>[]
 | i+1=>Qat v (Qp v i) i
def QbE (v:Nat->Int) (n:Nat):List Int:=(((Qp v n).getLastD []).map v).reverse
theorem QdW (v:Nat->Int) (C:List (List Nat)) (i:Nat):QU v C i<=C.length:=by unfold QU;exact takeWhile_prefix _ |>.length_le
theorem Ql9 {v:Nat->Int} {C:List (List Nat)} (b:p<=C.length) (d:∀ q,(f:q<C.length)->q<p->v (ZX C[q])<v i) (c:(b:p<C.length)->¬ v (ZX C[p])<v i):QU v C i=p:=by
 unfold QU;induction C generalizing p with
 | nil=>simp at b;subst b;rfl
 | cons a C ih =>
  cases p with
  | zero =>have:=c (by simp);rw [takeWhile_cons,if_neg (by simpa using this)];rfl
  | succ p =>
   have h:=d 0 (by simp) (by omega);rw [takeWhile_cons,if_pos (by simpa using h),length_cons,ih (p:=p) (by simpa using b) (λq f g=>?_) (λg=>?_)]
   ·exact d (q+1) (by simpa using f) (by omega)
   exact c (by simpa using g)
def QdJ (a:Nat->Int):List Nat->Prop
 | []=>True
 | x::r=>a x=(match r with|[]=>-1|b::_=>(b:Int))/\QdJ a r
theorem QlP {a:Nat->Int}:∀ {c:List Nat},(∀ x,x ∈ c->a x=ah x)->QdJ ah c->QdJ a c:=by
 intro c;induction c with
 | nil=>intro _ _;trivial
 | cons x r ih=>intro d b;exact ⟨(d x (by simp)).trans b.1,ih (λg f=>d g (by simp [f])) b.2⟩
structure QdY (ah:Nat->Int) (C:List (List Nat)) (i:Nat):Prop where
 ne:∀ c,c ∈ C->c≠[]
 lt:∀ c,c ∈ C->∀ x,x ∈ c->x<i
 back:∀ c,c ∈ C->QdJ ah c
 dec:∀ c,c ∈ C->c.Pairwise λx y=>y<x
 few:C.length<=i
theorem QdY.zero (b:Nat->Int):QdY b [] 0:=⟨λ_ a=>by simp at a,λ_ a=>by simp at a,λ_ a=>by simp at a,λ_ a=>by simp at a,X0⟩
def Qcl (C:List (List Nat)) (p:Nat):Int:=if p=0 then -1 else (ZX (C.getD (p-1) []):Int)
theorem QkN {C:List (List Nat)} {x:Nat} (a:x ∈ QaE C p i):x=i \/ ∃ c,c ∈ C/\x ∈ c:=by
 unfold QaE at a;rcases mem_cons.1 a with a|a
 ·exact .inl a
 right;split at a
 ·simp at a
 rw [getD_eq_getElem?_getD] at a;cases b:C[p-1]? with| none=>rw [b] at a;simp at a| some c=>rw [b] at a;exact ⟨c,Xb0 b,a⟩
theorem QdY.step {l:Nat->Int} {v:Nat->Int} {C:List (List Nat)} (b:QdY ah C i) (m:∀ x,x<i->l x=ah x) (f:l i=Qcl C (QU v C i)):QdY l (Qat v C i) (i+1):=by
 have y:=QdW v C i;have k:∀ c,c ∈ Qat v C i->c ∈ C \/ c=QaE C (QU v C i) i:=λc a=>by
  unfold Qat at a;split at a
  ·rcases Xb2 a with e|e
   ·exact .inl e
   exact .inr e
  rcases Xa4.1 a with e|e
  ·exact .inl e
  exact .inr (Xa2.1 e)
 refine ⟨λc a=>?_,λc a x d=>?_,λc a=>?_,λc a=>?_,?_⟩
 ·rcases k c a with e|e
  ·exact b.ne c e
  rw [e];unfold QaE;simp
 ·rcases k c a with e|e
  ·have:=b.lt c e x d;omega
  rw [e] at d;rcases QkN d with z|⟨p,q,s⟩
  ·omega
  have:=b.lt p q x s;omega
 ·rcases k c a with e|e
  ·exact QlP (λx d=>m x (b.lt c e x d)) (b.back c e)
  rw [e];unfold QaE Qcl at *;by_cases h:QU v C i=0
  ·rw [if_pos h] at f ⊢;exact ⟨f,trivial⟩
  rw [if_neg h] at f ⊢;have j:QU v C i-1<C.length:=by omega
  rw [Xg j] at f ⊢;have g:C[QU v C i-1] ∈ C:=Xa0 j;have t:=b.ne _ g;simp only [Option.getD_some] at f ⊢;cases d:C[QU v C i-1] with| nil=>exact absurd d t| cons n r =>rw [d] at f g;exact ⟨f,QlP (λx o=>m x (b.lt _ g x o)) (b.back _ g)⟩
 ·rcases k c a with e|e
  ·exact b.dec c e
  rw [e];unfold QaE;by_cases h:QU v C i=0
  ·rw [if_pos h];simp
  have j:QU v C i-1<C.length:=by omega
  have g:C[QU v C i-1] ∈ C:=Xa0 j;rw [if_neg h,Xg j];exact pairwise_cons.2 ⟨λn u=>b.lt _ g n u,b.dec _ g⟩
 unfold Qat;have:=b.few;split
 ·rw [length_set];omega
 rw [length_append];simp;omega
theorem QpF:∀ {c:List Nat} {i:Nat},(c.Pairwise λx f=>f<x)->(∀ x,x ∈ c->x<i)->c.length<=i:=by
 intro c;induction c with
 | nil=>intro i _ _;exact X3
 | cons x r ih =>intro i d b;have a:=pairwise_cons.1 d;have g:=ih a.2 a.1;have h:=b x (by simp);rw [length_cons];omega
def Qch (a:List Nat) (k:Nat):Int:=if h:k<a.length then (a[k]:Int) else -1
theorem Qi2 {a:List Nat} (b:k<a.length):Qch a k=(a[k]:Int):=by unfold Qch;rw [dif_pos b]
theorem QnF {a:List Nat} (b:¬ k<a.length):Qch a k=-1:=by unfold Qch;rw [dif_neg b]
theorem QwT {a:List Nat} (d:a.Pairwise λx f=>f<x) (c:k<a.length):(Qch a (k+1)+1).toNat<(Qch a k+1).toNat:=by
 rw [Qi2 c];by_cases b:k+1<a.length
 ·rw [Qi2 b];have:=Xb1.1 d k (k+1) c b (by omega);omega
 rw [QnF b];omega
def QaA (C:List (List Nat)):List Int:=-1::C.map λc=>(ZX c:Int)
theorem QfU (C:List (List Nat)):(QaA C).length=C.length+1:=by unfold QaA;simp
theorem QlS (C:List (List Nat)) (q:Nat) (a:q<C.length):(Qs (QaA C))[q+1]?=some (Xi (ZX C[q]:Int)):=by unfold Qs QaA;rw [map_cons,getElem?_cons_succ,map_map,getElem?_map,getElem?_eq_getElem a];rfl
theorem Qio (C:List (List Nat)) (p:Nat) (a:p<=C.length):(Qs (QaA C))[p]?=some (Xi (Qcl C p)):=by unfold Qcl;cases p with| zero=>rfl| succ p =>rw [QlS C p (by omega),if_neg (by omega)];simp only [Nat.add_sub_cancel];rw [Xg (by omega)];rfl
theorem Qtd {v:Nat->Int} {C:List (List Nat)} (a:QU v C i<C.length):(QaA C).set (QU v C i+1) i=QaA (Qat v C i):=by unfold QaA Qat;rw [if_pos a,set_cons_succ,map_set];rfl
theorem Qs9 {v:Nat->Int} {C:List (List Nat)} (a:QU v C i=C.length):QaA C++[(i:Int)]=QaA (Qat v C i):=by unfold QaA Qat;rw [if_neg (by omega),map_append];rfl
structure Qbq (v:Nat->Int) (n:Nat) (w:World) (i:Nat) (wr:World) (ev av:Value):Prop where
 ends:wr.ownsRow w.heap.size 3 1 ev ((Qp v i).length+1) (Qs (QaA (Qp v i)))
 ahd:∃ ah:List Int,wr.ownsRow w.heap.size 3 1 av n (Qs ah)/\QdY (λx=>ah.getD x 0) (Qp v i) i
 apart:∀ b,ev.ownBlock=some b->av.ownBlock≠some b
 below:Xb w wr
theorem Qbq.drewN {v:Nat->Int} {n:Nat} {w:World} {i:Nat} {wr:World} {b c:Value} (a:Qbq v n w i wr b c) (m:Nat):Qbq v n w i (wr.drewN m) b c:=by obtain ⟨d,f,g⟩:=a.ahd;exact ⟨a.ends,⟨d,f,g⟩,a.apart,Qv a.below m⟩
theorem QwU:∀ {c:List Nat} {k:Nat},QdJ ah c->(a:k<c.length)->ah c[k]=Qch c (k+1):=by
 intro c;induction c with
 | nil=>intro k _ a;exact absurd a (Xb7 _)
 | cons x r ih =>
  intro k b a;cases k with
  | zero =>rw [getElem_cons_zero,b.1];cases r with| nil=>rfl| cons d r=>rfl
  | succ k =>rw [getElem_cons_succ,ih b.2 (by simpa using a)];unfold Qch;simp
theorem Qbq.next {v:Nat->Int} {a j c:Nat} {u:Value} (G:i<n) (y:Qbq v n w i wr u (Xe a n c)) (z:QU v (Qp v i) i=p) (k:w1.ownsRow w.heap.size 3 1 (Xe g m j) m xs) (q:xs.set (p+1) (Xi i)=Qs (QaA (Qp v (i+1)))) (A:m=(Qp v (i+1)).length+1) (E:g≠a) (B:Xb w w1) (C:w1.heap[a]?=wr.heap[a]?) : Qbq v n w (i+1) ((w1.setCell (Xa g (p+1)) (Xi i)).setCell (Xa a i) (Xi (Qcl (Qp v i) p))) (Xe g m j) (Xe a n c):=by
 obtain ⟨d,f,D⟩:=y.ahd;have F:d.length=n:=by have:=f.1;rw [QaR] at this;omega
 have r:=(k.lt g rfl).1;have s:=(f.lt a rfl).1;have l:=(k.stored (p+1) (Xi i)).1;rw [q] at l;have t:w1.ownsRow w.heap.size 3 1 (Xe a n c) n (Qs d):=Q8 f λb e=>by
  have:a=b:=by simpa [Value.ownBlock] using e
  subst this;exact C
 have h:(w1.setCell (Xa g (p+1)) (Xi i)).ownsRow w.heap.size 3 1 (Xe a n c) n (Qs d):=Q8 t λb e=>X5 (by
  have:a=b:=by simpa [Value.ownBlock] using e
  show b≠g;omega)
 have o:=(h.stored i (Xi (Qcl (Qp v i) p))).1;rw [QgK] at o;subst A;refine ⟨Q8 l λb e=>X5 (by
  have:g=b:=by simpa [Value.ownBlock] using e
  show b≠a;omega),⟨_,o,D.step (v:=v) (λx H=>?_) ?_⟩,λb e h=>?_,(B.setCell r _).setCell s _⟩
 ·rw [getD_eq_getElem?_getD,getD_eq_getElem?_getD,getElem?_set,if_neg (by omega)]
 ·rw [getD_eq_getElem?_getD,getElem?_set,if_pos rfl,if_pos (by omega),z];rfl
 have I:g=b:=by simpa [Value.ownBlock] using e
 have J:a=b:=by simpa [Value.ownBlock] using h
 omega
theorem Qvo {d:World} (a:Xb w wr) (c:Qi (λb=>w.heap.size<=b) wr d):Xb w d := ⟨c.os.trans a.os,c.tape.trans a.tape,c.output.trans a.output,Xb6 a.size c.size,λb f=>(c.block b (Xb4 f a.size) (by omega)).trans (a.block b f)⟩
theorem QoP {P:Program} {a:Act} {c h:Code} (l:Nat) (d:Act->World->Prop) (f:Act->World->Nat) (k:findLabel c l=some (Code.skip.seq h)) (j:∀ a w,d a w->h.wp P (Exit.jump l (λg w'=>d g w'/\f g w'<f a w) Q) a w) (first:(∀ a w,d a w->h.wp P (Exit.jump l d Q) a w)->c.wp P (Exit.jump l d Q) a w):(Code.scope c).wp P Q a w:=by refine wp_scope_jumps l d f k (first λa w i=>wp_mono (j a w i) ?_) λa w i=>wp_seq (wp_skip (j a w i));intro e g w' b;cases e with| goto m=>exact ⟨b.1,b.2.1⟩| normal=>exact b| exit id=>exact b| ret=>exact b| panic n=>exact b| outgrown=>exact b
theorem Qso (n:Nat):(madeCells #[Xi 0] n).toList=Qs (List.replicate n 0):=by
 unfold madeCells Qs;apply ext_getElem
 ·simp
 intro i a b;simp [Nat.mod_one]
theorem Qur (B:Nat) (ao:Option Addr) (n c:Nat) (l:List Int) (v:Nat->Int) (aX:∀ j,(aY:j<l.length)->l[j]=v j) (w:World) (I:w.ownsRow B 3 1 (.slice ao n c) n (Qs l)) (aZ:n<=100000) : Xl 114 #[.slice ao n c] w λe w'=>∃ q,e=.returned q/\w'.ownsRow w.heap.size 3 1 q (QbE v n).length (Qs (QbE v n))/\Xb w w':=by
 obtain ⟨aD,aE,ag,ah,ai⟩:=info_parts QbF;have bS:∀ u:World,(Instr.makeSlice 69 (Xi n) (Xi n)).run Tryz.prog u=.ok (Xe u.heap.size n n) (u.alloc (.cells (madeCells #[Xi 0] n) 3)):=λu=>by have H:=run_make (P:=Tryz.prog) u 69 3 aD (Xi 0) Tryz.underlying69 aE ag .i64 .i64 (n:Int) (n:Int) (by omega) (Int.le_refl _) (by rw [ai];omega) (by omega);simpa [ah,Value.cells] using H
 have ad:Hid (∀ (wr:World) j,Xb w wr->j<n->∃ g,ao=some (Xa g 0)/\g<w.heap.size/\wr.cell? (Xa g j)=some (Xi (v j))):=Qa λwr j aF aY=>by obtain ⟨g,bf,e,G,_,d⟩:=Qb0 I aY;refine ⟨g,e,d,(Xh aF g j d).trans ?_⟩;rw [G,aX j bf]
 clear I aX;go_enter Tryz.func114,Tryz.ntmps114;go_wp2_with fail;refine QoP 0 (λaa w'=>∃ (i:Nat) (aG ab u1 u2 u6 u7 u8 u9 u10 u11 u12 u13 u14 u15 u16 u17 u18 u19 u20 u21 u22 u23 u24 u25 u26 u27 u28 u29 u30 u31 u32 u33 u34 u35 u36 u37 u38 u39 u40 u41 u42 u43 u44 u45 u46 u47 u48 u49 u50 u51 u52 u53 u54 u55 u56 u57 u58 u59 u60 u61 u62 u63 u64 u65 u66 u67 u68 u69 u70 u71 u72 u73:Value),aa={ tmps:=#[.slice ao n c,u1,u2,aG,ab,Xi i,u6,u7,u8,u9,u10,u11,u12,u13,u14,u15,u16,u17,u18,u19,u20,u21,u22,u23,u24,u25,u26,u27,u28,u29,u30,u31,u32,u33,u34,u35,u36,u37,u38,u39,u40,u41,u42,u43,u44,u45,u46,u47,u48,u49,u50,u51,u52,u53,u54,u55,u56,u57,u58,u59,u60,u61,u62,u63,u64,u65,u66,u67,u68,u69,u70,u71,u72,u73],defers:=[] }/\i<=n/\Hid (Qbq v n w i w' aG ab)) (λaa _=>n-(intOf (aa.tmps.getD 5 undef)).toNat) rfl ?pass ?first
 case pass =>
  rintro aa wr ⟨i,aG,ab,u1,u2,u6,u7,u8,u9,u10,u11,u12,u13,u14,u15,u16,u17,u18,u19,u20,u21,u22,u23,u24,u25,u26,u27,u28,u29,u30,u31,u32,u33,u34,u35,u36,u37,u38,u39,u40,u41,u42,u43,u44,u45,u46,u47,u48,u49,u50,u51,u52,u53,u54,u55,u56,u57,u58,u59,u60,u61,u62,u63,u64,u65,u66,u67,u68,u69,u70,u71,u72,u73,rfl,bT,f⟩;obtain ⟨bx,Y,rfl⟩:=Qy f.out.ends;obtain ⟨S,G,bg⟩:∃ S G,ab=.slice S n G:=by obtain ⟨h,o,_⟩:=f.out.ahd;exact Qy o
  subst bg;have F:=f.out.below;have bZ:(Qp v i).length<=i:=by obtain ⟨h,_,y⟩:=f.out.ahd;exact y.few
  obtain ⟨A,bh⟩:∃ A,bx=some (Xa A 0):=by
   rcases f.out.ends.2 with ⟨_,e⟩|⟨g,aj,ak,e,_⟩
   ·omega
   simp at e;exact ⟨g,e.1⟩
  subst bh;by_cases al:i<n
  ·obtain ⟨d,ap⟩:∃ d,S=some (Xa d 0):=by
    obtain ⟨h,o,_⟩:=f.out.ahd;rcases o.2 with ⟨_,e⟩|⟨g,aj,ak,e,_⟩
    ·omega
    simp at e;exact ⟨g,e.1⟩
   subst ap;have bi:(i:Int)<(n:Int):=by omega
   clear F;go_wp2;go_loopw [3,5,6] (λe aH aq T=>∃ p:Nat,p<=(Qp v i).length/\e=Xe A ((Qp v i).length+1) Y/\aH=Xi i/\aq=Xi ((p:Int)+1)/\Hid (Qbq v n w i T (Xe A ((Qp v i).length+1) Y) (Xe d n G))/\Hid (∀ q,(t:q<(Qp v i).length)->q<p->v (ZX (Qp v i)[q])<v i)) (λ_ _ aq _=>(Qp v i).length+1-(intOf aq).toNat);·exact ⟨0,X3,rfl,rfl,by go_num,f,Qa λq _ H=>absurd H (Xb7 _)⟩
   case round =>
    clear f;obtain ⟨p,bz,rfl,rfl,rfl,f,W⟩:=hrel;have F:=f.out.below;have aM:∀ q,(t:q<(Qp v i).length)->Xc wr A (q+1) (Xi (ZX (Qp v i)[q]:Int)):=λq t=>(f.out.ends.cellAt (q+1) (by omega)).trans (QlS _ q t);have aN:∀ q,q<=(Qp v i).length->Xc wr A q (Xi (Qcl (Qp v i) q)):=λq t=>(f.out.ends.cellAt q (by omega)).trans (Qio _ q t);have bj:∀ q,Xf wr A q:=λq=>f.out.ends.frozenAt q;have aO:∀ q,(t:q<(Qp v i).length)->ZX (Qp v i)[q]<i:=λq t=>by obtain ⟨h,_,y⟩:=f.out.ahd;have a2:(Qp v i)[q] ∈ Qp v i:=Xa0 t;cases z:(Qp v i)[q] with| nil=>exact absurd z (y.ne _ a2)| cons R r=>rw [z] at a2;exact y.lt _ a2 R (by simp)
    obtain ⟨g,ar,a7,b0⟩:=ad.out wr i F al;subst ar;obtain ⟨h,aI,bA⟩:∃ x,wr.cell? (Xa d i)=some x/\wr.frozen? (Xa d i)=false:=by
     obtain ⟨h,o,_⟩:=f.out.ahd;have bk:h.length=n:=by have:=o.1;rw [QaR] at this;omega
     exact ⟨_,(o.cellAt i (by omega)).trans (Xa1 (by rw [QaR];omega)),o.frozenAt i⟩
    have au:=Qa aM;have av:=Qa aN;have aw:=Qa aO;have J:=Qa F;have a8:A≠d:=λe=>f.out.apart A rfl (by rw [e];rfl);have ax:d<wr.heap.size:=by obtain ⟨h,o,_⟩:=f.out.ahd;exact (o.lt d rfl).2
    clear aM aN aO F;by_cases bl:p=(Qp v i).length
    ·have M:Hid (QU v (Qp v i) i=(Qp v i).length):=Qa (Ql9 X0 (λq t H=>W.out q t (by omega)) (λH=>absurd H (Xc8 _)));subst bl;have ae:(Qs (QaA (Qp v i))).length=(Qp v i).length+1:=by rw [QaR,QfU]
     have b1:Hid (∀ V,(wr.alloc V).ownsRow w.heap.size 3 1 (Xe A ((Qp v i).length+1) Y) ((Qp v i).length+1) (Qs (QaA (Qp v i)))):=Qa λV=>f.out.ends.alloc V;have a1:=J.out.size;go_wp2_with ((at_builtin;refine Zp _ rfl (.tmp 22) (.tmp 24) 69 rfl w.heap.size 3 aD (Xi 0) 1 8 Tryz.underlying69 aE ag ah ai rfl (Xe A ((Qp v i).length+1) Y) _ _ rfl (b1.out _) (some (Xa wr.heap.size 0)) 1 1 [Xi i] rfl (by simp) rfl (Q3 _ _ _) (by simp [Value.oneCell']) (by omega) (by omega) (by simp;omega) ?_;intro K s D E _));obtain ⟨bB,bC,rfl⟩:=Qy D.out;obtain ⟨L,bc⟩:∃ L,bB=some (Xa L 0):=by
      rcases D.out.2 with ⟨_,e⟩|⟨L,aj,ak,e,_⟩
      ·omega
      simp at e;exact ⟨L,e.1⟩
     subst bc;have bm:L≠d:=λe=>by
      rcases E.out with ⟨U,_⟩|⟨U,_⟩
      ·have:L=A:=by simpa [Value.ownBlock] using U
       omega
      have:L=wr.heap.size+1:=by simpa [Value.ownBlock] using U
      omega
     have bU:wr.heap.size<=s.heap.size:=by have:=E.out.size;simp at this;omega
     have a6:∀ b,b<wr.heap.size->b≠A->s.heap[b]?=wr.heap[b]?:=λb aF aZ=>(E.out.by.block b (by simp;omega) (λe=>aZ (by simpa [Value.ownBlock] using e))).trans (Xc1 _ _ _ aF);have bV:g<wr.heap.size:=Xb4 a7 a1;have ay:Xb w s:=(J.out.alloc a1 _).grown E.out.by (by simp;omega) (λb e=>(f.out.ends.lt b e).1);have b2:(Qs (QaA (Qp v i))++[Value.int .i64 i])[(Qp v i).length+1]?=some (Xi i):=by rw [getElem?_append_right (by omega),ae];simp
     have b3:(Qs (QaA (Qp v i))++[Value.int .i64 i])[(Qp v i).length]?=some (Xi (Qcl (Qp v i) (Qp v i).length)):=by rw [getElem?_append_left (by omega)];exact Qio _ _ X0
     have c0:=(D.out.cellAt ((Qp v i).length+1) (by omega)).trans b2;have c1:=(D.out.cellAt (Qp v i).length (by omega)).trans b3;have bD:=D.out.frozenAt ((Qp v i).length+1);have c2:Xc s g i (Xi (v i)):=(Xh ay g i a7).trans ((Xh J.out g i a7).symm.trans b0);have c3:Xc s d i h:=(Xb3 (a6 d ax (by omega))).trans aI;have c4:Xf s d i:=(Qb1 (a6 d ax (by omega)) i).trans bA;have az:Hid (∀ m:Nat,Qbq v n w (i+1) (((s.drewN m).setCell (Xa L ((Qp v i).length+1)) (Xi i)).setCell (Xa d i) (Xi (Qcl (Qp v i) (Qp v i).length))) (Xe L ((Qp v i).length+1+1) bC) (Xe d n G)):=Qa λm=>by
      have a0:=Qs9 M.out;refine Qbq.next al f.out M.out (w1:=s.drewN m) D.out ?_ ?_ bm (Qv ay m) (a6 d ax (by omega))
      ·have bE:(Qs (QaA (Qp v i))++[Value.int .i64 i]).set ((Qp v i).length+1) (Xi i)=Qs (QaA (Qp v i))++[Value.int .i64 i]:=by rw [set_append_right _ _ (by omega),ae];simp
       rw [bE,<- QcR,a0];rfl
      have:=congrArg List.length a0;rw [length_append,QfU,QfU] at this;simp at this;show (Qp v i).length+1+1=(Qat v (Qp v i) i).length+1;omega
     clear D E a6 ay b2 b3 b1 W M;go_wp2;go_big_quiet (fail);go_wp2_with fail;go_step3;simp only [Exit.inBlock,Exit.then];refine ⟨rfl,⟨i+1,_,_,_,_,_,_,_,_,_,_,_,_,_,_,_,_,_,_,_,_,_,_,_,_,_,_,_,_,_,_,_,_,_,_,_,_,_,_,_,_,_,_,_,_,_,_,_,_,_,_,_,_,_,_,_,_,_,_,_,_,_,_,_,_,_,_,_,_,_,_,_,_,rfl,by omega,Qa (az.out _)⟩,?_⟩;simp [intOf];omega
    have aA:p<(Qp v i).length:=by omega
    have c5:=au.out p aA;have aP:=aw.out p aA;obtain ⟨c6,aQ,bO,c7⟩:=ad.out wr (ZX (Qp v i)[p]) J.out (by omega);simp at aQ;subst aQ;have c8:=av.out p (by omega);have a1:=J.out.size;have bP:((p:Int)+1==((Qp v i).length:Int)+1)=false:=by rw [beq_eq_false_iff_ne];omega
    by_cases aB:v (ZX (Qp v i)[p])<v i
    ·have bF:Hid (∀ q,(t:q<(Qp v i).length)->q<p+1->v (ZX (Qp v i)[q])<v i):=Qa λq t H=>by
      by_cases e:q=p
      ·subst e;exact aB
      exact W.out q t (by omega)
     clear W au av aw;go_wp2;go_big_quiet (fail);go_wp2;go_roundw;·exact ⟨p+1,by omega,rfl,rfl,by go_num,Qa (Qbq.drewN f.out _),bF⟩
     simp [intOf];omega
    have M:Hid (QU v (Qp v i) i=p):=Qa (Ql9 bz (λq t H=>W.out q t H) (λ_=>aB));have bQ:¬ v (ZX (Qp v i)[p])<v i:=aB;have bD:=bj (p+1);have az:Hid (∀ m:Nat,Qbq v n w (i+1) (((wr.drewN m).setCell (Xa A (p+1)) (Xi i)).setCell (Xa d i) (Xi (Qcl (Qp v i) p))) (Xe A ((Qp v i).length+1) Y) (Xe d n G)):=Qa λm=>by
     have a0:=Qtd (v:=v) (C:=Qp v i) (i:=i) (by rw [M.out];exact aA);rw [M.out] at a0;refine Qbq.next al f.out M.out (w1:=wr.drewN m) f.out.ends ?_ ?_ a8 (Qv J.out m) rfl
     ·rw [QgK,a0];rfl
     have:=congrArg List.length a0;rw [length_set,QfU,QfU] at this;show (Qp v i).length+1=(Qat v (Qp v i) i).length+1;omega
    clear W au av aw M;go_wp2;go_big_quiet (fail);go_wp2_with fail;go_step3;simp only [Exit.inBlock,Exit.then];refine ⟨rfl,⟨i+1,_,_,_,_,_,_,_,_,_,_,_,_,_,_,_,_,_,_,_,_,_,_,_,_,_,_,_,_,_,_,_,_,_,_,_,_,_,_,_,_,_,_,_,_,_,_,_,_,_,_,_,_,_,_,_,_,_,_,_,_,_,_,_,_,_,_,_,_,_,_,_,_,rfl,by omega,Qa (az.out _)⟩,?_⟩;simp [intOf];omega
  have bn:i=n:=by omega
  subst bn;have bi:¬ (i:Int)<(i:Int):=by omega
  generalize aR:Qp v i=C at *;have a9:=Qa aR;clear aR;have bG:wr.cell? (Xa A C.length)=some (Xi (Qch (C.getLastD []) 0)):=by
   have o:=f.out.ends;rw [a9.out] at o;rw [(o.cellAt C.length (by omega)).trans (Qio C C.length X0)];congr 2
   unfold Qcl;obtain ⟨h,_,y⟩:=f.out.ahd;rw [a9.out] at y;by_cases b4:C.length=0
   ·have:C=[]:=eq_nil_of_length_eq_zero b4;subst this;rfl
   rw [if_neg b4,Xg (by omega),getLastD_eq_getLast?,getLast?_eq_getElem?,getElem?_eq_getElem (by omega)];simp only [Option.getD_some];have a2:C[C.length-1] ∈ C:=Xa0 _;cases z:C[C.length-1] with| nil=>exact absurd z (y.ne _ a2)| cons R r=>rfl
  have aS:Hid (∃ h:List Int,wr.ownsRow w.heap.size 3 1 (.slice S i G) i (Qs h)/\QdJ (λx=>h.getD x 0) (C.getLastD [])/\(∀ x,x ∈ C.getLastD []->x<i)/\(C.getLastD []).Pairwise λx R=>R<x):=Qa (by
   obtain ⟨h,o,y⟩:=f.out.ahd;rw [a9.out] at y;refine ⟨h,o,?_,?_,?_⟩
   ·cases z:C.getLast? with| none=>rw [getLastD_eq_getLast?,z];trivial| some b5=>rw [getLastD_eq_getLast?,z];exact y.back _ (mem_of_getLast? z)
   ·cases z:C.getLast? with
    | none=>rw [getLastD_eq_getLast?,z];intro x z;simp at z
    | some b5=>rw [getLastD_eq_getLast?,z];exact y.lt _ (mem_of_getLast? z)
   cases z:C.getLast? with| none=>rw [getLastD_eq_getLast?,z];simp| some b5=>rw [getLastD_eq_getLast?,z];exact y.dec _ (mem_of_getLast? z))
  have bo:Hid (QbE v i=((C.getLastD []).map v).reverse):=Qa (by unfold QbE;rw [a9.out]);have J:=Qa F;clear f F;have bW:C.length<=100000:=by omega
  generalize C.getLastD []=a at *;have bR:a.length<=a.length:=X0;go_wp2;go_loopw [3,5,6] (λe aH _ T=>e=Xe A (C.length+1) Y/\aH=Xi i/\T=wr) (λ_ _ _ _=>1);·exact ⟨rfl,rfl,rfl⟩
  case round =>
   obtain ⟨rfl,rfl,rfl⟩:=hrel;go_wp2;go_loopw [5,7] (λaJ q T=>∃ (k:Nat) (aK:Value),k<=a.length/\aJ=Xi (Qch a k)/\aK=q/\Hid (T.ownsRow w.heap.size 3 1 aK k (Qs ((a.take k).map v)))/\Hid (∃ h:List Int,T.ownsRow w.heap.size 3 1 (.slice S i G) i (Qs h)/\QdJ (λx=>h.getD x 0) a/\(∀ x,x ∈ a->x<i)/\a.Pairwise λx R=>R<x)/\Hid (∀ b,aK.ownBlock=some b->Value.ownBlock (.slice S i G)≠some b)/\Hid (Xb w T)) (λaJ _ _=>(intOf aJ+1).toNat);·exact ⟨0,_,X3,rfl,rfl,Qa (Xc0 _ _ _ _),aS,Qa (λb e=>by cases e),J⟩
   case round =>
    obtain ⟨k,q,c9,rfl,rfl,I,aC,aT,F⟩:=hrel;clear aS J bG;obtain ⟨h,o,y,a3,a4⟩:=aC.out;have bX:a.length<=i:=QpF a4 a3;by_cases X:k<a.length
    ·have aP:a[k]<i:=a3 _ (Xa0 X);obtain ⟨g,ar,a7,b0⟩:=ad.out wr a[k] F.out aP;subst ar;obtain ⟨d,ap⟩:∃ d,S=some (Xa d 0):=by
      rcases o.2 with ⟨_,e⟩|⟨g,aj,ak,e,_⟩
      ·omega
      simp at e;exact ⟨g,e.1⟩
     subst ap;have bk:h.length=i:=by have:=o.1;rw [QaR] at this;omega
     have aU:=QwU y X;have aI:wr.cell? (Xa d (a[k]))=some (Xi (Qch a (k+1))):=by rw [o.cellAt a[k] (by omega)];unfold Qs;rw [getElem?_map,getElem?_eq_getElem (by omega),<- aU];simp only [Option.map_some,getD_eq_getElem?_getD];rw [getElem?_eq_getElem (by omega)];rfl
     have aL:=Qa (QwT a4 X);rw [Qi2 X] at aL ⊢;have bp:d<wr.heap.size:=(o.lt d rfl).2;have a1:=F.out.size;have ae:(Qs ((a.take k).map v)).length=k:=by rw [QaR,length_map,length_take];omega
     obtain ⟨N,O,t⟩:=Qy I.out;subst t;have af:Hid (∀ s K,ZV (wr.alloc (.cells #[Xi (v a[k])] 3)) s (.slice N k O) K->s.ownsRow w.heap.size 3 1 K (k+1) (Qs ((a.take k).map v)++[Xi (v a[k])])->s.ownsRow w.heap.size 3 1 K (k+1) (Qs ((a.take (k+1)).map v))/\(∃ h:List Int,s.ownsRow w.heap.size 3 1 (Xe d i G) i (Qs h)/\QdJ (λx=>h.getD x 0) a/\(∀ x,x ∈ a->x<i)/\a.Pairwise λx R=>R<x)/\(∀ b,K.ownBlock=some b->Value.ownBlock (Xe d i G)≠some b)/\Xb w s/\s.cell? (Xa d (a[k]))=wr.cell? (Xa d (a[k]))):=Qa λs K E D=>by
      have a8:Value.ownBlock (.slice N k O)≠some d:=λe=>aT.out d e rfl;have aV:s.heap[d]?=wr.heap[d]?:=(E.by.block d (by simp;omega) (λe=>a8 e.symm)).trans (Xc1 _ _ _ bp);refine ⟨?_,⟨h,Q8 o λb e=>?_,y,a3,a4⟩,λb e U=>?_,(F.out.alloc a1 _).grown E.by (by simp;omega) (λb e=>(I.out.lt b e).1),Xb3 aV⟩
      ·rw [take_succ_eq_append_getElem X,map_append];have:Qs ((a.take k).map v++[a[k]].map v)=Qs ((a.take k).map v)++[Xi (v a[k])]:=QcR _ _;rw [this];exact D
      ·have:d=b:=by simpa [Value.ownBlock] using e
       subst this;exact aV
      have bH:d=b:=by simpa [Value.ownBlock] using U
      subst bH;rcases E with ⟨a5,_⟩|⟨a5,_⟩
      ·rw [e] at a5;exact a8 a5.symm
      rw [e] at a5;have:=Xb5 a5;simp at this;omega
     have bq:Hid (∀ V,(wr.alloc V).ownsRow w.heap.size 3 1 (.slice N k O) k (Qs ((a.take k).map v))):=Qa λV=>I.out.alloc V;have br:=Qa aI;generalize bY:a[k]=bI at *;clear aC I o y a3 a4 aU aT;go_wp2_with ((at_builtin;refine Zp _ rfl (.tmp 64) (.tmp 69) 69 rfl w.heap.size 3 aD (Xi 0) 1 8 Tryz.underlying69 aE ag ah ai rfl (.slice N k O) _ _ rfl (bq.out _) (some (Xa wr.heap.size 0)) 1 1 [Xi (v bI)] rfl (by simp) rfl (Q3 _ _ _) (by simp [Value.oneCell']) (by omega) (by omega) (by simp;omega) ?_;intro K s D E _;have ca:=(af.out s K E.out D.out).2.2.2.2.trans br.out));obtain ⟨b6,b7,b8,b9,bJ⟩:=af.out s K E.out D.out;have bK:=Qa b6;have bL:=Qa b7;have bM:=Qa b8;have bN:=Qa b9;clear b6 b7 b8 b9 bJ D E af;go_roundw;·exact ⟨k+1,_,by omega,rfl,rfl,bK,bL,bM,bN⟩
     exact aL.out
    have bs:k=a.length:=by omega
    rw [QnF X];have ac:=I.out;rw [bs,take_length] at ac;obtain ⟨N,O,t⟩:=Qy ac;subst t;have bd:a.length<=1000000:=by omega
    have bt:Hid (Xl 130 #[.slice N a.length O] wr λe w'=>e=.returned (.tuple #[])/\w'.ownsRow w.heap.size 3 1 (.slice N a.length O) a.length (Qs (a.map v).reverse)/\Qi (λb=>w.heap.size<=b) wr w'):=Qa (Qq2 w.heap.size N a.length O (a.map v) wr ac bd);have ba:(a.map v).reverse.length=a.length:=by rw [length_reverse,length_map]
    clear I aC o y a3 a4 ac;go_wp2_with (first|(go_at_call 130;refine (Qb bt).mono ?_;rintro e cb ⟨rfl,bu,bv⟩));simp only [Exit.jump];go_ret;refine ⟨_,rfl,?_,Qvo F.out bv⟩;rw [bo.out,ba];exact bu
 case first =>
  intro bb;go_wp2_with fail;have aW:Qbq v n w 0 ((w.alloc (.cells #[Xi (-1)] 3)).alloc (.cells (madeCells #[Xi 0] n) 3)) (Xe w.heap.size 1 1) (Xe (w.heap.size+1) n n):=by
   refine ⟨?_,⟨List.replicate n 0,?_,QdY.zero _⟩,λb e U=>?_,Xn⟩
   ·exact (World.ownsRow_lit (size:=1) w #[Xi (-1)] 1 X0 (by unfold maxLen;omega) rfl).alloc _
   ·have H:=World.ownsRow_lit (base:=w.heap.size) (e:=3) (size:=1) (w.alloc (.cells #[Xi (-1)] 3)) (madeCells #[Xi 0] n) n (by simp) (by unfold maxLen;omega) (by rw [size_madeCells];omega);rw [Qso,World.size_alloc] at H;exact H
   have o:w.heap.size=b:=by simpa [Value.ownBlock] using e
   have y:w.heap.size+1=b:=by simpa [Value.ownBlock] using U
   omega
  have bw:=Qa aW;clear aW;go_step3;simp only [Exit.then];rename_i hK;refine hK _ _ ?_;apply bb;exact ⟨0,_,_,_,_,_,_,_,_,_,_,_,_,_,_,_,_,_,_,_,_,_,_,_,_,_,_,_,_,_,_,_,_,_,_,_,_,_,_,_,_,_,_,_,_,_,_,_,_,_,_,_,_,_,_,_,_,_,_,_,_,_,_,_,_,_,_,_,_,_,_,_,_,rfl,X3,bw⟩
open Go.Maps (Keyed)
theorem Qr4:laidOutB Tryz.prog=true:=by kernel_rfl
theorem Ql5:(192:TypeId)<Tryz.prog.types.size:=of_decide_eq_true (by kernel_rfl)
theorem QqG:(match Tryz.prog.underlying 192 with|some (.array _ _)|some (.struct _)=>true|_=>false)=true:=by kernel_rfl
theorem Qdk:WideMaps.KeyLaw Tryz.prog 192:=deep_law_laid Qr4 (m:=2) (by omega) Ql5 (by kernel_rfl) QqG
theorem Qfy:Keyed Tryz.prog 192:=Keyed.of_law Qdk
structure LK where
 tag:ByteArray
 key:Int
 ahead:Int
 deriving DecidableEq
def LK.val (x:LK):Value:=.agg #[.string x.tag,.int .i64 x.key,.int .i64 x.ahead]
structure LK.Ok (x:LK):Prop where
 tag:x.tag.size<=maxLen
 key:Qu x.key
 ahead:Qu x.ahead
theorem Qr8:Tryz.prog.keyType 192=true:=by kernel_rfl
theorem Qm8:Tryz.prog.cellsOf 192=3:=by kernel_rfl
theorem QoI:Tryz.prog.cellsOf 3=1:=by kernel_rfl
theorem QsJ:Tryz.prog.cellsOf 9=1:=by kernel_rfl
theorem QrZ:∃ d,Tryz.prog.types.size=d+1:=⟨Tryz.prog.types.size-1,by have a:(192:Nat)<Tryz.prog.types.size:=Ql5;omega⟩
theorem QrX (x:LK) (a:x.Ok):∃ l,keyOf Tryz.prog 192 x.val=some l:=by
 obtain ⟨d,b⟩:=QrZ;have c:=Qfa a.key;have f:=Qfa a.ahead;have g:=a.tag;refine ⟨.string (keyBytes [.string x.tag.data.toList,.int .i64 x.key,.int .i64 x.ahead]),?_⟩;have h:Tryz.prog.keyLits (d+1+1) 192 [.string x.tag,.int .i64 x.key,.int .i64 x.ahead]=some [.string x.tag.data.toList,.int .i64 x.key,.int .i64 x.ahead]:=by unfold Program.keyLits;simp only [Tryz.underlying192];simp [Qm8,QoI,QsJ,Program.keyLits,Tryz.underlying3,Tryz.underlying9,c,f,g]
 unfold keyOf LK.val;simp only [Tryz.underlying192,Qr8,Value.formed,Qm8,Value.cells,b];simp [h]
noncomputable def LK.lit (x:LK):Lit:=(keyOf Tryz.prog 192 x.val).getD (.bool false)
theorem LK.keyOf {x:LK} (b:x.Ok):keyOf Tryz.prog 192 x.val=some x.lit:=by obtain ⟨l,a⟩:=QrX x b;unfold LK.lit;rw [a];rfl
theorem LK.inj {x d:LK} (g:x.Ok) (h:d.Ok) (e:x.lit=d.lit):x=d:=by have f:=LK.keyOf g;have i:=LK.keyOf h;rw [e] at f;have:=Qfy.inj f i;unfold LK.val at this;obtain ⟨a,b,c⟩:=x;obtain ⟨j,k,l⟩:=d;simp at this;obtain ⟨rfl,rfl,rfl⟩:=this;rfl
def Zt (w:World) (a:Nat) (f:LK->Option Int) (N:Nat):Prop :=
 ∃ D:DataW Value,w.ownsMap Tryz.prog 192 Qcf a N D/\∀ x:LK,x.Ok->Go.Maps.has D x.lit=(f x).isSome/\D.atKey x.lit (.held (.int .i64 0))=.held (.int .i64 ((f x).getD 0))
theorem Zt.heap {w w':World} {a:Nat} {f:LK->Option Int} {N:Nat} (j:Zt w a f N) (c:w'.heap[a]?=w.heap[a]?):Zt w' a f N:=by obtain ⟨D,⟨d,b,g,h⟩,i⟩:=j;exact ⟨D,⟨d,b,c.trans g,h⟩,i⟩
theorem Zt.lt {w:World} {b:Nat} {f:LK->Option Int} {N:Nat} (a:Zt w b f N):b<w.heap.size:=by obtain ⟨D,a,_⟩:=a;exact a.lt
theorem Zt.made (w:World):Zt (w.alloc (.map #[] 0)) w.heap.size (λ_=>none) 0 := ⟨.map [],World.ownsMap_made w _ _ _,λ_x _=>⟨rfl,rfl⟩⟩
theorem Zt.look {f:LK->Option Int} (h:Zt w mb f N) {x:LK} (b:x.Ok):(Instr.lookup 190 (.map (some mb)) x.val false).run Tryz.prog w=.ok (.int .i64 ((f x).getD 0)) w:=by obtain ⟨D,c,d⟩:=h;obtain ⟨v,ps,g,a⟩:=c.lookup Qfy Tryz.underlying190 (Tryz.zeroValue3 w) (zd:=.held (.int .i64 0)) (zp:=[]) rfl (LK.keyOf b);rw [(d x b).2] at a;unfold Qcf at a;simp at a;rw [g,a.1]
theorem Zt.look2 {f:LK->Option Int} (h:Zt w mb f N) {x:LK} (b:x.Ok):(Instr.lookup 190 (.map (some mb)) x.val true).run Tryz.prog w=.ok (.tuple #[.int .i64 ((f x).getD 0),.bool (f x).isSome]) w:=by obtain ⟨D,d,c⟩:=h;obtain ⟨v,ps,g,a⟩:=d.look_ok Qfy Tryz.underlying190 (Tryz.zeroValue3 w) (zd:=.held (.int .i64 0)) (zp:=[]) rfl (LK.keyOf b);rw [(c x b).2] at a;unfold Qcf at a;simp at a;rw [g,a.1,(c x b).1]
def QaY (f:LK->Option Int) (x:LK) (v:Int):LK->Option Int:=λa=>if a=x then some v else f a
theorem Zt.put {w w':World} {b:Nat} {f:LK->Option Int} {N:Nat} {D:DataW Value} (g:w.ownsMap Tryz.prog 192 Qcf b N D) (i:∀ x:LK,x.Ok->Go.Maps.has D x.lit=(f x).isSome/\D.atKey x.lit (.held (.int .i64 0))=.held (.int .i64 ((f x).getD 0))) {x:LK} (j:x.Ok) {v:Int} (l:w'.ownsMap Tryz.prog 192 Qcf b (N+1) (D.put x.lit (.held (.int .i64 v)))):Zt w' b (QaY f x v) (N+1):=by
 refine ⟨_,l,λa c=>?_⟩;unfold QaY;by_cases e:a=x
 ·subst e;have h:WideAt.IsKeyLit a.lit:=Qfy.key (LK.keyOf c);rw [if_pos rfl,Go.Maps.has_put_same (k:=a.lit) g.isMap h,Go.Maps.atKey_put_same (k:=a.lit) g.isMap h];exact ⟨rfl,rfl⟩
 have d:a.lit≠x.lit:=λm=>e (LK.inj c j m);rw [if_neg e,Go.Maps.has_put_other d,Go.Maps.atKey_put_other d];exact i a c
theorem Zt.update {f:LK->Option Int} (k:Zt w mb f N) (h:N<maxLen) {x:LK} (a:x.Ok) (v:Int) : ∃ w',(Instr.mapUpdate 190 (.map (some mb)) x.val (.int .i64 v)).run Tryz.prog w=.ok () w'/\Zt w' mb (QaY f x v) (N+1)/\w.grownBy w' (some mb)/\w'.heap.size=w.heap.size:=by obtain ⟨D,b,i⟩:=k;obtain ⟨w',g,j,c⟩:=b.store Qfy Tryz.underlying190 h (LK.keyOf a) (val:=.int .i64 v) (d:=.held (.int .i64 v)) (ps:=[]) rfl;refine ⟨w',g,Zt.put b i a j,c.grown,?_⟩;obtain ⟨n,o,l,m,_,rfl⟩:=c;simp [Go.ChangeMaps.setBlock]
open Go.Maps (Keyed)
open Go.ChangeMaps (setBlock heap_setBlock_same)
theorem Zt.entry {f:LK->Option Int} (C:Zt w mb f N) (z:N<maxLen) {x:LK} (b:x.Ok) : ∃ r q w1,(Instr.mapEntry 190 (.map (some mb)) x.val).run Tryz.prog w=.ok (.tuple #[r,goInt q]) w1/\(∃ A,Zt w1 mb A (N+1)/\(A x).getD 0=(f x).getD 0)/\w.grownBy w1 (some mb)/\w1.heap.size=w.heap.size /\ ∀ (w2:World) (v:Int),w2.heap[mb]?=w1.heap[mb]?->∃ w3,(Instr.entryStore 190 (.map (some mb)) (goInt q) (Xi v)).run Tryz.prog w2=.ok () w3/\Zt w3 mb (QaY f x v) (N+1)/\w2.grownBy w3 (some mb)/\w3.heap.size=w2.heap.size:=by
 have m:=C;obtain ⟨D,⟨c,d,a,F,Y,a0⟩,a1⟩:=C;obtain ⟨r,q,i,h,l,X,H⟩:=WideElems.entry_then_store Qdk Tryz.underlying190 (λu=>Tryz.zeroValue3 u) a F (LK.keyOf b);have I:w.grownBy (setBlock w mb (.map i h)) (some mb):=(World.mapTurned.grown ⟨c,d,i,h,a,rfl⟩);have J:(setBlock w mb (.map i h)).heap.size=w.heap.size:=by simp [setBlock]
 refine ⟨r,q,setBlock w mb (.map i h),l,?_,I,J,λw2 v K=>?_⟩
 ·rcases Qdk.find w (LK.keyOf b) c.toList F.keys with ⟨g,k⟩|⟨j,n,g,k,B⟩
  · -- not found: as if 0 were put
   have t:(Instr.mapEntry 190 (.map (some mb)) x.val).run Tryz.prog w=.ok (.tuple #[Xi 0,goInt d]) (setBlock w mb (.map (c.push ⟨x.val,Xi 0,d⟩) (d+1))):=by simp [Instr.mapEntry,run_underlying Tryz.underlying190,MapKept.run_getObj_map a,Qdk.check w false (LK.keyOf b),g,Tryz.zeroValue3,MapKept.run_setObj_map _ a,Result.andThen,setBlock]
   have S:(Instr.mapUpdate 190 (.map (some mb)) x.val (Xi 0)).run Tryz.prog w=.ok () (setBlock w mb (.map (c.push ⟨x.val,Xi 0,d⟩) (d+1))):=by simp [Instr.mapUpdate,run_underlying Tryz.underlying190,MapKept.run_getObj_map a,Qdk.check w false (LK.keyOf b),g,MapKept.run_setObj_map _ a,Result.andThen,setBlock]
   obtain ⟨w',o,y,_,_⟩:=m.update z b 0;rw [S] at o;rw [t] at l;injection l with _ hw1;injection o with _ hw';refine ⟨_,by rw [<- hw1,hw'];exact y,?_⟩;have L:f x=none:=by
    have a2:=m.look b;have p:=m.look2 b;have T:(Instr.lookup 190 (.map (some mb)) x.val true).run Tryz.prog w=.ok (.tuple #[Xi 0,.bool false]) w:=by simp [Instr.lookup,run_underlying Tryz.underlying190,MapKept.run_getObj_map a,Qdk.check w c.isEmpty (LK.keyOf b),g,Tryz.zeroValue3,Result.andThen]
    rw [T] at p;injection p with p;cases M:f x with| none=>rfl| some a3=>rw [M] at p;simp at p
   unfold QaY;rw [if_pos rfl,L];rfl
  have t:(Instr.mapEntry 190 (.map (some mb)) x.val).run Tryz.prog w=.ok (.tuple #[n.val,goInt n.born]) (setBlock w mb (.map c d)):=by
   have U:c[j]?=some n:=by simpa using k
   have G:c.modify j (λe=>{ e with key:=x.val })=c:=by
    apply Array.ext';rw [Array.toList_modify,ChangeMaps.modify_eq_set _ _ _ _ k];have:({ n with key:=x.val }:MapEntry)=n:=by rw [<- B]
    rw [this];exact WideElems.set_self _ _ _ k
   simp [Instr.mapEntry,run_underlying Tryz.underlying190,MapKept.run_getObj_map a,Qdk.check w false (LK.keyOf b),g,U,B,Qdk.stays w (LK.keyOf b),G,MapKept.run_setObj_map _ a,Result.andThen,setBlock]
  rw [t] at l;injection l with _ hw1;refine ⟨f,?_,rfl⟩;rw [<- hw1];have V:(setBlock w mb (.map c d)).heap[mb]?=w.heap[mb]?:=by rw [heap_setBlock_same a,a]
  obtain ⟨W,O,P⟩:=m.heap V;exact ⟨W,O.mono (Nat.le_succ N),P⟩
 have s:w2.heap[mb]?=some (.map i h):=by rw [K,heap_setBlock_same a]
 obtain ⟨R,E,g,k⟩:=H w2 (Xi v) s;obtain ⟨w',o,y,_,_⟩:=m.update z b v;rw [k] at o;injection o with _ hw';refine ⟨_,g,y.heap (by rw [heap_setBlock_same s,<- hw',heap_setBlock_same a]),World.mapTurned.grown ⟨i,h,R,E,s,rfl⟩,by simp [setBlock]⟩
theorem QmG a (f:LK->Option Int) N (tag:ByteArray) (key c:Int) w (H:Zt w a f N) (ag:N<1000000) (O:tag.size<=maxLen) (P:Qu key) (B:(f ⟨tag,key,0⟩).getD 0=c) (ac:0<=c) (ad:c<=1000000) : Xl 128 #[.map (some a),.string tag,Xi key] w λe w'=>e=.returned (LK.val ⟨tag,key,c⟩)/\Zt w' a (QaY f ⟨tag,key,0⟩ (c+1)) (N+1)/\Qi (λb=>b=a) w w':=by
 have n:(⟨tag,key,0⟩:LK).Ok:=⟨O,P,by show Qu 0;unfold Qu;omega⟩;have Y:=H.lt;have R:Hid (∀ w',w'.heap[a]?=w.heap[a]?->Zt w' a f N):=Qa λw' e=>H.heap e;clear H;go_enter Tryz.func128,Tryz.ntmps128;go_wp2_with fail;generalize g:(w.alloc (.cells #[Xo,Xi 0,Xi 0] 192)).alloc (.cells #[.string tag,Xi key,Xi 0] 192)=d;have h:=Xu g;have ah:d.heap.size=w.heap.size+1+1:=by rw [<- g];simp
 have C:=Xy g 0 (.string tag) rfl;have D:=Xy g 1 (Xi key) rfl;have E:=Xy g 2 (Xi 0) rfl;have T:d.heap[w.heap.size]?=some (.cells #[Xo,Xi 0,Xi 0] 192 (0,0)):=by rw [<- g,Below.heap_alloc _ _ _ (by simp)];show (w.heap.push _)[w.heap.size]?=_;simp
 have x:Zt d.drew a f N:=R.out _ (h.block a Y);have U:(Instr.lookup 190 (.map (some a)) (.agg #[.string tag,Xi key,Xi 0]) false).run Tryz.prog d.drew=.ok (Xi c) d.drew:=by have:=x.look n;rw [B] at this;exact this
 obtain ⟨r,V,w1,F,⟨ai,J,K⟩,j,L,M⟩:=x.entry (by unfold maxLen;omega) n;have F:(Instr.mapEntry 190 (.map (some a)) (.agg #[.string tag,Xi key,Xi 0])).run Tryz.prog d.drew=.ok (.tuple #[r,goInt V]) w1:=F;have a0:(Instr.lookup 190 (.map (some a)) (.agg #[.string tag,Xi key,Xi 0]) false).run Tryz.prog w1=.ok (Xi c) w1:=by have:=J.look n;rw [K,B] at this;exact this
 obtain ⟨w2,y,z,k,a1⟩:=M w1 (c+1) rfl;have y:(Instr.entryStore 190 (.map (some a)) (Xi (V:Int)) (Xi (c+1))).run Tryz.prog w1=.ok () w2:=y;have ae:IntKind.i64.wrap (c+1)=c+1:=by rw [IntKind.wrap_i64];omega
 have ab:IntKind.i64.wrap (c+1-1)=c:=by rw [IntKind.wrap_i64];omega
 have af:(Instr.lookup 190 (.map (some a)) (.agg #[.string tag,Xi key,Xi 0]) false).run Tryz.prog w2=.ok (Xi (c+1)) w2:=by have:=z.look n;unfold QaY at this;rw [if_pos rfl] at this;exact this
 have A:∀ b,b<d.heap.size->b≠a->w1.heap[b]?=d.heap[b]?:=λb o i=>j.block b o (λe=>i (Xb5 e));have X:w1.heap.size=d.heap.size:=L;have p:∀ b,b<d.heap.size->b≠a->w2.heap[b]?=d.heap[b]?:=λb o i=>(k.block b (by omega) (λe=>i (Xb5 e))).trans (A b o i);have q:=A (w.heap.size+1) (by omega) (by omega);have s:=p (w.heap.size+1) (by omega) (by omega);have aj:Xc w1 (w.heap.size+1) 0 (.string tag):=(Xb3 q).trans C;have ak:Xc w1 (w.heap.size+1) 1 (Xi key):=(Xb3 q).trans D;have al:Xc w1 (w.heap.size+1) 2 (Xi 0):=(Xb3 q).trans E;have ao:Xc w2 (w.heap.size+1) 0 (.string tag):=(Xb3 s).trans C;have ap:Xc w2 (w.heap.size+1) 1 (Xi key):=(Xb3 s).trans D;have aq:Xc w2 (w.heap.size+1) 2 (Xi 0):=(Xb3 s).trans E;have l:w2.heap[w.heap.size]?=some (.cells #[Xo,Xi 0,Xi 0] 192 (0,0)):=(p _ (by omega) (by omega)).trans T;have a3:w2.cell? (Xa w.heap.size 0)=some Xo:=by simp [World.cell?,l]
 have a4:w2.cell? (Xa w.heap.size 1)=some (Xi 0):=by simp [World.cell?,l]
 have a5:w2.cell? (Xa w.heap.size 2)=some (Xi 0):=by simp [World.cell?,l]
 have ar:∀ W,w2.frozen? (Xa w.heap.size W)=false:=λW=>by simp [World.frozen?,l]
 have I:Hid (∀ v0 t u,Zt (((w2.setCell (Xa w.heap.size 0) v0).setCell (Xa w.heap.size 1) t).setCell (Xa w.heap.size 2) u) a (QaY f ⟨tag,key,0⟩ (c+1)) (N+1)/\Qi (λb=>b=a) w (((w2.setCell (Xa w.heap.size 0) v0).setCell (Xa w.heap.size 1) t).setCell (Xa w.heap.size 2) u)):=Qa λv0 t u=>by have a6:Qi (λb=>b=a) w w2:=⟨k.os.trans (j.os.trans h.os),k.tape.trans (j.tape.trans h.tape),k.output.trans (j.output.trans h.output),by omega,λb o i=>(p b (by omega) i).trans (h.block b o)⟩;refine ⟨z.heap ?_,((a6.set (.inr X0) v0).set (.inr X0) t).set (.inr X0) u⟩;rw [X5 (by show a≠w.heap.size;omega),X5 (by show a≠w.heap.size;omega),X5 (by show a≠w.heap.size;omega)]
 clear g h R x J z j k M A p q s T l L a1 X n O P B K;have a2:(λw':World=>Xc w' (w.heap.size+1) 0 (.string tag)/\Xc w' (w.heap.size+1) 1 (Xi key)/\Xc w' (w.heap.size+1) 2 (Xi 0)/\(Instr.lookup 190 (.map (some a)) (.agg #[.string tag,Xi key,Xi 0]) false).run Tryz.prog w'=.ok (Xi c) w') d.drew:=⟨C,D,E,U⟩;refine ZU (S:=(λw':World=>w'.cell? (Xa (w.heap.size+1) 0)=some (.string tag)/\w'.cell? (Xa (w.heap.size+1) 1)=some (Xi key)/\w'.cell? (Xa (w.heap.size+1) 2)=some (Xi 0)/\(Instr.lookup 190 (.map (some a)) (.agg #[.string tag,Xi key,Xi 0]) false).run Tryz.prog w'=.ok (Xi c) w')) (by kernel_rfl) ?_;iterate 4
  apply Qbz ?_ a2 ?_;rotate_left
  ·(intro w' hSw;(try obtain ⟨q0,q1,q2,q3⟩:=hSw);simp only [Xq];go_simp;try (with_reducible rfl))
  simp only [Xq,Xr]
 refine Qbe 4 ?_;simp only [Xq];go_simp;refine Qbe 5 ?_;simp only [Xq];go_simp;refine Qbe 6 ?_;simp only [Xq];go_simp;refine ⟨.inl (by kernel_rfl),?_⟩;refine ZP (by kernel_rfl) ?_ _;clear F y U a0;go_wp2_with fail;generalize m:((w2.setCell (Xa w.heap.size 0) (.string tag)).setCell (Xa w.heap.size 1) (Xi key)).setCell (Xa w.heap.size 2) (Xi c)=wF;have a7:wF.cell? (Xa w.heap.size 0)=some (.string tag):=by rw [<- m];simp [go_sem,a3]
 have a8:wF.cell? (Xa w.heap.size 1)=some (Xi key):=by rw [<- m];simp [go_sem,a4]
 have a9:wF.cell? (Xa w.heap.size 2)=some (Xi c):=by rw [<- m];simp [go_sem,a5]
 have G:=I.out (.string tag) (Xi key) (Xi c);rw [m] at G;have aa:=Qa G;clear m G I;refine bodyPost_ret (v:=.agg #[.string tag,Xi key,Xi c]) (by simp [results,Tryz.results128,go_sem,a7,a8,a9]) rfl ?_;exact ⟨rfl,aa.out⟩
end Go.Proofs.YtobgcaemnpkbmaaGreat
