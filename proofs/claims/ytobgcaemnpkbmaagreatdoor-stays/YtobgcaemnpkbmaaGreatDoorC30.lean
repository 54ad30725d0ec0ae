import Derived.Test.YtobgcaemnpkbmaaGreatDoorC29
import Derived.Conc.LoneCalls
import Derived.Conc.LoneSelect
import Derived.Defers
import Derived.Conc.LoneSelectN
namespace Go.Proofs.YtobgcaemnpkbmaaGreatDoor
set_option maxRecDepth 100000
set_option maxHeartbeats 8000000
open Go.RowKit List Go.Conc
theorem QY.mono {a M:Int} {C:Nat->Pc} (h:QY a C) (b:a<=M):QY M C := ⟨h.zero,h.out,λi=>⟨(h.gen i).1,by have:=(h.gen i).2;omega⟩,h.few,h.nodup,h.nums,h.flds,h.deep⟩
theorem QY.put {j:Int} {C:Nat->Pc} (h:QY j C) (k:Nat) (x:Pc) (l:x.on=(C k).on) (m:x.gen=(C k).gen) (n:x.par=(C k).par) (o:x.ns.length<=8) (q:x.ns.Nodup) (r:∀ c,c ∈ x.ns->0<=c/\c<=30) (s:Qg x.fa/\Qg x.fb/\Qg x.fc):QY j (Zu C k x):=by
 have e:∀ i,(Zu C k x i).on=(C i).on/\(Zu C k x i).gen=(C i).gen/\(Zu C k x i).par=(C i).par:=λi=>by
  by_cases e:i=k
  ·subst e;rw [Qb8];exact ⟨l,m,n⟩
  rw [QaI _ _ e];exact ⟨rfl,rfl,rfl⟩
 have f:∀ (P:Pc->Prop),(∀ i,P (C i))->P x->∀ i,P (Zu C k x i):=λP a b i=>by
  by_cases e:i=k
  ·subst e;rw [Qb8];exact b
  rw [QaI _ _ e];exact a i
 obtain ⟨t,g⟩:=h.deep;refine ⟨by rw [(e 0).1];exact h.zero,λi d=>by rw [(e i).1];exact h.out i d,λi=>by rw [(e i).2.1];exact h.gen i,f (λp=>p.ns.length<=8) h.few o,f (λp=>p.ns.Nodup) h.nodup q,f (λp=>∀ c,c ∈ p.ns->0<=c/\c<=30) h.nums r,f (λp=>Qg p.fa/\Qg p.fb/\Qg p.fc) h.flds s,t,λi d=>g.five i (by rw [<- (e i).1];exact d),λi d=>?_⟩;rw [(e i).1] at d;rcases g.up i d with a|⟨p,u,v,y,z,A⟩
 ·exact .inl (by rw [(e i).2.2];exact a)
 exact .inr ⟨p,u,v,by rw [(e i).2.2];exact y,by rw [(e p).1];exact z,A⟩
theorem QY.mount {v:Int} {C:Nat->Pc} (h:QY v C) (k:Nat) (E:0<k) (F:k<21) (z:(C k).on=false) (p:Int) (A:p=0 \/ ∃ q:Nat,0<q/\q<21/\p=q/\(C q).on=true/\QbK C 5 (C q).par+1<5):QY (v+1) (Zu C k ⟨true,(C k).gen+1,p,0,0,0,[]⟩):=by
 obtain ⟨f,s⟩:=h.deep;have j:∀ (P:Pc->Prop),(∀ i,P (C i))->P ⟨true,(C k).gen+1,p,0,0,0,[]⟩->∀ i,P (Zu C k ⟨true,(C k).gen+1,p,0,0,0,[]⟩ i):=λP a b i=>by
  by_cases e:i=k
  ·subst e;rw [Qb8];exact b
  rw [QaI _ _ e];exact a i
 have G:=h.gen k;have u:Qg 0:=⟨by decide,by decide⟩;have r:∀ i,(C i).on=true->i≠k:=λi d e=>by rw [e,z] at d;cases d
 refine ⟨by rw [QaI _ _ (by omega)];exact h.zero,λi d=>by rw [QaI _ _ (by omega)];exact h.out i d,j (λp=>0<=p.gen/\p.gen<=v+1) (λi=>by have:=h.gen i;omega) ⟨by show 0<=(C k).gen+1;omega,by show (C k).gen+1<=_;omega⟩,j (λp=>p.ns.length<=8) h.few (by simp),j (λp=>p.ns.Nodup) h.nodup (by simp),j (λp=>∀ x,x ∈ p.ns->0<=x/\x<=30) h.nums (by simp),j (λp=>Qg p.fa/\Qg p.fb/\Qg p.fc) h.flds ⟨u,u,u⟩,?_⟩;have y:∀ (g:Nat->Nat),(∀ i,i≠k->g i=f i)->(g k<5)->((p=0/\g k=0) \/ ∃ q:Nat,0<q/\q<21/\p=q/\(C q).on=true/\g k=f q+1)->Deep (Zu C k ⟨true,(C k).gen+1,p,0,0,0,[]⟩) g:=λg t B D=>by
  refine ⟨λi d=>?_,λi d=>?_⟩
  ·by_cases e:i=k
   ·rw [e];exact B
   rw [QaI _ _ e] at d;rw [t i e];exact s.five i d
  by_cases e:i=k
  ·subst e;rw [Qb8];rcases D with a|⟨q,l,m,n,c,o⟩
   ·exact .inl a
   exact .inr ⟨q,l,m,n,by rw [QaI _ _ (r q c)];exact c,by rw [t q (r q c)];exact o⟩
  rw [QaI _ _ e] at d ⊢;rw [t i e];rcases s.up i d with a|⟨q,l,m,n,c,o⟩
  ·exact .inl a
  exact .inr ⟨q,l,m,n,by rw [QaI _ _ (r q c)];exact c,by rw [t q (r q c)];exact o⟩
 rcases A with e|⟨q,l,m,n,c,o⟩
 ·exact ⟨λi=>if i=k then 0 else f i,y _ (λi e=>if_neg e) (by show (if k=k then 0 else f k)<5;rw [if_pos rfl];omega) (.inl ⟨e,if_pos rfl⟩)⟩
 rw [s.above 5 q c (by have:=s.five q c;omega)] at o;exact ⟨λi=>if i=k then f q+1 else f i,y _ (λi e=>if_neg e) (by show (if k=k then f q+1 else f k)<5;rw [if_pos rfl];omega) (.inr ⟨q,l,m,n,c,if_pos rfl⟩)⟩
theorem QY.unm {v:Int} {C:Nat->Pc} (h:QY v C) (k:Nat) (E:0<k) (I:k<21) (F:(C k).on=true):QY v (QaD 5 C k):=by
 obtain ⟨z,d⟩:=h.deep;have g:=Qij 5 C k;have A:=Qgi 5 C k;have f:∀ (P:Pc->Prop),(∀ i,P (C i))->(∀ i,P (QbH (C i)))->∀ i,P (QaD 5 C k i):=λP a b i=>by
  rcases g i with e|e
  ·rw [e];exact a i
  rw [e];exact b i
 have m:Qg 0:=⟨by decide,by decide⟩;refine ⟨g.off h.zero,λi c=>g.off (h.out i c),f (λp=>0<=p.gen/\p.gen<=v) h.gen h.gen,f (λp=>p.ns.length<=8) h.few (λ_=>by simp [QbH]),f (λp=>p.ns.Nodup) h.nodup (λ_=>by simp [QbH]),f (λp=>∀ x,x ∈ p.ns->0<=x/\x<=30) h.nums (λ_=>by simp [QbH]),f (λp=>Qg p.fa/\Qg p.fb/\Qg p.fc) h.flds (λ_=>⟨m,m,m⟩),z,λi c=>?_,λi c=>?_⟩
 ·rw [A i c] at c;exact d.five i c
 have e:=A i c;have D:i<21:=by
  rcases Nat.lt_or_ge i 21 with n|n
  ·exact n
  rw [g.off (h.out i n)] at c;cases c
 have G:=QkR z 5 k C (λ_=>False) h.zero (λj o=>⟨d.five j o,λp R O=>by
  rcases d.up j o with ⟨a,_⟩|⟨q,r,s,t,u,l⟩
  ·omega
  ·have:p=q:=by omega
   rw [this];exact l⟩) E I (d.five k F) (by omega) (λj o H=>by
  rcases d.up j H with ⟨a,_⟩|⟨q,r,s,t,u,l⟩
  ·exact .inl a
  exact .inr (.inl ⟨q,r,s,t,u⟩)) i D c
 have y:=c;rw [e] at y;rcases d.up i y with ⟨J,K⟩|⟨q,r,s,t,u,l⟩
 ·exact .inl ⟨by rw [e];exact J,K⟩
 rcases G with a|⟨p,L,M,B,N⟩|a
 ·rw [e] at a;omega
 ·rw [e] at B;have:p=q:=by omega
  subst this;exact .inr ⟨p,L,M,by rw [e];exact B,N,l⟩
 exact a.elim
theorem QY.fold {q:Int} {C:Nat->Pc} (h:QY q C) (a:Ac) (g:Int) (k:a.may=true) (s:a.kd≠8/\a.kd≠9) (l:Qg a.n):QY (q+1) (QcG C a g):=by
 have G:1<=a.nm/\a.nm<=20/\a.rest=true:=by
  unfold Ac.may at k;simp only [Bool.and_eq_true,Bool.or_eq_true,beq_iff_eq,decide_eq_true_eq] at k;rcases k.2 with (e|e)|e
  ·exact absurd e s.1
  ·exact absurd e s.2
  exact ⟨e.1.1,e.1.2,e.2⟩
 obtain ⟨L,N,c⟩:=G;have d:=h.mono (M:=q+1) (by omega);have r:0<a.nm.toNat:=by omega
 have t:a.nm.toNat<21:=by omega
 unfold QcG;simp only;unfold Ac.rest at c;by_cases u:a.kd=1
 ·rw [if_pos u] at c ⊢;simp only [Bool.and_eq_true,decide_eq_true_eq,bne_iff_ne,ne_eq] at c;split
  ·rename_i hc;simp only [Bool.and_eq_true,Bool.not_eq_true',Bool.or_eq_true,beq_iff_eq,decide_eq_true_eq] at hc;refine h.mount _ r t hc.1 _ ?_;rcases hc.2 with e|⟨H,I⟩
   ·exact .inl e
   by_cases J:a.pa=0
   ·exact .inl J
   exact .inr ⟨a.pa.toNat,by omega,by omega,by omega,H,I⟩
  exact d
 rw [if_neg u] at c ⊢;split
 ·rename_i hc;simp only [Bool.and_eq_true,beq_iff_eq] at hc;by_cases v:a.kd=2
  ·rw [if_pos v];exact d.unm _ r t hc.1
  rw [if_neg v] at c ⊢;obtain ⟨y,z,A⟩:=h.flds a.nm.toNat;have m:∀ x:Int,Qg (IntKind.i64.wrap x):=λx=>by rw [IntKind.wrap_i64];constructor<;>omega
  by_cases B:a.kd=3
  ·rw [if_pos B];refine d.put _ _ rfl rfl rfl (h.few _) (h.nodup _) (h.nums _) ⟨?_,?_,?_⟩
   ·show Qg (if _ then _ else _);split;exact l;exact y
   ·show Qg (if _ then _ else _);split;exact l;exact z
   show Qg (if _ then _ else _);split;exact l;exact A
  rw [if_neg B];by_cases D:a.kd=4
  ·rw [if_pos D];refine d.put _ _ rfl rfl rfl (h.few _) (h.nodup _) (h.nums _) ⟨?_,?_,?_⟩
   ·show Qg (if _ then _ else _);split;exact m _;exact y
   ·show Qg (if _ then _ else _);split;exact m _;exact z
   show Qg (if _ then _ else _);split;exact m _;exact A
  rw [if_neg D];rw [if_neg (by omega)] at c;by_cases o:a.kd=5
  ·rw [if_pos o];rw [if_pos (.inl o)] at c;simp only [Bool.and_eq_true,decide_eq_true_eq] at c;split
   ·rename_i hc5;simp only [Bool.and_eq_true,Bool.not_eq_true',decide_eq_true_eq] at hc5;have F:a.n ∉ (C a.nm.toNat).ns:=λe=>by have:=contains_iff_mem.2 e;rw [hc5.1] at this;cases this
    refine d.put _ _ rfl rfl rfl ?_ ?_ ?_ (h.flds _)
    ·show ((C a.nm.toNat).ns++[a.n]).length<=8;rw [length_append];simp;omega
    ·show ((C a.nm.toNat).ns++[a.n]).Nodup;rw [nodup_append];exact ⟨h.nodup _,by simp,λx p i f=>by rw [mem_singleton.1 f];exact λe=>F (e▸p)⟩
    intro i f;rcases mem_append.1 f with e|e
    ·exact h.nums _ i e
    rw [mem_singleton.1 e];exact c
   exact d
  rw [if_neg o];by_cases E:a.kd=6
  ·rw [if_pos E];refine d.put _ _ rfl rfl rfl ?_ ?_ ?_ (h.flds _)
   ·exact Nat.le_trans (List.erase_sublist).length_le (h.few _)
   ·exact (h.nodup _).sublist List.erase_sublist
   exact λi f=>h.nums _ i (mem_of_mem_erase f)
  rw [if_neg E];split
  ·exact d
  rename_i hne;rw [if_neg (by omega)] at c;have K:a.kd=7:=by
   by_cases e:a.kd=7
   ·exact e
   rw [if_neg e] at c;cases c
  rw [if_pos K] at c;simp only [Bool.and_eq_true,decide_eq_true_eq] at c;have O:0<(C a.nm.toNat).ns.length:=Nat.pos_of_ne_zero hne;have j:∀ x:Int,0<=x->(Int.tmod x (C a.nm.toNat).ns.length).toNat<(C a.nm.toNat).ns.length:=λx p=>by have:=Int.tmod_nonneg (((C a.nm.toNat).ns.length:Nat):Int) p;have:=Int.tmod_lt_of_pos x (b:=(((C a.nm.toNat).ns.length:Nat):Int)) (by omega);omega
  refine d.put _ _ rfl rfl rfl ?_ ?_ ?_ (h.flds _)
  ·show (Qad _ _ _).length<=8;rw [Qdw];exact h.few _
  ·exact Qso _ (j _ c.1) (j _ c.2) (h.nodup _)
  exact λi f=>h.nums _ i ((QkN _ (j _ c.1) (j _ c.2) i).1 f)
 exact d
def QbN (w:World) (ao:Option Addr) (xs:List Int):Prop:=∀ j x,xs[j]?=some x->∃ g,ao=some ⟨g,0,none⟩/\w.cell? ⟨g,j,none⟩=some (.int .i64 x)
theorem Qq4 (ao:Option Addr) (n c:Nat) (xs:List Int) (v:Int) (w:World) (k:n=xs.length) (C:n<=1000000) (h:QbN w ao xs) : Calls Tryz.prog 190 #[.slice ao n c,.int .i64 v] w λe w'=>∃ j:Int,e=.returned (.int .i64 j)/\w'=w/\-1<=j/\j<=n/\decide (0<=j)=xs.contains v:=by
 cases xs with
 | nil =>
  subst k;clear h;go_enter Tryz.func190,Tryz.ntmps190;go_wp2;go_loopw [8] (λi wr=>i=.int .i64 0/\wr=w) (λ_ _=>0);·exact ⟨rfl,rfl⟩
  case round =>obtain ⟨rfl,rfl⟩:=hrel;go_wp2;go_ret;exact ⟨-1,rfl,rfl,by omega,by omega,by simp⟩
 | cons m l =>
  obtain ⟨g,rfl,_⟩:=h 0 m rfl;have y:Hid (∀ j x,(m::l)[j]?=some x->w.cell? ⟨g,j,none⟩=some (.int .i64 x)):=Qa λj x A=>by obtain ⟨D,e,B⟩:=h j x A;cases e;exact B
  generalize m::l=xs at *;have r:=Qa k;clear h k;go_enter Tryz.func190,Tryz.ntmps190;go_wp2;go_loopw [8] (λi wr=>wr=w/\∃ j:Nat,j<=n/\i=.int .i64 j/\Hid (∀ a,a ∈ xs.take j->a≠v)) (λi _=>n-(intOf i).toNat);·exact ⟨rfl,0,Nat.zero_le _,rfl,Qa λa b=>by simp at b⟩
  case round =>
   obtain ⟨rfl,j,E,rfl,f⟩:=hrel;by_cases t:j<n
   ·have p:j<xs.length:=by rw [<- r.out];exact t
    have F:=y.out j _ (getElem?_eq_getElem p);generalize b:xs[j]=a at *;by_cases e:v=a
    ·have e':(v==a)=true:=by simp [e]
     have o:Hid (xs.contains v=true):=Qa (by rw [e,<- b];simp);clear f e b;go_wp2;go_ret;exact ⟨j,rfl,rfl,by omega,by omega,by rw [o.out];simp⟩
    have e':(v==a)=false:=by simp [e]
    have u:Hid (∀ z,z ∈ xs.take (j+1)->z≠v):=Qa λz d=>by
     rw [take_succ_eq_append_getElem p,b] at d;rcases mem_append.1 d with d|d
     ·exact f.out z d
     rw [mem_singleton.1 d];exact λh=>e h.symm
    clear f e b;go_wp2;go_roundw;·exact ⟨trivial,j+1,by omega,by go_num,u⟩
    simp [intOf];omega
   have q:j=n:=by omega
   have o:Hid (xs.contains v=false):=Qa (by have s:=f.out;rw [q,r.out,take_length] at s;simp;exact λh=>s v h rfl);subst q;clear f;go_wp2;go_ret;exact ⟨-1,rfl,rfl,by omega,by omega,by rw [o.out];simp⟩
theorem Qma (ao:Option Addr) (n c:Nat) (xs:List Int) (v:Int) (w:World) (b:n=xs.length) (f:n<=1000000) (h:QbN w ao xs) : Calls Tryz.prog 171 #[.slice ao n c,.int .i64 v] w λe w'=>e=.returned (.bool (xs.contains v))/\w'=w:=by have g:=Qa (Qq4 ao n c xs v w b f h);clear h b;go_enter Tryz.func171,Tryz.ntmps171;go_wp2_with (go_at_call 190;refine g.out.mono ?_;rintro e w1 ⟨j,rfl,a,k,l,d⟩;rw [a];clear a;have i:=Qa d;clear d);go_ret;exact ⟨by rw [<- i.out];rfl,rfl⟩
structure ZR (P:Program) (c:Code) (Q:Exit->Act->World->Prop) (a:Act) (w:World):Prop where
 go:∀ (b:Frame) (k:List Item) (cs:List Frame),b.kind≠.early->∃ e a' w',Q e a' w'/\Arrives P (lone (b.at a (.code c::k)) cs w) b k cs e a' w'
structure wpR (P:Program) (ops:Array Oper) (l:List Nat) (Q:Exit->Act->World->Prop) (a:Act) (w:World):Prop where
 go:∀ (b:Frame) (k:List Item) (cs:List Frame),b.kind≠.early->∃ e a' w',Q e a' w'/\Arrives P (lone (b.at a (.inRegion ops l::k)) cs w) b k cs e a' w'
section
variable {P : Program} {Q : Exit → Act → World → Prop} {a : Act} {w : World}
theorem ZR.of {c:Code} (h:c.wp P Q a w):ZR P c Q a w:=⟨λb k cs _=>h b k cs⟩
theorem QaB {x y:Code} (h:ZR P x (Exit.then (ZR P y Q) Q) a w):ZR P (.seq x y) Q a w:=by
 refine ⟨λb k cs hb=>?_⟩;obtain ⟨e,a₁,w₁,hq,harr⟩:=h.go b (.code y::k) cs hb;cases e with
 | normal =>obtain ⟨e₂,a₂,w₂,hq₂,harr₂⟩:=hq.go b k cs hb;exact ⟨e₂,a₂,w₂,hq₂,.of_steps (.head step_seq harr) harr₂⟩
 | exit id=>exact ⟨_,a₁,w₁,hq,.of_steps (.one step_seq) (.pass (x:=.code y) rfl (λ_ _=>.inl (by simp)) harr)⟩| goto l=>exact ⟨_,a₁,w₁,hq,.of_steps (.one step_seq) (.pass (x:=.code y) rfl (λ_ _=>.inl (by simp)) harr)⟩| ret=>exact ⟨_,a₁,w₁,hq,.of_steps (.one step_seq) (.pass (x:=.code y) rfl (λ_ _=>.inl (by simp)) harr)⟩| panic ch=>exact ⟨_,a₁,w₁,hq,.of_steps (.one step_seq) (.pass (x:=.code y) rfl (λ_ _=>.inl (by simp)) harr)⟩| outgrown=>exact ⟨_,a₁,w₁,hq,.of_steps (.one step_seq) (.pass (x:=.code y) rfl (λ_ _=>.inl (by simp)) harr)⟩
theorem Js {x y:Code} (h:∀ K:Act->World->Prop,(∀ a w,ZR P y Q a w->K a w)->x.wp P (Exit.then K Q) a w):ZR P (.seq x y) Q a w := QaB (.of (h _ λ_ _ h=>h))
theorem QcV {c:Operand} {x y:Code} {t:Bool} (hc:a.eval c=.bool t) (h:ZR P (if t then x else y) Q a w):ZR P (.cond c x y) Q a w := ⟨λb k cs hb=>let ⟨e,a',w',q,r⟩:=h.go b k cs hb;⟨e,a',w',q,.of_steps (.one (step_cond hc)) r⟩⟩
theorem QdE {id:Nat} {c:Code} (h:ZR P c (Exit.inBlock id Q) a w):ZR P (.block id c) Q a w:=by
 refine ⟨λb k cs hb=>?_⟩;obtain ⟨e,a₁,w₁,hq,harr⟩:=h.go b (.inBlock id::k) cs hb;cases e with
 | normal=>exact ⟨.normal,a₁,w₁,hq,.head step_block (Steps.trans harr (.one step_inBlock))⟩
 | exit id' =>
  by_cases hid:id'=id
  ·simp only [Exit.inBlock,hid,if_true] at hq;exact ⟨.normal,a₁,w₁,hq,.head step_block (harr k (by simp [exitTo,hid]))⟩
  simp only [Exit.inBlock,hid,if_false] at hq;refine ⟨.exit id',a₁,w₁,hq,λk' hk=>.head step_block (harr k' ?_)⟩;have:(id==id')=false:=by simp;exact λh=>hid h.symm
  simp [exitTo,this,hk]
 | goto l=>exact ⟨_,a₁,w₁,hq,λk' hk=>.head step_block (harr k' (by simp [gotoIn,hk]))⟩| ret=>exact ⟨_,a₁,w₁,hq,.of_steps (.one step_block) harr⟩| panic ch=>exact ⟨_,a₁,w₁,hq,.of_steps (.one step_block) harr⟩| outgrown=>exact ⟨_,a₁,w₁,hq,.of_steps (b:=b) (k:=k) (cs:=cs) (e:=.outgrown) (.one step_block) harr⟩
theorem Qhx {c:Code} (I:Nat->Act->World->Prop) (n:Nat) (h₀:I n a w) (round:∀ n a w,I n a w->ZR P c (Exit.then (λa' w'=>∃ m,m<n/\I m a' w') Q) a w):ZR P (.loop c) Q a w:=by
 refine ⟨λb k cs hb=>?_⟩;have key:∀ n a w,I n a w->∃ e a' w',Q e a' w'/\Arrives P (lone (b.at a (.code c::.inLoop c::k)) cs w) b k cs e a' w':=by
  intro n;induction n using Nat.strongRecOn with
  | _ n ih =>
   intro a w hI;obtain ⟨e,a₁,w₁,hq,harr⟩:=(round n a w hI).go b (.inLoop c::k) cs hb;cases e with
   | normal =>obtain ⟨m,hm,hI₁⟩:=hq;obtain ⟨e₂,a₂,w₂,hq₂,harr₂⟩:=ih m hm a₁ w₁ hI₁;exact ⟨e₂,a₂,w₂,hq₂,.of_steps (Steps.trans harr (.one step_inLoop)) harr₂⟩
   | exit id=>exact ⟨_,a₁,w₁,hq,.pass (x:=.inLoop c) rfl (λ_ _=>.inl (by simp)) harr⟩| goto l=>exact ⟨_,a₁,w₁,hq,.pass (x:=.inLoop c) rfl (λ_ _=>.inl (by simp)) harr⟩| ret=>exact ⟨_,a₁,w₁,hq,.pass (x:=.inLoop c) rfl (λ_ _=>.inl (by simp)) harr⟩| panic ch=>exact ⟨_,a₁,w₁,hq,.pass (x:=.inLoop c) rfl (λ_ _=>.inl (by simp)) harr⟩| outgrown=>exact ⟨_,a₁,w₁,hq,.pass (x:=.inLoop c) rfl (λ_ _=>.inl (by simp)) harr⟩
 obtain ⟨e,a',w',hq,harr⟩:=key n a w h₀;exact ⟨e,a',w',hq,.of_steps (.one step_loop) harr⟩
theorem Qez {id:Nat} {ops:Array Oper} (h:wpR P ops (List.range ops.size) Q a w):ZR P (.region id ops false) Q a w := ⟨λb k cs hb=>let ⟨e,a',w',q,r⟩:=h.go b k cs hb;⟨e,a',w',q,.of_steps (.one step_region) r⟩⟩
theorem Qev {ops:Array Oper} (h:Q .normal a w):wpR P ops [] Q a w:=⟨λ_ _ _ _=>⟨.normal,a,w,h,.one step_region_end⟩⟩
theorem Qtu {ops:Array Oper} {i:Nat} {rest:List Nat} {o:Oper} {v:Value} {w':World} (ho:ops[i]?=some o) (hw:Region.wanted o (yielded ops a.tmps)=true) (hr:(execOp a.eval o).run P w=.ok (.value v) w') (h:wpR P ops rest Q (a.put o.dst v) w'):wpR P ops (i::rest) Q a w:=by
 refine ⟨λb k cs hb=>?_⟩;have hg:=stepG_op (P:=P) (b:=b) (k:=k) (cs:=cs) (w:=w) (rest:=rest) ho hw;have hfin:(b.at a (.inRegion ops (i::rest)::k)).finish v=b.at (a.put o.dst v) (.inRegion ops rest::k):=by rw [Frame.finish_at,ho];rfl
 obtain ⟨e,a',w'',hq,harr⟩:=h.go b k cs hb;refine ⟨e,a',w'',hq,.of_steps (.one (step_lone_go ?_)) harr⟩;rw [hg,<- hfin];simp [stepG.apply,hr]
theorem QeT {ops:Array Oper} {i:Nat} {rest:List Nat} {o:Oper} {v:Value} (hr:(execOp a.eval o).run P w=.ok (.value v) w) (h:wpR P ops rest Q (a.put o.dst v) w) (ho:ops[i]?=some o:=by exact rfl) (hw:Region.wanted o (yielded ops a.tmps)=true:=by rfl):wpR P ops (i::rest) Q a w:=Qtu ho hw hr h
theorem QrC {ops:Array Oper} {i:Nat} {rest:List Nat} {o:Oper} {c cap s r:Nat} {buf:Array Value} {v z:Value} {tm:Bool} (ho:ops[i]?=some o) (hw:Region.wanted o (yielded ops a.tmps)=true) (hr:(execOp a.eval o).run P w=.ok (.comm #[scase c v z] true .send) w) (hc:w.heap[c]?=some (.chan cap buf false s r tm)) (hroom:buf.size<cap) (h:wpR P ops rest Q (a.put o.dst undef) (w.setChan c cap (buf.push v) false (s+1) r tm)):wpR P ops (i::rest) Q a w:=by refine ⟨λb k cs hb=>?_⟩;have hs:=step_lone_send_room (stepG_comm (P:=P) (main:=true) (b:=b) (a:=a) (k:=k) (cs:=cs) (w:=w) (rest:=rest) ho hw hb hr) hc hroom;rw [Frame.finish_at,ho] at hs;obtain ⟨e,a',w'',hq,harr⟩:=h.go b k cs hb;exact ⟨e,a',w'',hq,.of_steps (.one hs) harr⟩
theorem QsG {ops:Array Oper} {i:Nat} {rest:List Nat} {o:Oper} {c cap s r:Nat} {buf:Array Value} {z:Value} {tm closed:Bool} (ok:Bool) (ho:ops[i]?=some o) (hw:Region.wanted o (yielded ops a.tmps)=true) (hr:(execOp a.eval o).run P w=.ok (.comm #[rcase c z] true (.recv ok)) w) (hc:w.heap[c]?=some (.chan cap buf closed s r tm)) (hsome:0<buf.size) (h:wpR P ops rest Q (a.put o.dst (got ok (buf.getD 0 undef) true)) (w.setChan c cap (buf.extract 1 buf.size) closed s (r+1) tm)):wpR P ops (i::rest) Q a w:=by refine ⟨λb k cs hb=>?_⟩;have hs:=step_lone_recv_buf ok (stepG_comm (P:=P) (main:=true) (b:=b) (a:=a) (k:=k) (cs:=cs) (w:=w) (rest:=rest) ho hw hb hr) hc hsome;rw [Frame.finish_at,ho] at hs;obtain ⟨e,a',w'',hq,harr⟩:=h.go b k cs hb;exact ⟨e,a',w'',hq,.of_steps (.one hs) harr⟩
theorem Qqp {ops:Array Oper} {i:Nat} {rest:List Nat} {o:Oper} {c cap s r:Nat} {z:Value} {tm:Bool} (ok:Bool) (ho:ops[i]?=some o) (hw:Region.wanted o (yielded ops a.tmps)=true) (hr:(execOp a.eval o).run P w=.ok (.comm #[rcase c z] true (.recv ok)) w) (hc:w.heap[c]?=some (.chan cap #[] true s r tm)) (h:wpR P ops rest Q (a.put o.dst (got ok z false)) w):wpR P ops (i::rest) Q a w:=by refine ⟨λb k cs hb=>?_⟩;have hs:=step_lone_recv_shut ok (stepG_comm (P:=P) (main:=true) (b:=b) (a:=a) (k:=k) (cs:=cs) (w:=w) (rest:=rest) ho hw hb hr) hc;rw [Frame.finish_at,ho] at hs;obtain ⟨e,a',w'',hq,harr⟩:=h.go b k cs hb;exact ⟨e,a',w'',hq,.of_steps (.one hs) harr⟩
theorem Qtz {ops:Array Oper} {i:Nat} {rest:List Nat} {o:Oper} {c cap s r:Nat} {z:Value} {tm:Bool} (ho:ops[i]?=some o) (hw:Region.wanted o (yielded ops a.tmps)=true) (hr:(execOp a.eval o).run P w=.ok (.comm #[rcase c z] false .select) w) (hc:w.heap[c]?=some (.chan cap #[] false s r tm)) (h:wpR P ops rest Q (a.put o.dst (.tuple #[goInt (-1),.bool false,z])) w):wpR P ops (i::rest) Q a w:=by refine ⟨λb k cs hb=>?_⟩;have hs:=step_lone_select_default (stepG_comm (P:=P) (main:=true) (b:=b) (a:=a) (k:=k) (cs:=cs) (w:=w) (rest:=rest) ho hw hb hr) hc;rw [Frame.finish_at,ho] at hs;obtain ⟨e,a',w'',hq,harr⟩:=h.go b k cs hb;exact ⟨e,a',w'',hq,.of_steps (.one hs) harr⟩
theorem Qp5 {ops:Array Oper} {i:Nat} {rest:List Nat} {o:Oper} {c cap s r:Nat} {buf:Array Value} {z:Value} {tm closed:Bool} (ho:ops[i]?=some o) (hw:Region.wanted o (yielded ops a.tmps)=true) (hr:(execOp a.eval o).run P w=.ok (.comm #[rcase c z] false .select) w) (hc:w.heap[c]?=some (.chan cap buf closed s r tm)) (hsome:0<buf.size) (h:wpR P ops rest Q (a.put o.dst (.tuple #[goInt 0,.bool true,buf.getD 0 undef])) (w.setChan c cap (buf.extract 1 buf.size) closed s (r+1) tm)):wpR P ops (i::rest) Q a w:=by refine ⟨λb k cs hb=>?_⟩;have hs:=step_lone_select_recv_buf (stepG_comm (P:=P) (main:=true) (b:=b) (a:=a) (k:=k) (cs:=cs) (w:=w) (rest:=rest) ho hw hb hr) hc hsome;rw [Frame.finish_at,ho] at hs;obtain ⟨e,a',w'',hq,harr⟩:=h.go b k cs hb;exact ⟨e,a',w'',hq,.of_steps (.one hs) harr⟩
theorem QmK {f:FuncId} {fn:Func} {c:Code} {args:Array Value} {w:World} {R:Ending->World->Prop} (hf:P.funcs[f]?=some fn) (hb:fn.body=some c) (h:ZR P c (bodyPost P fn R) { tmps:=args++Array.replicate (fn.ntmps-args.size) undef,defers:=[] } w):Calls P f args w R:=by
 intro cs;let b:Frame:={ (default:Frame) with fn:=f,kind:=.normal };have henter:Frame.enter P f args .normal=b.at { tmps:=args++Array.replicate (fn.ntmps-args.size) undef,defers:=[] } [.code c]:=by simp [Frame.enter,Frame.at,hf,hb,b]
 obtain ⟨e,a',w',hq,harr⟩:=h.go b [] cs (by simp [b]);rw [<- henter] at harr;cases e with
 | normal =>obtain ⟨hd,v,hr,hR⟩:=hq;exact ⟨.returned v,w',_,hR,Steps.trans harr (.one step_end),rfl,rfl,hd,rfl,fn,hf,hr⟩
 | ret =>obtain ⟨hd,v,hr,hR⟩:=hq;obtain ⟨todo,hs⟩:=harr;exact ⟨.returned v,w',_,hR,hs,rfl,rfl,hd,rfl,fn,hf,hr⟩
 | panic chain =>obtain ⟨hd,hR⟩:=hq;obtain ⟨todo,hs⟩:=harr;exact ⟨.panicked chain,w',_,hR,hs,rfl,rfl,hd,fn,hf⟩
 | exit id=>exact hq.elim| goto l=>exact hq.elim| outgrown=>exact ⟨.outgrown,w',b,hq,harr.resolve_left (by simp [b]),rfl,trivial⟩
theorem Qub {f:FuncId} {fn:Func} {c:Code} {args:Array Value} {u:FrameMode} {w:World} {R:Ending->World->Prop} (hf:P.funcs[f]?=some fn) (hb:fn.body=some c) (h:ZR P c (bodyPost P fn R) { tmps:=args++Array.replicate (fn.ntmps-args.size) undef,defers:=[] } w):CallsD P f args u w λe u' w'=>u'=u/\R e w':=by
 intro c₀ cs hu;let b:Frame:={ (default:Frame) with fn:=f,kind:=.deferred };have henter:Frame.enter P f args .deferred=b.at { tmps:=args++Array.replicate (fn.ntmps-args.size) undef,defers:=[] } [.code c]:=by simp [Frame.enter,Frame.at,hf,hb,b]
 have hc:({ c₀ with mode:=u }:Frame)=c₀:=by subst hu;rfl
 obtain ⟨e,a',w',hq,harr⟩:=h.go b [] (c₀::cs) (by simp [b]);rw [<- henter] at harr;cases e with
 | normal =>obtain ⟨hd,v,hr,hR⟩:=hq;exact ⟨.returned v,u,w',_,⟨rfl,hR⟩,(by rw [hc];exact Steps.trans harr (.one step_end)),rfl,rfl,hd,fn,hf,hr⟩
 | ret =>obtain ⟨hd,v,hr,hR⟩:=hq;obtain ⟨todo,hs⟩:=harr;exact ⟨.returned v,u,w',_,⟨rfl,hR⟩,(by rw [hc];exact hs),rfl,rfl,hd,fn,hf,hr⟩
 | panic chain =>obtain ⟨hd,hR⟩:=hq;obtain ⟨todo,hs⟩:=harr;exact ⟨.panicked chain,u,w',_,⟨rfl,hR⟩,(by rw [hc];exact hs),rfl,rfl,hd,fn,hf⟩
 | exit id=>exact hq.elim| goto l=>exact hq.elim| outgrown=>exact ⟨.outgrown,u,w',b,⟨rfl,hq⟩,harr.resolve_left (by simp [b]),rfl,trivial⟩
theorem QjT {f:FuncId} {fn:Func} {c:Code} {args:Array Value} {w:World} {R:Ending->World->Prop} (hf:P.funcs[f]?=some fn) (hb:fn.body=some c) (h:ZR P c (bodyPostD P fn R) { tmps:=args++Array.replicate (fn.ntmps-args.size) undef,defers:=[] } w):Calls P f args w R:=by
 intro cs;let b:Frame:={ (default:Frame) with fn:=f,kind:=.normal };have henter:Frame.enter P f args .normal=b.at { tmps:=args++Array.replicate (fn.ntmps-args.size) undef,defers:=[] } [.code c]:=by simp [Frame.enter,Frame.at,hf,hb,b]
 obtain ⟨e,a',w',hq,harr⟩:=h.go b [] cs (by simp [b]);rw [<- henter] at harr;cases e with
 | normal =>obtain ⟨e',w'',fr',hR,hs,hfn,hl⟩:=leaves_steps a'.defers .returning w' { b.at a' [] with mode:=.returning } cs rfl rfl rfl hf rfl hq;exact ⟨e',w'',fr',hR,Comes.of_steps (Steps.trans harr (.one step_end)) hs,hfn,hl⟩
 | ret =>obtain ⟨todo,hs₀⟩:=harr;obtain ⟨e',w'',fr',hR,hs,hfn,hl⟩:=leaves_steps a'.defers .returning w' { b.at a' todo with mode:=.returning } cs rfl rfl rfl hf rfl hq;exact ⟨e',w'',fr',hR,Comes.of_steps hs₀ hs,hfn,hl⟩
 | panic chain =>obtain ⟨todo,hs₀⟩:=harr;obtain ⟨e',w'',fr',hR,hs,hfn,hl⟩:=leaves_steps a'.defers (.panicking chain) w' { b.at a' todo with mode:=.panicking chain } cs rfl rfl rfl hf rfl hq;exact ⟨e',w'',fr',hR,Comes.of_steps hs₀ hs,hfn,hl⟩
 | exit id=>exact hq.elim| goto l=>exact hq.elim| outgrown=>exact ⟨.outgrown,w',b,hq,harr.resolve_left (by simp [b]),rfl,trivial⟩
end
structure Qm where
  a:Ac
  t:Int
  g:Int
def Qm.cells (x:Qm):List Value:=[.int .i64 x.a.kd,.int .i64 x.a.nm,.int .i64 x.a.pa,.int .i64 x.a.fl,.int .i64 x.a.n,.int .i64 x.a.m,.int .i64 x.t,.int .i64 x.g]
def Qm.val (x:Qm):Value:=.agg x.cells.toArray
def ZX (t:Int):List Qm->Nat
  | []=>0
  | x::l=>if x.t=t+1 then ZX (t+1) l+1 else 0
theorem QnD (l:List Qm):∀ t,ZX t l<=l.length:=by
 induction l with
 | nil=>intro t;exact Nat.le_refl _
 | cons x l ih =>
  intro t;unfold ZX;split
  ·have:=ih (t+1);simp;omega
  exact Nat.zero_le _
theorem QjZ (w:World):(Instr.makeChan 163 (.int .i64 48)).run Tryz.prog w=.ok (.chan (some w.heap.size)) (w.alloc (.chan 48 #[] false 0 0 false)):=by
 cases a:Tryz.prog.info? 167 with
 | none=>exact absurd a (by simp [Option.isSome_iff_ne_none.1 (show (Tryz.prog.info? 167).isSome=true from by kernel_rfl)])
 | some i =>
  have hb:i.bytes=64:=by
   have h:(Tryz.prog.info? 167).map (·.bytes)=some 64:=by kernel_rfl
   rw [a] at h;simpa using h
  exact run_makeChan (w:=w) Tryz.underlying163 a .i64 48 (by omega) (by rw [hb];omega)
structure QbD (w:World) (u o b n c:Nat) (tk:Int) (U:List Qm) (i:Nat) (wr:World):Prop where
  chan:wr.heap[w.heap.size]?=some (.chan 48 ((U.take i).map Qm.val).toArray false i 0 false)
  c1:wr.cell? ⟨u,o+1,none⟩=some (.int .i64 tk)
  c2:∃ ao,(i<n->ao=⟨b,i*8,none⟩)/\wr.cell? ⟨u,o+2,none⟩=some (.slice (some ao) (n-i) (c-i))/\ao.block=b
  f2:wr.frozen? ⟨u,o+2,none⟩=false
  row:∀ j x,U[j]?=some x->wr.rangeAt b (j*8) x.cells
  far:Qx (λx=>x=u) w wr
  own:∀ j,j≠o+2->wr.cell? ⟨u,j,none⟩=w.cell? ⟨u,j,none⟩
  froz:∀ j,wr.frozen? ⟨u,j,none⟩=w.frozen? ⟨u,j,none⟩
  more:ZX tk U=i+ZX (tk+i) (U.drop i)
  le:i<=n
theorem QbD.drew {w:World} {u d b n c:Nat} {a:Int} {f:List Qm} {i:Nat} {wr:World} (h:QbD w u d b n c a f i wr) (k:Nat):QbD w u d b n c a f i (wr.drewN k) := ⟨h.chan,h.c1,h.c2,h.f2,h.row,⟨h.far.os,h.far.tape,h.far.output,h.far.size,h.far.block⟩,h.own,h.froz,h.more,h.le⟩
structure QhW (w:World) (u o b n c:Nat) (tk:Int) (U:List Qm) (i:Nat) (wr:World):Prop where
  chan:wr.heap[w.heap.size]?=some (.chan 48 ((U.take (i+1)).map Qm.val).toArray false (i+1) 0 false)
  c1:wr.cell? ⟨u,o+1,none⟩=some (.int .i64 tk)
  c2:wr.cell? ⟨u,o+2,none⟩=some (.slice (some ⟨b,i*8,none⟩) (n-i) (c-i))
  f2:wr.frozen? ⟨u,o+2,none⟩=false
  row:∀ j x,U[j]?=some x->wr.rangeAt b (j*8) x.cells
  far:Qx (λx=>x=u) w wr
  own:∀ j,j≠o+2->wr.cell? ⟨u,j,none⟩=w.cell? ⟨u,j,none⟩
  froz:∀ j,wr.frozen? ⟨u,j,none⟩=w.frozen? ⟨u,j,none⟩
  more:ZX tk U=(i+1)+ZX (tk+(i+1:Nat)) (U.drop (i+1))
theorem Qed (w:World) (c cap:Nat) (a:Array Value) (b:Bool) (s r:Nat) (d:Bool) {k:Nat} (h:k≠c):(w.setChan c cap a b s r d).heap[k]?=w.heap[k]?:=by simp only [World.setChan];rw [Array.getElem?_setIfInBounds_ne (by omega)]
theorem QbD.send {w:World} {u s b n c:Nat} {f:Int} {d:List Qm} {i:Nat} {wr:World} (h:QbD w u s b n c f d i wr) {x:Qm} (q:d[i]?=some x) (l:i<d.length) (m:i<n) (A:x.t=f+i+1) (g:u<w.heap.size) (hb:b<w.heap.size) : QhW w u s b n c f d i (wr.setChan w.heap.size 48 (((d.take i).map Qm.val).toArray.push x.val) false (i+1) 0 false):=by
 have y:w.heap.size<wr.heap.size:=(Array.getElem?_eq_some_iff.1 h.chan).1;have a:∀ k,k<w.heap.size->(wr.setChan w.heap.size 48 (((d.take i).map Qm.val).toArray.push x.val) false (i+1) 0 false).heap[k]?=wr.heap[k]?:=λk a=>Qed _ _ _ _ _ _ _ _ (by omega);have o:d[i]=x:=by rw [getElem?_eq_getElem l] at q;exact Option.some.inj q
 refine ⟨?_,(World.cell?_of_block (a u g)).trans h.c1,(World.cell?_of_block (a u g)).trans (by obtain ⟨ao,z,e,_⟩:=h.c2;rw [e,z m]),(World.frozen?_of_block (a u g)).trans h.f2,λj E B r v C=>(World.cell?_of_block (a b hb)).trans (h.row j E B r v C),?_,λj D=>(World.cell?_of_block (a u g)).trans (h.own j D),λj=>(World.frozen?_of_block (a u g)).trans (h.froz j),?_⟩
 ·rw [heap_setChan _ _ _ _ _ _ _ _ y,take_succ_eq_append_getElem l,o];simp
 ·exact ⟨h.far.os,h.far.tape,h.far.output,by rw [size_setChan];exact h.far.size,λk p m=>(a k p).trans (h.far.block k p m)⟩
 have:=h.more;rw [drop_eq_getElem_cons l,o,ZX,if_pos A] at this;rw [this];have e:f+((i+1:Nat):Int)=f+i+1:=by omega
 rw [e];omega
theorem QhW.cut {w:World} {u f b n c:Nat} {g:Int} {m:List Qm} {i:Nat} {wr:World} (h:QhW w u f b n c g m i wr) (z:i<n) (o:b≠u) (A:u<w.heap.size) (_hb:b<w.heap.size) (ao:Addr) (k d:Nat) (a:k=n-(i+1)) (s:d=c-(i+1)) (p:i+1<n->ao=⟨b,(i+1)*8,none⟩) (q:ao.block=b) : QbD w u f b n c g m (i+1) (wr.setCell ⟨u,f+2,none⟩ (.slice (some ao) k d)):=by
 subst a s;have a:∀ k,k≠u->(wr.setCell ⟨u,f+2,none⟩ (.slice (some ao) (n-(i+1)) (c-(i+1)))).heap[k]?=wr.heap[k]?:=λk a=>Below.heap_setCell _ _ _ _ a;refine ⟨(a _ (by omega)).trans h.chan,?_,?_,?_,λj y t r v x=>(World.cell?_of_block (a b o)).trans (h.row j y t r v x),h.far.set (.inl rfl) _,?_,?_,h.more,by omega⟩
 ·exact (World.cell?_setCell_other _ _ _ _ (by intro e;cases e)).trans h.c1
 ·exact ⟨ao,p,World.cell?_setCell_same _ _ _ h.c2,q⟩
 ·rw [World.frozen?_setCell];exact h.f2
 ·intro j l;exact (World.cell?_setCell_other _ _ _ _ (by intro e;cases e;exact l rfl)).trans (h.own j l)
 intro j;rw [World.frozen?_setCell];exact h.froz j
theorem QjC (u o b n c:Nat) (f:Int) (g:List Qm) (w:World) (K:n=g.length) (ba:0<n) (b4:n<=48) (bb:n<=c) (b5:c<=9223372036854775807) (b6:0<=f/\f<=1000000) (aG:w.cell? ⟨u,o+1,none⟩=some (.int .i64 f)) (aH:w.cell? ⟨u,o+2,none⟩=some (.slice (some ⟨b,0,none⟩) n c)) (R:w.frozen? ⟨u,o+2,none⟩=false) (a0:∀ j x,g[j]?=some x->w.rangeAt b (j*8) x.cells) (aU:b≠u) (hb:b<w.heap.size) (B:u<w.heap.size) : Calls Tryz.prog 75 #[.pointer (some ⟨u,o,none⟩)] w λe w'=>e=.returned (.chan (some w.heap.size))/\QbD w u o b n c f g (ZX f g) w':=by
 have bc:=QjZ;have D:=Qa K;clear K;have Y:QbD w u o b n c f g 0 (w.alloc (.chan 48 #[] false 0 0 false)):=by
  have y:=(Below.refl w.heap.size w).alloc (Nat.le_refl _) (.chan 48 #[] false 0 0 false);refine ⟨heap_alloc_new w _,(y.cell (p:=⟨u,o+1,none⟩) B).trans aG,?_,(y.frozen (p:=⟨u,o+2,none⟩) B).trans R,?_,Qx.of_below y,λj _=>y.cell (p:=⟨u,j,none⟩) B,λj=>y.frozen (p:=⟨u,j,none⟩) B,?_,Nat.zero_le _⟩
  ·exact ⟨_,λ_=>by rw [Nat.zero_mul],(y.cell (p:=⟨u,o+2,none⟩) B).trans aH,rfl⟩
  ·intro j x s r v aV;exact (y.cell (p:=⟨b,j*8+r,none⟩) hb).trans (a0 j x s r v aV)
  simp
 have aI:=Qa Y;clear Y aG aH R a0;refine QmK Tryz.func75 rfl ?_;simp only [Tryz.ntmps75,size_toArray,length_cons,length_nil,Nat.reduceAdd,Nat.reduceSub,Array.replicate_succ, Array.replicate_zero,List.push_toArray,List.append_toArray,nil_append,cons_append];refine Js λG E=>?_;go_wp2_with fail;refine Js λG E=>?_;go_wp2_with fail;refine QaB (QdE (Qhx (λm a wr=>∃ aJ aK aL aM aN a1 a2 a3 a4 a5 a6 a7 a8 a9 aa ab ac ad ae af ag ah ai aj ak al ap aq ar au av aw ax ay az aA aB aC aD,a=⟨#[.pointer (some ⟨u,o,none⟩),undef,.chan none,.chan (some w.heap.size),.chan (some w.heap.size),aJ,aK,aL,aM,aN,a1,a2,a3,a4,a5,a6,a7,a8,a9,aa,ab,ac,ad,ae,af,ag,ah,ai,aj,ak,al,ap,aq,ar,au,av,aw,ax,ay,az,aA,aB,aC,aD,undef],[]⟩/\∃ i,m=n-i/\Hid (QbD w u o b n c f g i wr)) n ⟨_,_,_,_,_,_,_,_,_,_,_,_,_,_,_,_,_,_,_,_,_,_,_,_,_,_,_,_,_,_,_,_,_,_,_,_,_,_,_,rfl,0,rfl,aI⟩ ?_));clear aI;rintro m a wr ⟨aJ,aK,aL,aM,aN,a1,a2,a3,a4,a5,a6,a7,a8,a9,aa,ab,ac,ad,ae,af,ag,ah,ai,aj,ak,al,ap,aq,ar,au,av,aw,ax,ay,az,aA,aB,aC,aD,rfl,i,rfl,C⟩;have l:=C.out;have O:∀ S k,(Builtin.len_ #[163] S #[.chan (some w.heap.size)]).run Tryz.prog (wr.drewN k)=.ok (.int .i64 (i:Int)) (wr.drewN k):=λS k=>by have:=run_len_chan (P:=Tryz.prog) (w:=wr.drewN k) 163 S Tryz.underlying163 (by show wr.heap[w.heap.size]?=_;exact l.chan);rw [this];have I:=l.le;have K:=D.out;simp [goInt,length_take];omega
 have T:=l.c1;obtain ⟨ao,J,H,_⟩:=l.c2;have I:=l.le;by_cases A:i<n
 ·obtain ⟨x,s⟩:∃ x,g[i]?=some x:=⟨g[i]'(by rw [<- D.out];exact A),getElem?_eq_getElem _⟩;have aO:wr.cell? ⟨b,i*8+6,none⟩=some (.int .i64 x.t):=l.row i x s 6 _ rfl;have aP:IntKind.i64.wrap (f+(i:Int))=f+i:=by rw [IntKind.wrap_i64];omega
  have aQ:IntKind.i64.wrap (f+(i:Int)+1)=f+i+1:=by rw [IntKind.wrap_i64];omega
  obtain ⟨k,U⟩:∃ k,n-i=k+1:=⟨n-i-1,by omega⟩;rw [U,J A] at H;have L:=Qa U;clear U;by_cases F:x.t=f+i+1
  ·have V:(x.t==f+(i:Int)+1)=true:=by simp [F]
   have aW:=Qa F;have q:=Qa s;clear F s l I J;dsimp only;refine QaB ?_;refine Js λG E=>?_;go_big_quiet (fail);go_wp2_with fail;have d:=Qa (C.out.drew nq);generalize wr.drewN nq=M at *;clear C O T H aO aP aQ V;refine QcV (t:=true) rfl ?_;simp only [if_true];refine .of (wp_skip ?_);show ZR _ _ _ _ _;refine QdE ?_;obtain ⟨bd,aE,N,_⟩:=d.out.c2;rw [L.out,aE A] at N;clear aE;have aR:=d.out.row i x q.out 0 _ rfl;have aX:=d.out.row i x q.out 1 _ rfl;have aY:=d.out.row i x q.out 2 _ rfl;have aZ:=d.out.row i x q.out 3 _ rfl;have b0:=d.out.row i x q.out 4 _ rfl;have b1:=d.out.row i x q.out 5 _ rfl;have b2:=d.out.row i x q.out 6 _ rfl;have b3:=d.out.row i x q.out 7 _ rfl;simp only [Nat.add_zero] at aR;refine QaB (Qez ?_);simp only [size_toArray,length_cons,length_nil,Nat.reduceAdd,List.range,List.range.loop];iterate 7
    apply QeT ?_ ?_;rotate_left
    ·(try simp only [getElem_toArray,getElem_cons_zero,getElem_cons_succ]);go_simp;try (with_reducible rfl)
    simp only [getElem_toArray,getElem_cons_zero,getElem_cons_succ,Act.put,setIfInBounds_toArray,set_cons_zero,set_cons_succ]
   have aF:((g.take i).map Qm.val).toArray.size=i:=by have K:=D.out;simp [length_take];omega
   refine QrC (c:=w.heap.size) (v:=x.val) (z:=.tuple #[]) rfl rfl (by simp [go_sem,execOp,scase,Act.eval,Qm.val,Qm.cells]) d.out.chan (by rw [aF];omega) ?_;simp only [getElem_toArray,getElem_cons_zero,getElem_cons_succ,Act.put];refine Qev ?_;show ZR _ _ _ _ _;have b7:w.heap.size≠u:=by omega
   have b8:w.heap.size<M.heap.size:=(Array.getElem?_eq_some_iff.1 d.out.chan).1;have W:=Qa (d.out.send q.out (by rw [<- D.out];exact A) A aW.out B hb);clear d N aR aX aY aZ b0 b1 b2 b3 aF;generalize M.setChan w.heap.size 48 ((List.map Qm.val (List.take i g)).toArray.push x.val) false (i+1) 0 false=w2 at *;have N:=W.out.c2;rw [L.out] at N;have R:=W.out.f2;have bf:k+1<=c-i:=by have:=L.out;omega
   have bg:1<=c-i:=by omega
   refine .of ?_;go_wp2_with fail;all_goals refine ⟨n-(i+1),by omega,i+1,rfl,Qa ?_⟩
   all_goals have b9:=L.out
   all_goals exact W.out.cut A aU B hb _ _ _ (by omega) (by omega) (λh=>by first|(exfalso;omega)|(congr 1;omega)) rfl
  have V:(x.t==f+(i:Int)+1)=false:=by simp [F]
  have X:Hid (ZX f g=i):=Qa <| by
   have aS:i<g.length:=by rw [<- D.out];exact A
   have:=l.more;rw [drop_eq_getElem_cons aS,ZX,if_neg (by rw [getElem?_eq_getElem aS] at s;rw [Option.some.inj s];exact F)] at this;exact this
  clear F s l I J;dsimp only;refine QaB ?_;refine Js λG E=>?_;go_big_quiet (fail);go_wp2_with fail;have d:=Qa (C.out.drew nq);generalize wr.drewN nq=M at *;clear C O T H aO aP aQ V;refine QcV (t:=false) rfl ?_;simp only [if_false,Bool.false_eq_true];refine .of (wp_exit ?_);show ZR _ _ _ _ _;refine Js λG E=>?_;go_wp2_with fail;refine .of ?_;go_wp2;go_ret;refine ⟨rfl,?_⟩;rw [X.out];exact d.out
 have X:Hid (ZX f g=i):=Qa <| by have:=l.more;rw [List.drop_eq_nil_of_le (by rw [<- D.out];omega),ZX] at this;exact this
 have aT:n-i=0:=by omega
 rw [aT] at H;clear l I aT J;dsimp only;refine QaB ?_;refine Js λG E=>?_;go_big_quiet (fail);go_wp2_with fail;have d:=Qa (C.out.drew nq);generalize wr.drewN nq=M at *;clear C O T H;refine QcV (t:=false) rfl ?_;simp only [if_false,Bool.false_eq_true];refine .of (wp_exit ?_);show ZR _ _ _ _ _;refine Js λG E=>?_;go_wp2_with fail;refine .of ?_;go_wp2;go_ret;refine ⟨rfl,?_⟩;rw [X.out];exact d.out
theorem Qtw (u b c:Nat) (ao:Option Addr) (w:World) (h:w.cell? ⟨u,b+2,none⟩=some (.slice ao 0 c)) (j:u<w.heap.size) : Calls Tryz.prog 75 #[.pointer (some ⟨u,b,none⟩)] w λe w'=>e=.returned (.chan (some w.heap.size))/\w'.heap[w.heap.size]?=some (.chan 48 #[] false 0 0 false)/\Below w.heap.size w w':=by have n:=QjZ;have d:=(Below.refl w.heap.size w).alloc (Nat.le_refl _) (.chan 48 #[] false 0 0 false);have o:(w.alloc (.chan 48 #[] false 0 0 false)).cell? ⟨u,b+2,none⟩=some (.slice ao 0 c):=(d.cell (p:=⟨u,b+2,none⟩) j).trans h;have k:=Qa d;have l:Hid ((w.alloc (.chan 48 #[] false 0 0 false)).heap[w.heap.size]?=some (.chan 48 #[] false 0 0 false)):=Qa (heap_alloc_new w _);clear h d;refine QmK Tryz.func75 rfl ?_;simp only [Tryz.ntmps75,size_toArray,length_cons,length_nil,Nat.reduceAdd,Nat.reduceSub,Array.replicate_succ, Array.replicate_zero,List.push_toArray,List.append_toArray,nil_append,cons_append];refine Js λg f=>?_;go_wp2_with fail;refine Js λg f=>?_;go_wp2_with fail;generalize w.alloc (.chan 48 #[] false 0 0 false)=wr at *;refine QaB (QdE (Qhx (λm a i=>m=0/\a=_/\i=wr) 0 ⟨rfl,rfl,rfl⟩ ?_));rintro m a i ⟨rfl,rfl,rfl⟩;refine QaB ?_;refine Js λg f=>?_;go_big_quiet (fail);go_wp2_with fail;refine QcV (t:=false) rfl ?_;simp only [if_false,Bool.false_eq_true];refine .of (wp_exit ?_);show ZR _ _ _ _ _;refine Js λg f=>?_;go_wp2_with fail;refine .of ?_;go_wp2;go_ret;exact ⟨rfl,l.out,QL k.out _⟩
end Go.Proofs.YtobgcaemnpkbmaaGreatDoor
