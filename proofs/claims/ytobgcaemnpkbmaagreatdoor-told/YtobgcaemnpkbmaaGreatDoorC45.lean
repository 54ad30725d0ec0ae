import Derived.Test.YtobgcaemnpkbmaaGreatDoorC43
namespace Go.Proofs.YtobgcaemnpkbmaaGreatDoor
set_option maxRecDepth 100000
set_option maxHeartbeats 8000000
open Go.RowKit
theorem Qe3 (w:World) (b j:Nat) (v:Value):Qx (λx=>x=b) w (w.setCell ⟨b,j,none⟩ v):=⟨rfl,rfl,rfl,by rw [QdK];exact Nat.le_refl _,λk _ a=>Below.heap_setCell _ _ _ _ a⟩
section
variable {w0 : World} {B db u sb nb hb : Nat} {A : List (List Ac)} {len i t : Nat} {all : Int} {wr : World} {κ : Qu} {S : Us} {sn : List Int} {dn : List Nat} {hf : List Bool} {qs : List Ac} {d : Nat} {a : Ac} {sent : Int} {half : Bool} {wy : World}
theorem QaJ.tell (h:QaJ w0 B db u sb nb hb A len i t all wr κ S sn dn hf qs d a sent half) (l:2<=B) (b:Below wr.heap.size wr wy) (f:S.gv=all) (g:Jw A S sn (dn.set t (d+1)) hf):JD w0 B db u sb nb hb A len i all (wy.setCell ⟨nb,t,none⟩ (.int .i64 ((d:Int)+1))) κ S sn (dn.set t (d+1)) hf:=by
 obtain ⟨m,n,o,p,q⟩:=h.rows.lt;have k:=h.ok.n4;have c:S.T.length<=10:=by omega
 have r:=b.size;have j:t<dn.length:=by have:=h.l2;have:=h.t1;omega
 have e:(((d+1:Nat)):Int)=(d:Int)+1:=by omega
 rw [<- e];exact ⟨(h.rows.out (QB.below b)).setD j (d+1),(h.ui.below c b).foreign c h.rows.non.2.2.1 (by omega) (by omega) (Qe3 _ _ _ _),h.ok,g,h.ph,f⟩
theorem QaJ.one (h:QaJ w0 B db u sb nb hb A len i t all wr κ S sn dn hf qs d a sent half) (m:2<=B) (c:Below wr.heap.size wr wy) (g:S.gv=all+1) (j:Jw A S (sn.set t (all+1)) dn (hf.set t true)):JD w0 B db u sb nb hb A len i (all+1) ((wy.setCell ⟨sb,t,none⟩ (.int .i64 (all+1))).setCell ⟨hb,t,none⟩ (.bool true)) κ S (sn.set t (all+1)) dn (hf.set t true):=by
 obtain ⟨n,o,p,q,r⟩:=h.rows.lt;have l:=h.ok.n4;have b:S.T.length<=10:=by omega
 have s:=c.size;have k:t<sn.length:=by have:=h.l1;have:=h.t1;omega
 have f:t<hf.length:=by have:=h.l3;have:=h.t1;omega
 exact ⟨((h.rows.out (QB.below c)).setS k (all+1)).setH f true,((h.ui.below b c).foreign b h.rows.non.2.1 (by omega) (by omega) (Qe3 _ _ _ _)).foreign b h.rows.non.2.2.2 (by omega) (by rw [QdK];omega) (Qe3 _ _ _ _),h.ok,j,h.ph,g⟩
theorem QaJ.two (h:QaJ w0 B db u sb nb hb A len i t all wr κ S sn dn hf qs d a sent half) (m:2<=B) (c:Below wr.heap.size wr wy) (g:S.gv=all) (j:Jw A S sn (dn.set t (d+1)) (hf.set t false)):JD w0 B db u sb nb hb A len i all ((wy.setCell ⟨hb,t,none⟩ (.bool false)).setCell ⟨nb,t,none⟩ (.int .i64 ((d:Int)+1))) κ S sn (dn.set t (d+1)) (hf.set t false):=by
 obtain ⟨n,o,p,q,r⟩:=h.rows.lt;have l:=h.ok.n4;have b:S.T.length<=10:=by omega
 have s:=c.size;have k:t<dn.length:=by have:=h.l2;have:=h.t1;omega
 have f:t<hf.length:=by have:=h.l3;have:=h.t1;omega
 have e:(((d+1:Nat)):Int)=(d:Int)+1:=by omega
 rw [<- e];exact ⟨((h.rows.out (QB.below c)).setH f false).setD k (d+1),((h.ui.below b c).foreign b h.rows.non.2.2.2 (by omega) (by omega) (Qe3 _ _ _ _)).foreign b h.rows.non.2.2.1 (by omega) (by rw [QdK];omega) (Qe3 _ _ _ _),h.ok,j,h.ph,g⟩
theorem QaJ.cells (h:QaJ w0 B db u sb nb hb A len i t all wr κ S sn dn hf qs d a sent half) (c:Below wr.heap.size wr wy):(wy.cell? ⟨nb,t,none⟩=some (.int .i64 (d:Nat))/\wy.cell? ⟨sb,t,none⟩=some (.int .i64 sent)/\wy.cell? ⟨hb,t,none⟩=some (.bool half))/\wy.frozen? ⟨nb,t,none⟩=false/\wy.frozen? ⟨sb,t,none⟩=false/\wy.frozen? ⟨hb,t,none⟩=false:=by have b:=h.rows.out (QB.below c);exact ⟨⟨b.dn t d h.ad,b.sn t sent h.as1,b.hf t half h.ah⟩,b.fd t,b.fs t,b.fh t⟩
theorem QaJ.events (h:QaJ w0 B db u sb nb hb A len i t all wr κ S sn dn hf qs d a sent half) (c:Below wr.heap.size wr wy):Calls Tryz.prog 10 #[.pointer (some ⟨db,0,none⟩)] wy (Qf3 wy S.ev):=by have m:=h.ok.n4;have l:=h.ok.num;have f:=h.ui.below (by omega) c;have b:=f.re.row;have g:=f.c6;obtain ⟨k,j,ev⟩:=Qz b;rw [ev] at b g;exact Qj0 db u k j S.ev wy (h.rows.out (QB.below c)).c0 g b (by omega)
end
theorem Qpn (H:Nat) (ao bL:Option Addr) (n c r cn:Nat) (A:List (List Ac)) (aE:Nat->Int) (w:World) (bM:n=A.length) (cO:n<=4) (bF:∀ (j:Nat) (q:List Ac),A[j]?=some q->q.length<=12) (aD:2<=H) (cH:r<=20000000000000) (bN:JI H w ao A) (bG:QeI H w bL r aE)
  (bO:Hid (∀ a6,Below w.heap.size w a6->Calls Tryz.prog 7 #[.slice ao n c] a6 λe w'=>∃ z u ag S,e=.returned (.tuple #[.pointer (some ⟨z,0,none⟩),.int .i64 0,.int .i64 0])/\Qea w H z u A w' ag S))
  (b3:Hid (∀ z u G nb hb k wr ag S C D E,JD w H z u G nb hb A r (r+1500) k wr ag S C D E->Calls Tryz.prog 11 #[.pointer (some ⟨z,0,none⟩),.slice ao n c,.int .i64 k] wr λe w'=>e=.returned (.bool true)/\Below H w w')) :
  Calls Tryz.prog 3 #[.slice ao n c,.slice bL r cn] w λe w'=>e=.returned (.bool true)/\Below H w w':=by
 have bP:=Qa (Qer w)
 have bH:=Qa bF
 have aN:=Qa bN
 have b1:=Qa bG
 have b6:=Qa bM
 obtain ⟨co,br,bY,bZ,c0⟩:=info_parts Qds
 obtain ⟨cp,cq,c1,c2,c3⟩:=info_parts QuG
 have c4:∀ u:World,(Instr.makeSlice 23 (.int .i64 ((n:Int)+1)) (.int .i64 ((n:Int)+1))).run Tryz.prog u=.ok (.slice (some ⟨u.heap.size,0,none⟩) (n+1) (n+1)) (u.alloc (.cells (madeCells #[.int .i64 0] (n+1)) 3)):=λu=>by
  have h:=run_make (P:=Tryz.prog) u 23 3 co (.int .i64 0) Tryz.underlying23 br bY .i64 .i64 ((n:Int)+1) ((n:Int)+1) (by omega) (Int.le_refl _) (by rw [c0];omega) (by omega)
  have e:((n:Int)+1).toNat=n+1:=by omega
  simpa [bZ,Value.cells,e] using h
 have c5:∀ u:World,(Instr.makeSlice 29 (.int .i64 ((n:Int)+1)) (.int .i64 ((n:Int)+1))).run Tryz.prog u=.ok (.slice (some ⟨u.heap.size,0,none⟩) (n+1) (n+1)) (u.alloc (.cells (madeCells #[.bool false] (n+1)) 4)):=λu=>by
  have h:=run_make (P:=Tryz.prog) u 29 4 cp (.bool false) Tryz.underlying29 cq c1 .i64 .i64 ((n:Int)+1) ((n:Int)+1) (by omega) (Int.le_refl _) (by rw [c3];omega) (by omega)
  have e:((n:Int)+1).toNat=n+1:=by omega
  simpa [c2,Value.cells,e] using h
 clear bN bG bM bF
 go_enter Tryz.func3,Tryz.ntmps3
 go_wp2_with (first|(go_at_call 6;refine bP.out.mono ?_;rintro e w1 ⟨rfl,c6⟩;have bI:=Qa (bO.out w1 c6);clear bP bO)|(go_at_call 7;refine bI.out.mono ?_;rintro e w2 ⟨z,u,ag,S,rfl,bJ⟩;have aI:=Qa (bJ.start r);rw [<- b6.out] at aI;clear bJ bI))
 generalize (((w2.alloc (.cells (madeCells #[.int .i64 0] (n+1)) 3)).alloc (.cells (madeCells #[.int .i64 0] (n+1)) 3)).alloc (.cells (madeCells #[.bool false] (n+1)) 4))=cP at *
 generalize w2.heap.size+1+1=hb at *
 generalize w2.heap.size+1=nb at *
 generalize w2.heap.size=G at *
 clear c4 c5
 go_loopw [12,13] (λcr i wr=>∃ (k:Int) (m:Nat),cr=.int .i64 k/\i=.int .i64 m/\m<=r+1500/\∃ ag S C D E,Hid (JD w H z u G nb hb A r m k wr ag S C D E)) (λ_ i _=>r+1501-(intOf i).toNat)
 case atStart=>exact ⟨0,0,rfl,rfl,Nat.zero_le _,_,_,_,_,_,aI⟩
 case round =>
  obtain ⟨k,m,rfl,rfl,cQ,ag,S,C,D,E,aF⟩:=hrel
  have cF:IntKind.i64.wrap ((r:Int)+1500)=(r:Int)+1500:=by rw [IntKind.wrap_i64];omega
  have cI:IntKind.i64.wrap ((n:Int)+1)=(n:Int)+1:=by rw [IntKind.wrap_i64];omega
  have cJ:IntKind.i64.wrap ((m:Int)+1)=(m:Int)+1:=by rw [IntKind.wrap_i64];omega
  by_cases cK:m<r+1500
  ·have cG:(m:Int)<(r:Int)+1500:=by omega
   have cL:((n:Int)+1==0)=false:=by simp;omega
   have b2:Hid (∀ t,t<=n->(r<=m->t=m % (n+1))->Calls Tryz.prog 9 #[.pointer (some ⟨z,0,none⟩),.int .i64 t] wr λe w'=>∃ x,e=.returned (.int .i64 x)/\(((t=0 \/ x≠0)/\(x=0 \/ x=7 \/ x=8)/\∃ b S',JD w H z u G nb hb A r (m+1) k w' b S' C D E)
     \/ (t≠0/\x=0/\∃ b S' I d a sent a0,QaJ w H z u G nb hb A r (m+1) t k w' b S' C D E I d a sent a0))):=Qa λt aO br=>QtH aF.out (by rw [<- b6.out];exact aO) (λh=>by rw [<- b6.out];exact br h)
   have bR:(m<r) \/ (r<=m):=by omega
   rcases bR with bK|bK
   ·have bS:(m:Int)<(r:Int):=by omega
    obtain ⟨bQ,ct,c7,c8,bE,b7⟩:=b1.out m bK
    have cM:=(World.cell?_of_block (a:=⟨bQ,ct+m,none⟩) (aF.out.rows.keep.block bQ c8)).trans bE
    have aO:=Nat.le_of_lt_succ (QlX (aE m) (show 0<n+1 by omega))
    have b4:=Qa (QjY (aE m) (n+1) wr (by omega) (by omega) b7.1 b7.2)
    have a7:=Qa (b2.out (QbV (aE m) (n+1)) aO (λh=>by omega))
    generalize QbV (aE m) (n+1)=t at *
    generalize aE m=cR at *
    subst c7
    clear b3 aF b1 aI b2 bE b7
    rcases Nat.eq_zero_or_pos t with rfl|c9
    ·as_aux_lemma =>
      have b8:Hid (Calls Tryz.prog 9 #[.pointer (some ⟨z,0,none⟩),.int .i64 0] wr λe w'=>∃ x,e=.returned (.int .i64 x)/\(x=0 \/ x=7 \/ x=8)/\∃ b S',Hid (JD w H z u G nb hb A r (m+1) k w' b S' C D E)):=Qa (a7.out.mono (by
       rintro e w' ⟨x,a9,⟨_,ab,b,S',a2⟩|⟨au,_⟩⟩
       ·exact ⟨x,a9,ab,b,S',Qa a2⟩
       ·exact absurd rfl au))
      clear a7
      go_wp2_with (first|(go_at_call 8;refine b4.out.mono ?_;rintro e cu ⟨rfl,aJ⟩;rw [aJ];clear aJ b4)|(go_at_call 9;refine b8.out.mono ?_;rintro e o ⟨x,rfl,rfl|rfl|rfl,b,S',ak⟩))
      all_goals go_roundw
      all_goals first
       | exact ⟨k,m+1,rfl,by go_num,by omega,b,S',C,D,E,ak⟩
       | (simp [intOf];omega)
    ·obtain ⟨t,rfl⟩:∃ bs,t=bs+1:=⟨t-1,by omega⟩
     have b9:Hid (Calls Tryz.prog 9 #[.pointer (some ⟨z,0,none⟩),.int .i64 ((t:Int)+1)] wr λe w'=>∃ x,e=.returned (.int .i64 x)/\(((x=7 \/ x=8)/\∃ b S',Hid (JD w H z u G nb hb A r (m+1) k w' b S' C D E)) \/ (x=0/\∃ b S' I d a sent a0,Hid (QaJ w H z u G nb hb A r (m+1) (t+1) k w' b S' C D E I d a sent a0)))):=Qa (a7.out.mono (by
      rintro e w' ⟨x,a9,⟨au,ab,b,S',a2⟩|⟨au,ab,b,S',I,d,a,sent,a0,a2⟩⟩
      ·exact ⟨x,a9,.inl ⟨by omega,b,S',Qa a2⟩⟩
      ·exact ⟨x,a9,.inr ⟨ab,b,S',I,d,a,sent,a0,Qa a2⟩⟩))
     clear a7
     have ca:((t:Int)+1==0)=false:=by simp;omega
     go_wp2_with (first|(go_at_call 8;refine b4.out.mono ?_;rintro e cu ⟨rfl,aJ⟩;rw [aJ];clear aJ b4)|(go_at_call 9;refine b9.out.mono ?_;rintro e o ⟨x,rfl,⟨rfl|rfl,b,S',ak⟩|⟨rfl,b,S',I,d,a,sent,a0,f⟩⟩))
     iterate 2
      go_roundw
      case rel=>exact ⟨k,m+1,rfl,by go_num,by omega,b,S',C,D,E,ak⟩
      case measure=>simp [intOf];omega
     obtain ⟨g,p,cv,aP,bt,cb,av,_,aG⟩:=(aN.out.keep f.out.rows.keep.block) t I (by have:=f.out.aq;simpa using this)
     obtain ⟨s,y,ba,bT,N⟩:=aG d a f.out.aa
     have bb:d<I.length:=(List.getElem?_eq_some_iff.1 f.out.aa).1
     have aQ:=f.out.rows.dn (t+1) d f.out.ad
     have b5:I.length<=12:=bH.out _ I f.out.aq
     obtain ⟨U,aK⟩:∃ U,U=I.length:=⟨_,rfl⟩
     rw [<- aK] at av bb b5
     subst bt ba
     have cw:decide ((U:Int)<=(d:Int))=false:=decide_eq_false (by omega)
     have cc:decide (U<=d)=false:=decide_eq_false (by omega)
     have cd:IntKind.i64.wrap ((t:Int)+1-1)=(t:Int):=by rw [IntKind.wrap_i64];omega
     have ce:(t:Int)<(n:Int):=by omega
     have bU:(t:Int)+1<(n:Int)+1:=by omega
     have cf:(d:Int)<(U:Int):=by omega
     clear aG aK aN
     have aw:=N 0 _ rfl
     have aR:=N 1 _ rfl
     have aS:=N 2 _ rfl
     have aT:=N 3 _ rfl
     have aU:=N 4 _ rfl
     have aV:=N 5 _ rfl
     simp only [Nat.add_zero] at aw
     clear N
     go_big_quiet (fail)
     go_wp2_with fail
     have aL:Below o.heap.size o (o.drewN nq):=QL (Below.refl _ _) nq
     have bc:(o.drewN nq).cell? ⟨g,p+t,none⟩=some (.slice (some ⟨s,y,none⟩) U aP):=av
     have bd:(o.drewN nq).cell? ⟨nb,t+1,none⟩=some (.int .i64 (d:Nat)):=aQ
     have bf:(o.drewN nq).cell? ⟨s,y+d*6,none⟩=some (.int .i64 a.kd):=aw
     have bg:(o.drewN nq).cell? ⟨s,y+d*6+1,none⟩=some (.int .i64 a.nm):=aR
     have bh:(o.drewN nq).cell? ⟨s,y+d*6+2,none⟩=some (.int .i64 a.pa):=aS
     have bi:(o.drewN nq).cell? ⟨s,y+d*6+3,none⟩=some (.int .i64 a.fl):=aT
     have bj:(o.drewN nq).cell? ⟨s,y+d*6+4,none⟩=some (.int .i64 a.n):=aU
     have bk:(o.drewN nq).cell? ⟨s,y+d*6+5,none⟩=some (.int .i64 a.m):=aV
     have al:=Qa aL
     clear av aQ aw aR aS aT aU aV aL
     generalize o.drewN nq=B at *
     have cx:(0:Int)<=(t:Int):=by omega
     have bV:IntKind.i64.wrap (t:Int)=(t:Int):=by rw [IntKind.wrap_i64];omega
     have cy:(0:Int)<=(t:Int)+1:=by omega
     have cz:(0:Int)<=(d:Int):=by omega
     have cA:t<n:=by omega
     have cB:t+1<n+1:=by omega
     have cC:((t:Int)+1).toNat=t+1:=by omega
     have cD:(t:Int).toNat=t:=by omega
     go_region_held3 (λw'=>w'.cell? ⟨g,p+t,none⟩=some (.slice (some ⟨s,y,none⟩) U aP)/\w'.cell? ⟨nb,t+1,none⟩=some (.int .i64 (d:Nat))/\w'.cell? ⟨s,y+d*6,none⟩=some (.int .i64 a.kd)/\w'.cell? ⟨s,y+d*6+1,none⟩=some (.int .i64 a.nm)/\w'.cell? ⟨s,y+d*6+2,none⟩=some (.int .i64 a.pa)/\w'.cell? ⟨s,y+d*6+3,none⟩=some (.int .i64 a.fl)/\w'.cell? ⟨s,y+d*6+4,none⟩=some (.int .i64 a.n)/\w'.cell? ⟨s,y+d*6+5,none⟩=some (.int .i64 a.m))
      (first|go_keep)
      (fail)
     have aH:(B.alloc (.cells #[.int .i64 a.kd,.int .i64 a.nm,.int .i64 a.pa,.int .i64 a.fl,.int .i64 a.n,.int .i64 a.m] 34)).heap[B.heap.size]?=some (.cells #[.int .i64 a.kd,.int .i64 a.nm,.int .i64 a.pa,.int .i64 a.fl,.int .i64 a.n,.int .i64 a.m] 34 (0,0)):=heap_alloc_new B _
     have V:((B.alloc (.cells #[.int .i64 a.kd,.int .i64 a.nm,.int .i64 a.pa,.int .i64 a.fl,.int .i64 a.n,.int .i64 a.m] 34)).drew).cell? ⟨B.heap.size,0,none⟩=some (.int .i64 a.kd):=Qf aH 0 _ rfl
     have ap:Below o.heap.size o ((B.alloc (.cells #[.int .i64 a.kd,.int .i64 a.nm,.int .i64 a.pa,.int .i64 a.fl,.int .i64 a.n,.int .i64 a.m] 34)).drew):=(al.out.alloc al.out.size _).drew
     have aM:Hid (B.heap.size<((B.alloc (.cells #[.int .i64 a.kd,.int .i64 a.nm,.int .i64 a.pa,.int .i64 a.fl,.int .i64 a.n,.int .i64 a.m] 34)).drew).heap.size):=Qa (by show B.heap.size<(B.alloc (.cells #[.int .i64 a.kd,.int .i64 a.nm,.int .i64 a.pa,.int .i64 a.fl,.int .i64 a.n,.int .i64 a.m] 34)).heap.size;simp)
     have R:=Qa ap
     obtain ⟨⟨ax,cs,a3⟩,aW,aX,aY⟩:=f.out.cells ap
     clear aH ap bf bg bh bi bj bk bc bd al
     generalize (B.alloc (.cells #[.int .i64 a.kd,.int .i64 a.nm,.int .i64 a.pa,.int .i64 a.fl,.int .i64 a.n,.int .i64 a.m] 34)).drew=ac at *
     generalize B.heap.size=aZ at *
     have cg:IntKind.i64.wrap ((d:Int)+1)=(d:Int)+1:=by rw [IntKind.wrap_i64];omega
     have ah:=f.out.ok.num
     rcases f.out.next with ⟨K,⟨l,a1,ar,b0,W,ay⟩,L,M⟩|⟨K,a4,L,M⟩|⟨K,a4,L,M⟩
     ·have ae:=Qa (f.out.events R.out)
      have X:Hid (∀ a6,Below o.heap.size o a6->JD w H z u G nb hb A r (m+1) k (a6.setCell ⟨nb,t+1,none⟩ (.int .i64 ((d:Int)+1))) b S' C (D.set (t+1) (d+1)) E):=Qa λa6 bu=>f.out.tell aD bu L M
      have a5:Hid (S'.ev.length=l.length+1):=Qa (by rw [ar];simp)
      have a8:Hid (S'.ev[l.length]?=some a1):=Qa (by rw [ar];simp)
      have ch:l.length<=1000:=by have:=a5.out;omega
      generalize l.length=F at *
      have af:a1.tk=(t:Int)+1:=by rw [b0];omega
      have cE:((F:Int)+1==0)=false:=by simp;omega
      have ci:IntKind.i64.wrap ((F:Int)+1-1)=(F:Int):=by rw [IntKind.wrap_i64];omega
      have bW:IntKind.i64.wrap (F:Int)=(F:Int):=by rw [IntKind.wrap_i64];omega
      have cj:(F:Int)<(F:Int)+1:=by omega
      clear ar b0 L M ah
      rcases K with Y|Y
      ·as_aux_lemma =>
        have az:decide (a1.up<sent)=false:=decide_eq_false (by have:=ay Y;omega)
        rw [Y] at V W
        clear ay Y
        go_wp2_with (first|(go_at_call 10;refine ae.out.mono ?_;rintro e' bv ⟨v,rfl,J,T⟩;rw [a5.out] at J;obtain ⟨bw,bx,rfl⟩:=Qz J))
        obtain ⟨bz,aA,aB,aC,_,bA,bl⟩:=Qd3 J (show F<F+1 by omega) a8.out
        subst aA
        rw [af] at aB
        rw [W] at aC
        have O:=R.out.trans (T.mono R.out.size)
        have ai:=Qa O
        obtain ⟨⟨bm,bn,_⟩,bo,_,_⟩:=f.out.cells O
        have bp:=(T.cell (p:=⟨aZ,0,none⟩) aM.out).trans V
        generalize a1.up=bq at *
        clear J T O ax cs a3 aW aX aY V ae f a5 a8 af W
        go_big_quiet (fail)
        go_wp2_with fail
        go_roundw
        case rel=>exact ⟨k,m+1,rfl,by go_num,by omega,b,S',_,_,_,Qa (X.out _ (QL ai.out _))⟩
        case measure=>simp [intOf];omega
      ·as_aux_lemma =>
        have az:Hid True:=Qa trivial
        rw [Y] at V W
        clear ay Y
        go_wp2_with (first|(go_at_call 10;refine ae.out.mono ?_;rintro e' bv ⟨v,rfl,J,T⟩;rw [a5.out] at J;obtain ⟨bw,bx,rfl⟩:=Qz J))
        obtain ⟨bz,aA,aB,aC,_,bA,bl⟩:=Qd3 J (show F<F+1 by omega) a8.out
        subst aA
        rw [af] at aB
        rw [W] at aC
        have O:=R.out.trans (T.mono R.out.size)
        have ai:=Qa O
        obtain ⟨⟨bm,bn,_⟩,bo,_,_⟩:=f.out.cells O
        have bp:=(T.cell (p:=⟨aZ,0,none⟩) aM.out).trans V
        generalize a1.up=bq at *
        clear J T O ax cs a3 aW aX aY V ae f a5 a8 af W
        go_big_quiet (fail)
        go_wp2_with fail
        go_roundw
        case rel=>exact ⟨k,m+1,rfl,by go_num,by omega,b,S',_,_,_,Qa (X.out _ (QL ai.out _))⟩
        case measure=>simp [intOf];omega
     ·as_aux_lemma =>
       have bB:(a.kd==8)=false:=by simpa using K.1
       have az:(a.kd==9)=false:=by simpa using K.2
       have X:Hid (JD w H z u G nb hb A r (m+1) (k+1) ((ac.setCell ⟨G,t+1,none⟩ (.int .i64 (k+1))).setCell ⟨hb,t+1,none⟩ (.bool true)) b S' (C.set (t+1) (k+1)) D (E.set (t+1) true)):=Qa (f.out.one aD R.out L M)
       have bX:IntKind.i64.wrap (k+1)=k+1:=by rw [IntKind.wrap_i64];omega
       have aj:=f.out.rows.lt
       rw [a4] at a3
       have bC:(ac.setCell ⟨G,t+1,none⟩ (.int .i64 (k+1))).cell? ⟨hb,t+1,none⟩=some (.bool false):=(Qa5 _ (by omega) _ _ _).trans a3
       generalize a.kd=bD at *
       clear K a4 L M ah f aj
       go_wp2_with fail
       go_roundw
       case rel=>exact ⟨k+1,m+1,rfl,by go_num,by omega,b,S',_,_,_,X⟩
       case measure=>simp [intOf];omega
     ·as_aux_lemma =>
       have bB:(a.kd==8)=false:=by simpa using K.1
       have az:(a.kd==9)=false:=by simpa using K.2
       have X:Hid (JD w H z u G nb hb A r (m+1) k ((ac.setCell ⟨hb,t+1,none⟩ (.bool false)).setCell ⟨nb,t+1,none⟩ (.int .i64 ((d:Int)+1))) b S' C (D.set (t+1) (d+1)) (E.set (t+1) false)):=Qa (f.out.two aD R.out L M)
       have aj:=f.out.rows.lt
       rw [a4] at a3
       have bC:(ac.setCell ⟨hb,t+1,none⟩ (.bool false)).cell? ⟨nb,t+1,none⟩=some (.int .i64 (d:Nat)):=(Qa5 _ (by omega) _ _ _).trans ax
       generalize a.kd=bD at *
       clear K a4 L M ah f aj
       go_wp2_with fail
       go_roundw
       case rel=>exact ⟨k,m+1,rfl,by go_num,by omega,b,S',_,_,_,X⟩
       case measure=>simp [intOf];omega
   ·have bS:¬ (m:Int)<(r:Int):=by omega
    have cN:(m:Int).tmod ((n:Int)+1)=((m % (n+1):Nat):Int):=by
     rw [Int.tmod_eq_emod_of_nonneg (by omega)];rfl
    have aO:m % (n+1)<=n:=Nat.le_of_lt_succ (Nat.mod_lt _ (by omega))
    have a7:=Qa (b2.out (m % (n+1)) aO (λ_=>rfl))
    generalize m % (n+1)=t at *
    clear b3 aF b1 aI b2
    rcases Nat.eq_zero_or_pos t with rfl|c9
    ·as_aux_lemma =>
      have b8:Hid (Calls Tryz.prog 9 #[.pointer (some ⟨z,0,none⟩),.int .i64 0] wr λe w'=>∃ x,e=.returned (.int .i64 x)/\(x=0 \/ x=7 \/ x=8)/\∃ b S',Hid (JD w H z u G nb hb A r (m+1) k w' b S' C D E)):=Qa (a7.out.mono (by
       rintro e w' ⟨x,a9,⟨_,ab,b,S',a2⟩|⟨au,_⟩⟩
       ·exact ⟨x,a9,ab,b,S',Qa a2⟩
       ·exact absurd rfl au))
      clear a7
      go_wp2_with (first|(go_at_call 9;refine b8.out.mono ?_;rintro e o ⟨x,rfl,rfl|rfl|rfl,b,S',ak⟩))
      all_goals go_roundw
      all_goals first
       | exact ⟨k,m+1,rfl,by go_num,by omega,b,S',C,D,E,ak⟩
       | (simp [intOf];omega)
    ·obtain ⟨t,rfl⟩:∃ bs,t=bs+1:=⟨t-1,by omega⟩
     have b9:Hid (Calls Tryz.prog 9 #[.pointer (some ⟨z,0,none⟩),.int .i64 ((t:Int)+1)] wr λe w'=>∃ x,e=.returned (.int .i64 x)/\(((x=7 \/ x=8)/\∃ b S',Hid (JD w H z u G nb hb A r (m+1) k w' b S' C D E)) \/ (x=0/\∃ b S' I d a sent a0,Hid (QaJ w H z u G nb hb A r (m+1) (t+1) k w' b S' C D E I d a sent a0)))):=Qa (a7.out.mono (by
      rintro e w' ⟨x,a9,⟨au,ab,b,S',a2⟩|⟨au,ab,b,S',I,d,a,sent,a0,a2⟩⟩
      ·exact ⟨x,a9,.inl ⟨by omega,b,S',Qa a2⟩⟩
      ·exact ⟨x,a9,.inr ⟨ab,b,S',I,d,a,sent,a0,Qa a2⟩⟩))
     clear a7
     have ca:((t:Int)+1==0)=false:=by simp;omega
     go_wp2_with (first|(go_at_call 9;refine b9.out.mono ?_;rintro e o ⟨x,rfl,⟨rfl|rfl,b,S',ak⟩|⟨rfl,b,S',I,d,a,sent,a0,f⟩⟩))
     iterate 2
      go_roundw
      case rel=>exact ⟨k,m+1,rfl,by go_num,by omega,b,S',C,D,E,ak⟩
      case measure=>simp [intOf];omega
     obtain ⟨g,p,cv,aP,bt,cb,av,_,aG⟩:=(aN.out.keep f.out.rows.keep.block) t I (by have:=f.out.aq;simpa using this)
     obtain ⟨s,y,ba,bT,N⟩:=aG d a f.out.aa
     have bb:d<I.length:=(List.getElem?_eq_some_iff.1 f.out.aa).1
     have aQ:=f.out.rows.dn (t+1) d f.out.ad
     have b5:I.length<=12:=bH.out _ I f.out.aq
     obtain ⟨U,aK⟩:∃ U,U=I.length:=⟨_,rfl⟩
     rw [<- aK] at av bb b5
     subst bt ba
     have cw:decide ((U:Int)<=(d:Int))=false:=decide_eq_false (by omega)
     have cc:decide (U<=d)=false:=decide_eq_false (by omega)
     have cd:IntKind.i64.wrap ((t:Int)+1-1)=(t:Int):=by rw [IntKind.wrap_i64];omega
     have ce:(t:Int)<(n:Int):=by omega
     have bU:(t:Int)+1<(n:Int)+1:=by omega
     have cf:(d:Int)<(U:Int):=by omega
     clear aG aK aN
     have aw:=N 0 _ rfl
     have aR:=N 1 _ rfl
     have aS:=N 2 _ rfl
     have aT:=N 3 _ rfl
     have aU:=N 4 _ rfl
     have aV:=N 5 _ rfl
     simp only [Nat.add_zero] at aw
     clear N
     go_big_quiet (fail)
     go_wp2_with fail
     have aL:Below o.heap.size o (o.drewN nq):=QL (Below.refl _ _) nq
     have bc:(o.drewN nq).cell? ⟨g,p+t,none⟩=some (.slice (some ⟨s,y,none⟩) U aP):=av
     have bd:(o.drewN nq).cell? ⟨nb,t+1,none⟩=some (.int .i64 (d:Nat)):=aQ
     have bf:(o.drewN nq).cell? ⟨s,y+d*6,none⟩=some (.int .i64 a.kd):=aw
     have bg:(o.drewN nq).cell? ⟨s,y+d*6+1,none⟩=some (.int .i64 a.nm):=aR
     have bh:(o.drewN nq).cell? ⟨s,y+d*6+2,none⟩=some (.int .i64 a.pa):=aS
     have bi:(o.drewN nq).cell? ⟨s,y+d*6+3,none⟩=some (.int .i64 a.fl):=aT
     have bj:(o.drewN nq).cell? ⟨s,y+d*6+4,none⟩=some (.int .i64 a.n):=aU
     have bk:(o.drewN nq).cell? ⟨s,y+d*6+5,none⟩=some (.int .i64 a.m):=aV
     have al:=Qa aL
     clear av aQ aw aR aS aT aU aV aL
     generalize o.drewN nq=B at *
     have cx:(0:Int)<=(t:Int):=by omega
     have bV:IntKind.i64.wrap (t:Int)=(t:Int):=by rw [IntKind.wrap_i64];omega
     have cy:(0:Int)<=(t:Int)+1:=by omega
     have cz:(0:Int)<=(d:Int):=by omega
     have cA:t<n:=by omega
     have cB:t+1<n+1:=by omega
     have cC:((t:Int)+1).toNat=t+1:=by omega
     have cD:(t:Int).toNat=t:=by omega
     go_region_held3 (λw'=>w'.cell? ⟨g,p+t,none⟩=some (.slice (some ⟨s,y,none⟩) U aP)/\w'.cell? ⟨nb,t+1,none⟩=some (.int .i64 (d:Nat))/\w'.cell? ⟨s,y+d*6,none⟩=some (.int .i64 a.kd)/\w'.cell? ⟨s,y+d*6+1,none⟩=some (.int .i64 a.nm)/\w'.cell? ⟨s,y+d*6+2,none⟩=some (.int .i64 a.pa)/\w'.cell? ⟨s,y+d*6+3,none⟩=some (.int .i64 a.fl)/\w'.cell? ⟨s,y+d*6+4,none⟩=some (.int .i64 a.n)/\w'.cell? ⟨s,y+d*6+5,none⟩=some (.int .i64 a.m))
      (first|go_keep)
      (fail)
     have aH:(B.alloc (.cells #[.int .i64 a.kd,.int .i64 a.nm,.int .i64 a.pa,.int .i64 a.fl,.int .i64 a.n,.int .i64 a.m] 34)).heap[B.heap.size]?=some (.cells #[.int .i64 a.kd,.int .i64 a.nm,.int .i64 a.pa,.int .i64 a.fl,.int .i64 a.n,.int .i64 a.m] 34 (0,0)):=heap_alloc_new B _
     have V:((B.alloc (.cells #[.int .i64 a.kd,.int .i64 a.nm,.int .i64 a.pa,.int .i64 a.fl,.int .i64 a.n,.int .i64 a.m] 34)).drew).cell? ⟨B.heap.size,0,none⟩=some (.int .i64 a.kd):=Qf aH 0 _ rfl
     have ap:Below o.heap.size o ((B.alloc (.cells #[.int .i64 a.kd,.int .i64 a.nm,.int .i64 a.pa,.int .i64 a.fl,.int .i64 a.n,.int .i64 a.m] 34)).drew):=(al.out.alloc al.out.size _).drew
     have aM:Hid (B.heap.size<((B.alloc (.cells #[.int .i64 a.kd,.int .i64 a.nm,.int .i64 a.pa,.int .i64 a.fl,.int .i64 a.n,.int .i64 a.m] 34)).drew).heap.size):=Qa (by show B.heap.size<(B.alloc (.cells #[.int .i64 a.kd,.int .i64 a.nm,.int .i64 a.pa,.int .i64 a.fl,.int .i64 a.n,.int .i64 a.m] 34)).heap.size;simp)
     have R:=Qa ap
     obtain ⟨⟨ax,cs,a3⟩,aW,aX,aY⟩:=f.out.cells ap
     clear aH ap bf bg bh bi bj bk bc bd al
     generalize (B.alloc (.cells #[.int .i64 a.kd,.int .i64 a.nm,.int .i64 a.pa,.int .i64 a.fl,.int .i64 a.n,.int .i64 a.m] 34)).drew=ac at *
     generalize B.heap.size=aZ at *
     have cg:IntKind.i64.wrap ((d:Int)+1)=(d:Int)+1:=by rw [IntKind.wrap_i64];omega
     have ah:=f.out.ok.num
     rcases f.out.next with ⟨K,⟨l,a1,ar,b0,W,ay⟩,L,M⟩|⟨K,a4,L,M⟩|⟨K,a4,L,M⟩
     ·have ae:=Qa (f.out.events R.out)
      have X:Hid (∀ a6,Below o.heap.size o a6->JD w H z u G nb hb A r (m+1) k (a6.setCell ⟨nb,t+1,none⟩ (.int .i64 ((d:Int)+1))) b S' C (D.set (t+1) (d+1)) E):=Qa λa6 bu=>f.out.tell aD bu L M
      have a5:Hid (S'.ev.length=l.length+1):=Qa (by rw [ar];simp)
      have a8:Hid (S'.ev[l.length]?=some a1):=Qa (by rw [ar];simp)
      have ch:l.length<=1000:=by have:=a5.out;omega
      generalize l.length=F at *
      have af:a1.tk=(t:Int)+1:=by rw [b0];omega
      have cE:((F:Int)+1==0)=false:=by simp;omega
      have ci:IntKind.i64.wrap ((F:Int)+1-1)=(F:Int):=by rw [IntKind.wrap_i64];omega
      have bW:IntKind.i64.wrap (F:Int)=(F:Int):=by rw [IntKind.wrap_i64];omega
      have cj:(F:Int)<(F:Int)+1:=by omega
      clear ar b0 L M ah
      rcases K with Y|Y
      ·as_aux_lemma =>
        have az:decide (a1.up<sent)=false:=decide_eq_false (by have:=ay Y;omega)
        rw [Y] at V W
        clear ay Y
        go_wp2_with (first|(go_at_call 10;refine ae.out.mono ?_;rintro e' bv ⟨v,rfl,J,T⟩;rw [a5.out] at J;obtain ⟨bw,bx,rfl⟩:=Qz J))
        obtain ⟨bz,aA,aB,aC,_,bA,bl⟩:=Qd3 J (show F<F+1 by omega) a8.out
        subst aA
        rw [af] at aB
        rw [W] at aC
        have O:=R.out.trans (T.mono R.out.size)
        have ai:=Qa O
        obtain ⟨⟨bm,bn,_⟩,bo,_,_⟩:=f.out.cells O
        have bp:=(T.cell (p:=⟨aZ,0,none⟩) aM.out).trans V
        generalize a1.up=bq at *
        clear J T O ax cs a3 aW aX aY V ae f a5 a8 af W
        go_big_quiet (fail)
        go_wp2_with fail
        go_roundw
        case rel=>exact ⟨k,m+1,rfl,by go_num,by omega,b,S',_,_,_,Qa (X.out _ (QL ai.out _))⟩
        case measure=>simp [intOf];omega
      ·as_aux_lemma =>
        have az:Hid True:=Qa trivial
        rw [Y] at V W
        clear ay Y
        go_wp2_with (first|(go_at_call 10;refine ae.out.mono ?_;rintro e' bv ⟨v,rfl,J,T⟩;rw [a5.out] at J;obtain ⟨bw,bx,rfl⟩:=Qz J))
        obtain ⟨bz,aA,aB,aC,_,bA,bl⟩:=Qd3 J (show F<F+1 by omega) a8.out
        subst aA
        rw [af] at aB
        rw [W] at aC
        have O:=R.out.trans (T.mono R.out.size)
        have ai:=Qa O
        obtain ⟨⟨bm,bn,_⟩,bo,_,_⟩:=f.out.cells O
        have bp:=(T.cell (p:=⟨aZ,0,none⟩) aM.out).trans V
        generalize a1.up=bq at *
        clear J T O ax cs a3 aW aX aY V ae f a5 a8 af W
        go_big_quiet (fail)
        go_wp2_with fail
        go_roundw
        case rel=>exact ⟨k,m+1,rfl,by go_num,by omega,b,S',_,_,_,Qa (X.out _ (QL ai.out _))⟩
        case measure=>simp [intOf];omega
     ·as_aux_lemma =>
       have bB:(a.kd==8)=false:=by simpa using K.1
       have az:(a.kd==9)=false:=by simpa using K.2
       have X:Hid (JD w H z u G nb hb A r (m+1) (k+1) ((ac.setCell ⟨G,t+1,none⟩ (.int .i64 (k+1))).setCell ⟨hb,t+1,none⟩ (.bool true)) b S' (C.set (t+1) (k+1)) D (E.set (t+1) true)):=Qa (f.out.one aD R.out L M)
       have bX:IntKind.i64.wrap (k+1)=k+1:=by rw [IntKind.wrap_i64];omega
       have aj:=f.out.rows.lt
       rw [a4] at a3
       have bC:(ac.setCell ⟨G,t+1,none⟩ (.int .i64 (k+1))).cell? ⟨hb,t+1,none⟩=some (.bool false):=(Qa5 _ (by omega) _ _ _).trans a3
       generalize a.kd=bD at *
       clear K a4 L M ah f aj
       go_wp2_with fail
       go_roundw
       case rel=>exact ⟨k+1,m+1,rfl,by go_num,by omega,b,S',_,_,_,X⟩
       case measure=>simp [intOf];omega
     ·as_aux_lemma =>
       have bB:(a.kd==8)=false:=by simpa using K.1
       have az:(a.kd==9)=false:=by simpa using K.2
       have X:Hid (JD w H z u G nb hb A r (m+1) k ((ac.setCell ⟨hb,t+1,none⟩ (.bool false)).setCell ⟨nb,t+1,none⟩ (.int .i64 ((d:Int)+1))) b S' C (D.set (t+1) (d+1)) (E.set (t+1) false)):=Qa (f.out.two aD R.out L M)
       have aj:=f.out.rows.lt
       rw [a4] at a3
       have bC:(ac.setCell ⟨hb,t+1,none⟩ (.bool false)).cell? ⟨nb,t+1,none⟩=some (.int .i64 (d:Nat)):=(Qa5 _ (by omega) _ _ _).trans ax
       generalize a.kd=bD at *
       clear K a4 L M ah f aj
       go_wp2_with fail
       go_roundw
       case rel=>exact ⟨k,m+1,rfl,by go_num,by omega,b,S',_,_,_,X⟩
       case measure=>simp [intOf];omega
  ·have ck:m=r+1500:=by omega
   subst ck
   have cl:=Qa (b3.out z u G nb hb k wr ag S C D E aF.out)
   clear b3 aF aN b1 aI
   go_wp2_with (first|(go_at_call 11;refine cl.out.mono ?_;rintro e o ⟨rfl,cm⟩))
   go_ret
   exact ⟨rfl,cm⟩
end Go.Proofs.YtobgcaemnpkbmaaGreatDoor
