import Derived.Test.YtobgcaemnpkbmaaGreatDoorC35
namespace Go.Proofs.YtobgcaemnpkbmaaGreatDoor
set_option maxRecDepth 100000
set_option maxHeartbeats 8000000
open Go.RowKit List
def Qul (tg j g p n c:Nat) (b:World->Prop) (e:Ending) (w':World):Prop :=
 e=.returned (.tuple #[])/\∃ w1 a,b w1/\(1<n->a=⟨g,p+6,none⟩)/\w'=(w1.setCell ⟨tg,j+1,none⟩ (.pointer none)).setCell ⟨tg,j,none⟩ (.slice (some a) (n-1) (c-1))
theorem Qpc (u tg j hb:Nat) (x:Qm) (g p n c:Nat) (w:World) (M:0<n) (N:n<=c) (_hc2:c<=9223372036854775807) (y:w.cell? ⟨tg,j+1,none⟩=some (.pointer (some ⟨hb,0,none⟩))) (b:w.rangeAt hb 0 x.cells) (A:World->Prop) (D:Hid (Calls Tryz.prog 81 #[.pointer (some ⟨u,1,none⟩),.agg #[.int .i64 x.a.kd,.int .i64 x.a.nm,.int .i64 x.a.pa,.int .i64 x.a.fl,.int .i64 x.a.n,.int .i64 x.a.m,.int .i64 x.t,.int .i64 x.g]] w.drew λe w1=>e=.returned (.tuple #[])/\A w1)) (E:Hid (∀ w1,A w1->w1.cell? ⟨tg,j,none⟩=some (.slice (some ⟨g,p,none⟩) n c)/\w1.cell? ⟨tg,j+1,none⟩=some (.pointer (some ⟨hb,0,none⟩))/\w1.frozen? ⟨tg,j,none⟩=false/\w1.frozen? ⟨tg,j+1,none⟩=false/\w1.rangeAt hb 0 x.cells)) : Calls Tryz.prog 45 #[.pointer (some ⟨u,0,none⟩),.pointer (some ⟨tg,j,none⟩)] w (Qul tg j g p n c A):=by
 have f:=b 0 _ rfl;have h:=b 1 _ rfl;have i:=b 2 _ rfl;have k:=b 3 _ rfl;have l:=b 4 _ rfl;have o:=b 5 _ rfl;have q:=b 6 _ rfl;have s:=b 7 _ rfl;simp only [Nat.add_zero,Nat.zero_add] at f h i k l o q s;clear b;go_enter Tryz.func45,Tryz.ntmps45;go_wp2_with fail;have B:(λw':World=>w'.cell? ⟨tg,j+1,none⟩=some (.pointer (some ⟨hb,0,none⟩))/\w'.cell? ⟨hb,0,none⟩=some (.int .i64 x.a.kd)/\w'.cell? ⟨hb,1,none⟩=some (.int .i64 x.a.nm)/\w'.cell? ⟨hb,2,none⟩=some (.int .i64 x.a.pa)/\w'.cell? ⟨hb,3,none⟩=some (.int .i64 x.a.fl)/\w'.cell? ⟨hb,4,none⟩=some (.int .i64 x.a.n)/\w'.cell? ⟨hb,5,none⟩=some (.int .i64 x.a.m)/\w'.cell? ⟨hb,6,none⟩=some (.int .i64 x.t)/\w'.cell? ⟨hb,7,none⟩=some (.int .i64 x.g)) w.drew:=⟨y,f,h,i,k,l,o,q,s⟩;refine Zm (S:=(λw':World=>w'.cell? ⟨tg,j+1,none⟩=some (.pointer (some ⟨hb,0,none⟩))/\w'.cell? ⟨hb,0,none⟩=some (.int .i64 x.a.kd)/\w'.cell? ⟨hb,1,none⟩=some (.int .i64 x.a.nm)/\w'.cell? ⟨hb,2,none⟩=some (.int .i64 x.a.pa)/\w'.cell? ⟨hb,3,none⟩=some (.int .i64 x.a.fl)/\w'.cell? ⟨hb,4,none⟩=some (.int .i64 x.a.n)/\w'.cell? ⟨hb,5,none⟩=some (.int .i64 x.a.m)/\w'.cell? ⟨hb,6,none⟩=some (.int .i64 x.t)/\w'.cell? ⟨hb,7,none⟩=some (.int .i64 x.g))) (by kernel_rfl) ?_;iterate 9
  apply Q0 ?_ B ?_;rotate_left
  ·(intro w' hSw;(try obtain ⟨y,f,h,i,k,l,o,q,s⟩:=hSw);simp only [getElem_toArray,getElem_cons_zero,getElem_cons_succ];go_simp;try (with_reducible rfl))
  simp only [getElem_toArray,getElem_cons_zero,getElem_cons_succ,Act.put,setIfInBounds_toArray,set_cons_zero,set_cons_succ]
 refine Qq 9 ?_;simp only [getElem_toArray,getElem_cons_zero,getElem_cons_succ];go_simp;refine D.out.mono ?_;rintro e w1 ⟨rfl,z⟩;obtain ⟨G,H,I,O,C⟩:=E.out w1 z;have d:∀ r v,x.cells[r]?=some v->w1.cell? ⟨hb,r,none⟩=some v:=λr v J=>by have:=C r v J;rwa [Nat.zero_add] at this
 refine ⟨.inr ⟨H,d 0 _ rfl,d 1 _ rfl,d 2 _ rfl,d 3 _ rfl,d 4 _ rfl,d 5 _ rfl,d 6 _ rfl,d 7 _ rfl⟩,?_⟩;refine Zk (by kernel_rfl) ?_ _;have F:=Qa z;clear B y f h i k l o q s D E z C d;have K:(w1.setCell ⟨tg,j+1,none⟩ (.pointer none)).cell? ⟨tg,j,none⟩=some (.slice (some ⟨g,p,none⟩) n c):=(World.cell?_setCell_other _ _ _ _ (by intro e;cases e)).trans G;have L:(w1.setCell ⟨tg,j+1,none⟩ (.pointer none)).frozen? ⟨tg,j,none⟩=false:=(World.frozen?_setCell ..).trans I;go_wp2_with fail;all_goals (refine bodyPost_end (results_none rfl _ _ _) rfl ?_)
 all_goals (refine ⟨rfl,w1,_,F.out,?_,rfl⟩)
 all_goals (first|(intro _;rfl)|(intro _;exfalso;omega)|trace_state)
def Quc (u tg j:Nat) (a:Ac) (gv c:Int) (w:World) (e:Ending) (w':World):Prop :=
 e=.returned (.tuple #[])/\∃ b,Below (w.heap.size+1) (((w.alloc (.cells #[.int .i64 a.kd,.int .i64 a.nm,.int .i64 a.pa,.int .i64 a.fl,.int .i64 a.n,.int .i64 a.m] 34)).setCell ⟨u,1,none⟩ (.int .i64 (gv+1))).setCell ⟨tg,j+2,none⟩ (.int .i64 (gv+1))) b/\w'=(b.alloc (.cells #[.int .i64 a.kd,.int .i64 a.nm,.int .i64 a.pa,.int .i64 a.fl,.int .i64 a.n,.int .i64 a.m,.int .i64 (gv+1),.int .i64 c] 167)).setCell ⟨tg,j+1,none⟩ (.pointer (some ⟨b.heap.size,0,none⟩))
theorem QqB (u tg j g p n c:Nat) (a:Ac) (gv H b1:Int) (w:World) (bb:0<n) (b2:w.cell? ⟨tg,j,none⟩=some (.slice (some ⟨g,p,none⟩) n c)) (ax:w.cell? ⟨tg,j+1,none⟩=some (.pointer none)) (ay:w.cell? ⟨tg,j+2,none⟩=some (.int .i64 b1)) (az:w.frozen? ⟨tg,j+1,none⟩=false) (aA:w.frozen? ⟨tg,j+2,none⟩=false) (s:w.rangeAt g p a.cells) (aB:w.cell? ⟨u,1,none⟩=some (.int .i64 gv)) (aC:w.frozen? ⟨u,1,none⟩=false) (a9:u≠tg) (aD:u<w.heap.size) (I:tg<w.heap.size) (b3:0<=gv/\gv<=1000000) (aE:Hid (∀ J,Below (w.heap.size+1) (((w.alloc (.cells #[.int .i64 a.kd,.int .i64 a.nm,.int .i64 a.pa,.int .i64 a.fl,.int .i64 a.n,.int .i64 a.m] 34)).setCell ⟨u,1,none⟩ (.int .i64 (gv+1))).setCell ⟨tg,j+2,none⟩ (.int .i64 (gv+1))) J->Calls Tryz.prog 80 #[.pointer (some ⟨u,5,none⟩),.int .i64 a.nm] J λe i=>e=.returned (.int .i64 H)/\Below J.heap.size J i)) : Calls Tryz.prog 45 #[.pointer (some ⟨u,0,none⟩),.pointer (some ⟨tg,j,none⟩)] w (Quc u tg j a gv H w):=by
 have aF:=s 0 _ rfl;have b4:=s 1 _ rfl;have b5:=s 2 _ rfl;have b6:=s 3 _ rfl;have b7:=s 4 _ rfl;have b8:=s 5 _ rfl;simp only [Nat.add_zero] at aF;clear s;have r:=(Below.refl w.heap.size w).alloc (Nat.le_refl _) (.cells #[.int .i64 a.kd,.int .i64 a.nm,.int .i64 a.pa,.int .i64 a.fl,.int .i64 a.n,.int .i64 a.m] 34);have q:(w.alloc (.cells #[.int .i64 a.kd,.int .i64 a.nm,.int .i64 a.pa,.int .i64 a.fl,.int .i64 a.n,.int .i64 a.m] 34)).heap[w.heap.size]?=some (.cells #[.int .i64 a.kd,.int .i64 a.nm,.int .i64 a.pa,.int .i64 a.fl,.int .i64 a.n,.int .i64 a.m] 34 (0,0)):=heap_alloc_new w _;have bc:(w.alloc (.cells #[.int .i64 a.kd,.int .i64 a.nm,.int .i64 a.pa,.int .i64 a.fl,.int .i64 a.n,.int .i64 a.m] 34)).heap.size=w.heap.size+1:=by simp
 have aG:=(r.cell (p:=⟨u,1,none⟩) aD).trans aB;have aH:=(r.frozen (p:=⟨u,1,none⟩) aD).trans aC;have aa:=Qa (Qpd u 1 gv (w.alloc (.cells #[.int .i64 a.kd,.int .i64 a.nm,.int .i64 a.pa,.int .i64 a.fl,.int .i64 a.n,.int .i64 a.m] 34)) aG aH (by omega) b3.1);have aI:=(r.cell (p:=⟨tg,j+1,none⟩) I).trans ax;have aJ:=(r.cell (p:=⟨tg,j+2,none⟩) I).trans ay;have aK:=(r.frozen (p:=⟨tg,j+1,none⟩) I).trans az;have aL:=(r.frozen (p:=⟨tg,j+2,none⟩) I).trans aA;have A:=Qf q 0 _ rfl;have B:=Qf q 1 _ rfl;have C:=Qf q 2 _ rfl;have D:=Qf q 3 _ rfl;have E:=Qf q 4 _ rfl;have F:=Qf q 5 _ rfl;have ba:(((w.alloc (.cells #[.int .i64 a.kd,.int .i64 a.nm,.int .i64 a.pa,.int .i64 a.fl,.int .i64 a.n,.int .i64 a.m] 34)).setCell ⟨u,1,none⟩ (.int .i64 (gv+1))).setCell ⟨tg,j+2,none⟩ (.int .i64 (gv+1))).heap.size=w.heap.size+1:=by simp [World.setCell]
 clear q r aG aH aB aC ay az aA;go_enter Tryz.func45,Tryz.ntmps45;go_wp2_with fail;generalize ab:(w.alloc (.cells #[.int .i64 a.kd,.int .i64 a.nm,.int .i64 a.pa,.int .i64 a.fl,.int .i64 a.n,.int .i64 a.m] 34))=w1 at *;have aV:=Qa ab;clear ab b2 ax aF b4 b5 b6 b7 b8;generalize ac:w.heap.size=d at *;have aW:=Qa ac;clear ac;have l:∀ b k v,b≠u->(w1.setCell ⟨u,1,none⟩ v).cell? ⟨b,k,none⟩=w1.cell? ⟨b,k,none⟩:=λb k v hb=>World.cell?_setCell_other _ _ _ _ (by intro e;cases e;exact hb rfl);have ad:=(l tg (j+2) (.int .i64 (gv+1)) (Ne.symm a9)).trans aJ;have ae:=(l tg (j+1) (.int .i64 (gv+1)) (Ne.symm a9)).trans aI;have aX:(w1.setCell ⟨u,1,none⟩ (.int .i64 (gv+1))).frozen? ⟨tg,j+2,none⟩=false:=(World.frozen?_setCell ..).trans aL;have y:d≠u:=by omega
 have z:d≠tg:=by omega
 have aM:=(l d 0 (.int .i64 (gv+1)) y).trans A;have aN:=(l d 1 (.int .i64 (gv+1)) y).trans B;have aO:=(l d 2 (.int .i64 (gv+1)) y).trans C;have aP:=(l d 3 (.int .i64 (gv+1)) y).trans D;have aQ:=(l d 4 (.int .i64 (gv+1)) y).trans E;have aR:=(l d 5 (.int .i64 (gv+1)) y).trans F;have af:(w1.setCell ⟨u,1,none⟩ (.int .i64 (gv+1))).frozen? ⟨tg,j+1,none⟩=false:=(World.frozen?_setCell ..).trans aK;have o:∀ (w2:World) b k v,(b≠tg \/ k≠j+2)->(w2.setCell ⟨tg,j+2,none⟩ v).cell? ⟨b,k,none⟩=w2.cell? ⟨b,k,none⟩:=λw2 b k v hb=>World.cell?_setCell_other _ _ _ _ (by intro e;cases e;rcases hb with hb|hb<;>exact hb rfl);go_wp2_with (first|(go_at_call 79;refine aa.out.mono ?_;rintro e w2 ⟨rfl,ag⟩;rw [ag];clear ag));have M:((w1.setCell ⟨u,1,none⟩ (.int .i64 (gv+1))).setCell ⟨tg,j+2,none⟩ (.int .i64 (gv+1))).frozen? ⟨tg,j+1,none⟩=false:=(World.frozen?_setCell ..).trans af;have N:=(o (w1.setCell ⟨u,1,none⟩ (.int .i64 (gv+1))) tg (j+1) (.int .i64 (gv+1)) (.inr (by omega))).trans ae;have O:((w1.setCell ⟨u,1,none⟩ (.int .i64 (gv+1))).setCell ⟨tg,j+2,none⟩ (.int .i64 (gv+1))).cell? ⟨tg,j+2,none⟩=some (.int .i64 (gv+1)):=World.cell?_setCell_same _ _ _ ad;have P:=(o (w1.setCell ⟨u,1,none⟩ (.int .i64 (gv+1))) d 0 (.int .i64 (gv+1)) (.inl z)).trans aM;have R:=(o (w1.setCell ⟨u,1,none⟩ (.int .i64 (gv+1))) d 1 (.int .i64 (gv+1)) (.inl z)).trans aN;have T:=(o (w1.setCell ⟨u,1,none⟩ (.int .i64 (gv+1))) d 2 (.int .i64 (gv+1)) (.inl z)).trans aO;have U:=(o (w1.setCell ⟨u,1,none⟩ (.int .i64 (gv+1))) d 3 (.int .i64 (gv+1)) (.inl z)).trans aP;have V:=(o (w1.setCell ⟨u,1,none⟩ (.int .i64 (gv+1))) d 4 (.int .i64 (gv+1)) (.inl z)).trans aQ;have W:=(o (w1.setCell ⟨u,1,none⟩ (.int .i64 (gv+1))) d 5 (.int .i64 (gv+1)) (.inl z)).trans aR;have aY:=Qa (aE.out ((w1.setCell ⟨u,1,none⟩ (.int .i64 (gv+1))).setCell ⟨tg,j+2,none⟩ (.int .i64 (gv+1))).drew (Below.refl _ _).drew);clear l o aI aJ aK aL ae ad af aX aM aN aO aP aQ aR A B C D E F aa aE;generalize ah:(w1.setCell ⟨u,1,none⟩ (.int .i64 (gv+1))).setCell ⟨tg,j+2,none⟩ (.int .i64 (gv+1))=G at *;have aZ:=Qa ah;clear ah;have K:tg<G.heap.size:=by omega
 have t:d<G.heap.size:=by omega
 have ai:(λw':World=>w'.frozen? ⟨tg,j+1,none⟩=false/\w'.cell? ⟨tg,j+1,none⟩=some (.pointer none)/\w'.cell? ⟨tg,j+2,none⟩=some (.int .i64 (gv+1))/\w'.cell? ⟨d,0,none⟩=some (.int .i64 a.kd)/\w'.cell? ⟨d,1,none⟩=some (.int .i64 a.nm)/\w'.cell? ⟨d,2,none⟩=some (.int .i64 a.pa)/\w'.cell? ⟨d,3,none⟩=some (.int .i64 a.fl)/\w'.cell? ⟨d,4,none⟩=some (.int .i64 a.n)/\w'.cell? ⟨d,5,none⟩=some (.int .i64 a.m)) G.drew:=⟨M,N,O,P,R,T,U,V,W⟩;refine Zm (S:=(λw':World=>w'.frozen? ⟨tg,j+1,none⟩=false/\w'.cell? ⟨tg,j+1,none⟩=some (.pointer none)/\w'.cell? ⟨tg,j+2,none⟩=some (.int .i64 (gv+1))/\w'.cell? ⟨d,0,none⟩=some (.int .i64 a.kd)/\w'.cell? ⟨d,1,none⟩=some (.int .i64 a.nm)/\w'.cell? ⟨d,2,none⟩=some (.int .i64 a.pa)/\w'.cell? ⟨d,3,none⟩=some (.int .i64 a.fl)/\w'.cell? ⟨d,4,none⟩=some (.int .i64 a.n)/\w'.cell? ⟨d,5,none⟩=some (.int .i64 a.m))) (by kernel_rfl) ?_;iterate 11
  apply Q0 ?_ ai ?_;rotate_left
  ·(intro w' hSw;(try obtain ⟨aS,aT,aU,A,B,C,D,E,F⟩:=hSw);simp only [getElem_toArray,getElem_cons_zero,getElem_cons_succ];go_simp;try (with_reducible rfl))
  simp only [getElem_toArray,getElem_cons_zero,getElem_cons_succ,Act.put,setIfInBounds_toArray,set_cons_zero,set_cons_succ]
 refine Qq 11 ?_;simp only [getElem_toArray,getElem_cons_zero,getElem_cons_succ];go_simp;refine aY.out.mono ?_;rintro e i ⟨rfl,f⟩;have bd:G.heap.size<=i.heap.size:=f.size;have X:=(f.frozen (p:=⟨tg,j+1,none⟩) K).trans M;have Y:=(f.cell (p:=⟨tg,j+1,none⟩) K).trans N;have a0:=(f.cell (p:=⟨tg,j+2,none⟩) K).trans O;have a1:=(f.cell (p:=⟨d,0,none⟩) t).trans P;have a2:=(f.cell (p:=⟨d,1,none⟩) t).trans R;have a3:=(f.cell (p:=⟨d,2,none⟩) t).trans T;have a4:=(f.cell (p:=⟨d,3,none⟩) t).trans U;have a5:=(f.cell (p:=⟨d,4,none⟩) t).trans V;have a6:=(f.cell (p:=⟨d,5,none⟩) t).trans W;have a7:(λw':World=>w'.frozen? ⟨tg,j+1,none⟩=false/\w'.cell? ⟨tg,j+1,none⟩=some (.pointer none)/\w'.cell? ⟨tg,j+2,none⟩=some (.int .i64 (gv+1))/\w'.cell? ⟨d,0,none⟩=some (.int .i64 a.kd)/\w'.cell? ⟨d,1,none⟩=some (.int .i64 a.nm)/\w'.cell? ⟨d,2,none⟩=some (.int .i64 a.pa)/\w'.cell? ⟨d,3,none⟩=some (.int .i64 a.fl)/\w'.cell? ⟨d,4,none⟩=some (.int .i64 a.n)/\w'.cell? ⟨d,5,none⟩=some (.int .i64 a.m)) i:=⟨X,Y,a0,a1,a2,a3,a4,a5,a6⟩;refine ⟨.inr a7,?_⟩;clear ai M N O P R T U V W;try simp only [Act.put,setIfInBounds_toArray,set_cons_zero,set_cons_succ]
 iterate 1
  apply Q0 ?_ a7 ?_;rotate_left
  ·(intro w' hSw;(try obtain ⟨aS,aT,aU,A,B,C,D,E,F⟩:=hSw);simp only [getElem_toArray,getElem_cons_zero,getElem_cons_succ];go_simp;try (with_reducible rfl))
  simp only [getElem_toArray,getElem_cons_zero,getElem_cons_succ,Act.put,setIfInBounds_toArray,set_cons_zero,set_cons_succ]
 refine Qq 13 ?_;simp only [getElem_toArray,getElem_cons_zero,getElem_cons_succ];go_simp;have h:=(Below.refl i.heap.size i).alloc (Nat.le_refl _) (.cells #[.int .i64 a.kd,.int .i64 a.nm,.int .i64 a.pa,.int .i64 a.fl,.int .i64 a.n,.int .i64 a.m,.int .i64 (gv+1),.int .i64 H] 167);have L:tg<i.heap.size:=by omega
 have x:d<i.heap.size:=by omega
 have aj:=(h.frozen (p:=⟨tg,j+1,none⟩) L).trans X;have ak:=(h.cell (p:=⟨tg,j+1,none⟩) L).trans Y;have al:=(h.cell (p:=⟨tg,j+2,none⟩) L).trans a0;have ao:=(h.cell (p:=⟨d,0,none⟩) x).trans a1;have ap:=(h.cell (p:=⟨d,1,none⟩) x).trans a2;have aq:=(h.cell (p:=⟨d,2,none⟩) x).trans a3;have ar:=(h.cell (p:=⟨d,3,none⟩) x).trans a4;have au:=(h.cell (p:=⟨d,4,none⟩) x).trans a5;have av:=(h.cell (p:=⟨d,5,none⟩) x).trans a6;generalize aw:i.alloc (.cells #[.int .i64 a.kd,.int .i64 a.nm,.int .i64 a.pa,.int .i64 a.fl,.int .i64 a.n,.int .i64 a.m,.int .i64 (gv+1),.int .i64 H] 167)=b9 at *;have b0:=Qa aw;clear aw a7 X Y a0 a1 a2 a3 a4 a5 a6 h;have a8:(λw':World=>w'.frozen? ⟨tg,j+1,none⟩=false/\w'.cell? ⟨tg,j+1,none⟩=some (.pointer none)/\w'.cell? ⟨tg,j+2,none⟩=some (.int .i64 (gv+1))/\w'.cell? ⟨d,0,none⟩=some (.int .i64 a.kd)/\w'.cell? ⟨d,1,none⟩=some (.int .i64 a.nm)/\w'.cell? ⟨d,2,none⟩=some (.int .i64 a.pa)/\w'.cell? ⟨d,3,none⟩=some (.int .i64 a.fl)/\w'.cell? ⟨d,4,none⟩=some (.int .i64 a.n)/\w'.cell? ⟨d,5,none⟩=some (.int .i64 a.m)) b9:=⟨aj,ak,al,ao,ap,aq,ar,au,av⟩;refine ⟨.inr a8,?_⟩;iterate 2
  apply Q0 ?_ a8 ?_;rotate_left
  ·(intro w' hSw;(try obtain ⟨aS,aT,aU,A,B,C,D,E,F⟩:=hSw);simp only [getElem_toArray,getElem_cons_zero,getElem_cons_succ];go_simp;try (with_reducible rfl))
  simp only [getElem_toArray,getElem_cons_zero,getElem_cons_succ,Act.put,setIfInBounds_toArray,set_cons_zero,set_cons_succ]
 refine Qq 16 ?_;simp only [getElem_toArray,getElem_cons_zero,getElem_cons_succ];go_simp;refine ⟨by kernel_rfl,?_⟩;refine Zk (by kernel_rfl) ?_ _;clear a8 aj ak al ao ap aq ar au av;go_wp2;refine bodyPost_ret (results_none rfl _ _ _) rfl ?_;refine ⟨rfl,i,?_,by rw [b0.out]⟩;rw [aV.out,aZ.out,aW.out];exact (Below.refl _ _).drew.trans (f.mono (by show _<=G.heap.size;omega))
theorem Zl.undrew {w w':World} {v d:Value} (h:Zl w.drew w' v d):Zl w w' v d:=by
 rcases h with ⟨a,b,c⟩|⟨a,b⟩
 ·exact .inl ⟨a,⟨b.os,b.tape,b.output,b.size,b.block⟩,c⟩
 exact .inr ⟨a,⟨b.os,b.tape,b.output,b.size,b.block⟩⟩
theorem QmD:(Tryz.prog.info? 69).map (λi=>(i.zero,i.size,i.bytes))=some (some (.agg #[.int .i64 0,.int .i64 0]),2,16):=by kernel_rfl
theorem QoQ (u:Nat) (w:World) (a:Option Addr) (b:Nat) (c:w.cell? ⟨u,4,none⟩=some (.slice a 0 b)) : Calls Tryz.prog 77 #[.pointer (some ⟨u,0,none⟩)] w λe w'=>e=.returned (.int .i64 7)/\w'=w:=by go_enter Tryz.func77,Tryz.ntmps77;go_wp2;go_ret;exact ⟨rfl,rfl⟩
structure Qmn (u:Nat) (tn:Int) (co:Option Addr) (cn cc:Nat) (xs:List Value) (w:World):Prop where
  c7:w.cell? ⟨u,154,none⟩=some (.slice co cn cc)
  c2:w.cell? ⟨u,2,none⟩=some (.int .i64 tn)
  f7:w.frozen? ⟨u,154,none⟩=false
  row:w.ownsRow 0 69 2 (.slice co cn cc) cn xs
  lt:u<w.heap.size
  ne:(Value.slice co cn cc).ownBlock≠some u
def Quf (u:Nat) (tn:Int) (f:Option Addr) (a g:Nat) (xs:List Value) (P:World->World->Nat->Prop) (w':World):Prop :=
  ∃ w1 b h c d A,P w1 b h/\Qmn u tn f a g xs b/\w'=d.setCell ⟨u,154,none⟩ c/\d.ownsRow 0 69 2 c (a+1) (xs++[.int .i64 tn,.int .i64 h])/\Zl (b.alloc A) d (.slice f a g) c
theorem Qo7 (u q:Nat) (w:World) (g n aS:Nat) (s:List Qm) (al:n=s.length) (bh:0<n) (bb:n<=48) (ao:w.cell? ⟨u,4,none⟩=some (.slice (some ⟨g,0,none⟩) n aS)) (i:Option Addr) (b k:Nat) (bc:b<1000000) (tn:Int) (xs:List Value) (z:Nat->World->Prop) (ap:Hid (z 0 w)) (T:Hid (∀ m wr,z m wr->(aq:m<s.length)->wr.rangeAt g (m*8) s[m].cells)) (U:Hid (∀ m wr c,z m wr->(aq:m<s.length)->Below wr.heap.size wr c->Calls Tryz.prog 111 #[.pointer (some ⟨u,5,none⟩),s[m].a.val,.int .i64 s[m].g] c λe w'=>e=.returned (.tuple #[])/\z (m+1) w')) (P:World->World->Nat->Prop) (ar:Hid (∀ w1,z n w1->(∃ v,w1.cell? ⟨u,4,none⟩=some v)/\w1.frozen? ⟨u,4,none⟩=false/\u<w1.heap.size/\w1.cell? ⟨u,152,none⟩=some (.pointer (some ⟨q,0,none⟩))/\w1.cell? ⟨u,154,none⟩=some (.slice i b k) /\ ∀ c,Below w1.heap.size (w1.setCell ⟨u,4,none⟩ (.slice none 0 0)) c->Calls Tryz.prog 41 #[.pointer (some ⟨u,5,none⟩),.int .i64 ((b:Int)+1)] c λe w2=>∃ V W X,e=.returned (.slice V W X)/\Below c.heap.size c w2 /\ Calls Tryz.prog 35 #[.pointer (some ⟨q,0,none⟩),.slice V W X] w2 λe C=>∃ Y l a0,e=.returned (.tuple #[.slice Y l a0,.int .i64 0,.int .i64 0])/\Below w2.heap.size w2 C /\ Calls Tryz.prog 36 #[.pointer (some ⟨q,0,none⟩),.slice Y l a0] C λe f=>∃ x aC,e=.returned (.tuple #[.int .i64 x,.int .i64 aC])/\Qmn u tn i b k xs f/\P w1 f l)) : Calls Tryz.prog 77 #[.pointer (some ⟨u,0,none⟩)] w λe w'=>e=.returned (.int .i64 0)/\Quf u tn i b k xs P w':=by
 obtain ⟨aT,aU,aE,aF,aG⟩:=info_parts QmD;have aV:=Qa al;have bd:((n:Int)==0)=false:=by simp;omega
 clear al;go_enter Tryz.func77,Tryz.ntmps77;go_wp2;go_loopw [19] (λa1 wr=>∃ m:Nat,m<=n/\a1=.int .i64 m/\Hid (z m wr)) (λa1 _=>n-(intOf a1).toNat);·exact ⟨0,Nat.zero_le _,rfl,ap⟩
 case round =>
  obtain ⟨m,aq,rfl,I⟩:=hrel;clear ap;by_cases bf:m<n
  ·have ac:m<s.length:=by have:=aV.out;omega
   have bi:(m:Int)<(n:Int):=by omega
   have o:=T.out m wr I.out ac;have N:=Qa λc a2=>U.out m wr c I.out ac a2;unfold Ac.val at N;generalize s[m]=x at *;have D:=o 0 _ rfl;have J:=o 1 _ rfl;have K:=o 2 _ rfl;have aW:=o 3 _ rfl;have aX:=o 4 _ rfl;have aY:=o 5 _ rfl;have aZ:=o 6 _ rfl;have b0:=o 7 _ rfl;simp only [Nat.add_zero] at D;clear o ao;go_wp2_with fail;have r:(wr.alloc (.cells #[.int .i64 x.a.kd,.int .i64 x.a.nm,.int .i64 x.a.pa,.int .i64 x.a.fl,.int .i64 x.a.n,.int .i64 x.a.m,.int .i64 x.t,.int .i64 x.g] 167)).heap[wr.heap.size]?=some (.cells #[.int .i64 x.a.kd,.int .i64 x.a.nm,.int .i64 x.a.pa,.int .i64 x.a.fl,.int .i64 x.a.n,.int .i64 x.a.m,.int .i64 x.t,.int .i64 x.g] 167 (0,0)):=heap_alloc_new wr _;have ad:Hid (Below wr.heap.size wr (wr.alloc (.cells #[.int .i64 x.a.kd,.int .i64 x.a.nm,.int .i64 x.a.pa,.int .i64 x.a.fl,.int .i64 x.a.n,.int .i64 x.a.m,.int .i64 x.t,.int .i64 x.g] 167)).drew):=Qa ((Below.refl wr.heap.size wr).alloc (Nat.le_refl _) _).drew;have q0:=Qf r 0 _ rfl;have E:=Qf r 1 _ rfl;have F:=Qf r 2 _ rfl;have a3:=Qf r 3 _ rfl;have a4:=Qf r 4 _ rfl;have a5:=Qf r 5 _ rfl;have a6:=Qf r 7 _ rfl;have aD:=Qa (N.out _ ad.out);generalize wr.heap.size=d at *;generalize (wr.alloc (.cells #[.int .i64 x.a.kd,.int .i64 x.a.nm,.int .i64 x.a.pa,.int .i64 x.a.fl,.int .i64 x.a.n,.int .i64 x.a.m,.int .i64 x.t,.int .i64 x.g] 167))=L at *;clear D J K aW aX aY aZ b0 r ad N T U;have A:(λw':World=>w'.cell? ⟨d,0,none⟩=some (.int .i64 x.a.kd)/\w'.cell? ⟨d,1,none⟩=some (.int .i64 x.a.nm)/\w'.cell? ⟨d,2,none⟩=some (.int .i64 x.a.pa)/\w'.cell? ⟨d,3,none⟩=some (.int .i64 x.a.fl)/\w'.cell? ⟨d,4,none⟩=some (.int .i64 x.a.n)/\w'.cell? ⟨d,5,none⟩=some (.int .i64 x.a.m)/\w'.cell? ⟨d,7,none⟩=some (.int .i64 x.g)) L.drew:=⟨q0,E,F,a3,a4,a5,a6⟩;refine Zm (S:=(λw':World=>w'.cell? ⟨d,0,none⟩=some (.int .i64 x.a.kd)/\w'.cell? ⟨d,1,none⟩=some (.int .i64 x.a.nm)/\w'.cell? ⟨d,2,none⟩=some (.int .i64 x.a.pa)/\w'.cell? ⟨d,3,none⟩=some (.int .i64 x.a.fl)/\w'.cell? ⟨d,4,none⟩=some (.int .i64 x.a.n)/\w'.cell? ⟨d,5,none⟩=some (.int .i64 x.a.m)/\w'.cell? ⟨d,7,none⟩=some (.int .i64 x.g))) (by kernel_rfl) ?_;iterate 7
    apply Q0 ?_ A ?_;rotate_left
    ·(intro w' hSw;(try obtain ⟨q0,E,F,a3,a4,a5,a6⟩:=hSw);simp only [getElem_toArray,getElem_cons_zero,getElem_cons_succ];go_simp;try (with_reducible rfl))
    simp only [getElem_toArray,getElem_cons_zero,getElem_cons_succ,Act.put,setIfInBounds_toArray,set_cons_zero,set_cons_succ]
   refine Qq 7 ?_;simp only [getElem_toArray,getElem_cons_zero,getElem_cons_succ];go_simp;refine aD.out.mono ?_;rintro e bj ⟨rfl,aH⟩;refine ⟨.inl (by kernel_rfl),?_⟩;refine Zk (by kernel_rfl) ?_ _;clear A q0 E F a3 a4 a5 a6;go_wp2;go_roundw;·exact ⟨m+1,by omega,by go_num,aH⟩
   simp [intOf];omega
  have aI:m=n:=by omega
  subst aI;obtain ⟨⟨bk,b1⟩,b2,b3,au,av,a7⟩:=ar.out wr I.out;clear T U ar ao I;go_wp2_with fail;have ae:(w1:World)->(v:Value)->(w1.setCell ⟨u,4,none⟩ v).cell? ⟨u,152,none⟩=w1.cell? ⟨u,152,none⟩:=λw1 v=>World.cell?_setCell_other _ _ _ _ (by intro e;cases e);have af:(w1:World)->(v:Value)->(w1.setCell ⟨u,4,none⟩ v).cell? ⟨u,154,none⟩=w1.cell? ⟨u,154,none⟩:=λw1 v=>World.cell?_setCell_other _ _ _ _ (by intro e;cases e);have b4:=(ae wr (.slice none 0 0)).trans au;have aw:=(af wr (.slice none 0 0)).trans av;have aJ:(wr.setCell ⟨u,4,none⟩ (.slice none 0 0)).heap.size=wr.heap.size:=by simp [World.setCell]
  rw [<- aJ] at a7 b3;generalize wr.setCell ⟨u,4,none⟩ (.slice none 0 0)=L at *;have ax:=Qa a7;have ay:Hid (∀ c:World,c.cell? ⟨u,154,none⟩=some (.slice i b k)->Calls Tryz.prog 42 #[.pointer (some ⟨u,0,none⟩)] c λe w'=>e=.returned (.int .i64 b)/\w'=c):=Qa λc a2=>QhG u i b k c a2;clear a7 ae af b1 b2 au av;have aK:IntKind.i64.wrap ((b:Int)+1)=(b:Int)+1:=by rw [IntKind.wrap_i64];omega
  go_region_held3 (λw'=>w'.cell? ⟨u,152,none⟩=some (.pointer (some ⟨q,0,none⟩))/\w'.cell? ⟨u,154,none⟩=some (.slice i b k))
    (first
      | go_keep
      | (go_split_ands
         refine ⟨?_,?_⟩
         all_goals (rw [ag.cell (by simp;omega)];assumption))
      | (go_split_ands
         refine ⟨?_,?_⟩
         all_goals (rw [aL.cell (by simp;omega)];assumption)))
    (first|(go_at_call 42;refine (ay.out L.drew aw).mono ?_;rintro e w' ⟨rfl,ah⟩;rw [ah];clear ah)|(go_at_call 41;refine (ax.out _ (Below.refl _ _).drew).mono ?_;rintro e w2 ⟨V,W,X,rfl,ag,az⟩;have bg:L.heap.size<=w2.heap.size:=ag.size;have aA:=Qa az;clear az)|(go_at_call 35;refine aA.out.mono ?_;rintro e C ⟨Y,l,a0,rfl,aL,aB⟩;have b5:=Qa aB;clear aB))
  clear b4 aw ax ay aA aK;obtain ⟨bl,bm⟩:C.cell? ⟨u,152,none⟩=some (.pointer (some ⟨q,0,none⟩))/\C.cell? ⟨u,154,none⟩=some (.slice i b k):=by assumption
  go_wp2_with (first|(go_at_call 36;refine b5.out.mono ?_;rintro e f ⟨x,aC,rfl,ai,aj⟩;have y:=Qa ai;have aM:=Qa aj;clear aj ai));have a8:=y.out.f7;have a9:=y.out.c7;have aa:=y.out.c2;have O:=y.out.lt;have aN:=Qa y.out.ne;have A:(λw':World=>w'.frozen? ⟨u,154,none⟩=false/\w'.cell? ⟨u,154,none⟩=some (.slice i b k)/\w'.cell? ⟨u,2,none⟩=some (.int .i64 tn)) f.drew:=⟨a8,a9,aa⟩;refine Zm (S:=(λw':World=>w'.frozen? ⟨u,154,none⟩=false/\w'.cell? ⟨u,154,none⟩=some (.slice i b k)/\w'.cell? ⟨u,2,none⟩=some (.int .i64 tn))) (by kernel_rfl) ?_;iterate 13
   apply Q0 ?_ A ?_;rotate_left
   ·(intro w' hSw;(try obtain ⟨q0,E,F⟩:=hSw);simp only [getElem_toArray,getElem_cons_zero,getElem_cons_succ];go_simp;try (with_reducible rfl))
   simp only [getElem_toArray,getElem_cons_zero,getElem_cons_succ,Act.put,setIfInBounds_toArray,set_cons_zero,set_cons_succ]
  refine Qq 13 ?_;simp only [getElem_toArray,getElem_cons_zero,getElem_cons_succ];go_simp;generalize B:f.alloc (.cells #[.int .i64 tn,.int .i64 l] 69)=w1;have G:Below f.heap.size f w1:=by rw [<- B];exact (Below.refl _ _).alloc (Nat.le_refl _) _
  have bn:w1.heap.size=f.heap.size+1:=by rw [<- B];simp
  have ab:∀ a,some (⟨f.heap.size,0,none⟩:Addr)=some a->∀ j v,[Value.int .i64 tn,.int .i64 l][j]?=some v->w1.cell? (a.add j)=some v:=by rw [<- B];exact Z9 f #[.int .i64 tn,.int .i64 l] 69
  have D:=(G.frozen (p:=⟨u,154,none⟩) O).trans a8;have J:=(G.cell (p:=⟨u,154,none⟩) O).trans a9;have K:=(G.cell (p:=⟨u,2,none⟩) O).trans aa;have aO:=Qa B;clear B A a8 a9 aa;refine Qq 14 ?_;simp only [getElem_toArray,getElem_cons_zero,getElem_cons_succ];refine Qcs w1.drew _ _ 66 (by rfl) 0 69 aT _ 2 16 Tryz.underlying66 aU aE aF aG rfl (.slice i b k) b xs (by rfl) (Zi y.out.row G.drew) (some ⟨f.heap.size,0,none⟩) 1 1 [.int .i64 tn,.int .i64 l] (by rfl) (by simp) rfl (λa b6 j v b7=>ab a b6 j v b7) (by simp [Value.oneCell']) (by omega) (by omega) (Nat.zero_le _) ?_;intro bo w2 M R;obtain ⟨bp,bq,rfl⟩:=Qz M;have aP:u<w1.heap.size:=by omega
  have H:w2.heap[u]?=w1.heap[u]?:=R.by.block u aP (λe=>aN.out e.symm);have b8:=(World.frozen?_of_block (w:=w1) (a:=⟨u,154,none⟩) H).trans D;have b9:=(World.cell?_of_block (w:=w1) (a:=⟨u,154,none⟩) H).trans J;have ba:=(World.cell?_of_block (w:=w1) (a:=⟨u,2,none⟩) H).trans K;have ak:(λw':World=>w'.frozen? ⟨u,154,none⟩=false/\w'.cell? ⟨u,154,none⟩=some (.slice i b k)/\w'.cell? ⟨u,2,none⟩=some (.int .i64 tn)) w2:=⟨b8,b9,ba⟩;refine ⟨.inr ak,?_⟩;have aQ:=Qa M;have aR:=Qa R;clear M R H D J K ab;try simp only [Act.put,setIfInBounds_toArray,set_cons_zero,set_cons_succ]
  iterate 2
   apply Q0 ?_ ak ?_;rotate_left
   ·(intro w' hSw;(try obtain ⟨q0,E,F⟩:=hSw);simp only [getElem_toArray,getElem_cons_zero,getElem_cons_succ];go_simp;try (with_reducible rfl))
   simp only [getElem_toArray,getElem_cons_zero,getElem_cons_succ,Act.put,setIfInBounds_toArray,set_cons_zero,set_cons_succ]
  refine Qq 17 ?_;simp only [getElem_toArray,getElem_cons_zero,getElem_cons_succ];go_simp;refine ⟨by kernel_rfl,?_⟩;refine Zk (by kernel_rfl) ?_ _;go_wp2;go_ret;refine ⟨rfl,wr,f,l,_,w2,.cells #[.int .i64 tn,.int .i64 l] 69,aM.out,y.out,rfl,aQ.out,?_⟩;have h:=aR.out;rw [<- aO.out] at h;exact h.undrew
def QcR (L:Nat->Qd) (P:List Pn):Prop:=∀ i,(a:i<P.length)->(L i).d=P[i].d/\(L i).t=P[i].tag/\(L i).k=P[i].key/\(L i).x=P[i].text/\(L i).an=P[i].ats.length/\(L i).nm=Q4 P[i].ats/\(L i).vl=Zq P[i].ats
theorem QlJ {a:List TN} {P:List Pn} (h:a.map TN.pn=P) (d:∀ n,n ∈ a->n.an=n.ats.length):QcR (ZO a) P:=by
 subst h;intro i c;have b:i<a.length:=by rw [length_map] at c;exact c
 rw [QiD b,getElem_map];exact ⟨rfl,rfl,rfl,rfl,d _ (getElem_mem b),rfl,rfl⟩
theorem Ql4 {g:Int} {C:Nat->Pc} (h:QY g C):∀ (f k:Nat) (d:Int),k<21->∀ n,n ∈ ZC C f k d->0<=n.key/\n.key<=130
 | 0,_,_,_,n,a=>by rw [ZC] at a;cases a
 | f+1,k,d,hk,n,a=>by
  rw [ZC] at a;rcases mem_cons.1 a with e|a
  ·rw [e];show (0:Int)<=(k:Int)/\(k:Int)<=130;omega
  rcases mem_append.1 a with a|a
  ·obtain ⟨x,b,a⟩:=mem_flatMap.1 a;have:=h.nums k x b;unfold Z4 at a;rcases mem_cons.1 a with e|a
   ·rw [e];show 0<=100+x/\100+x<=130;omega
   rw [mem_singleton.1 a];exact ⟨Int.le_refl _,by show (0:Int)<=130;omega⟩
  obtain ⟨j,c,a⟩:=mem_flatMap.1 a;split at a
  ·exact Ql4 h f j _ (mem_range.1 c) n a
  cases a
theorem Qsd {c:Int} {C:Nat->Pc} (h:QY c C) (v:Int):∀ n,n ∈ QJ C v->0<=n.key/\n.key<=130:=λn a=>by
 rcases mem_cons.1 a with e|a
 ·rw [e];exact ⟨Int.le_refl _,by show (0:Int)<=130;omega⟩
 obtain ⟨j,b,a⟩:=mem_flatMap.1 a;split at a
 ·exact Ql4 h 5 j _ (mem_range.1 b) n a
 cases a
theorem QcR.keys {L:Nat->Qd} {c:Int} {C:Nat->Pc} (h:QY c C) {v:Int} (b:QcR L (QJ C v)):∀ i,i<(QJ C v).length->Qg (L i).k:=λi a=>by rw [(b i a).2.2.1];have:=Qsd h v _ (getElem_mem a);exact ⟨by omega,by omega⟩
structure Qbq (R:List RN) (last:Int) (C:Nat->Pc) (v:Int) (L:Nat->Qd):Prop where
 tree:JP R last L (QJ C v).length
 mat:QcR L (QJ C v)
theorem Qbq.root {R:List RN} {last:Int} {C:Nat->Pc} {v:Int} {L:Nat->Qd} (h:Qbq R last C v L):(Qc R 1).tag=⟨#[117,105]⟩/\(Qc R 1).key=0/\(Qc R 1).ats=[(⟨#[118]⟩,QZ v)]:=by
 have a:=h.tree.tree;have b:=h.tree.pos;have c:=h.mat 0 b;have e:(QJ C v)[0]'b=Qcu v:=rfl;rw [e] at c;obtain ⟨q,d,f,r,g,i,j⟩:=c
 have key:∀ n,0<n->Jm R L n 1 0 n->(Qc R 1).tag=(L 0).t/\(Qc R 1).key=(L 0).k/\(Qc R 1).ats=Zn (L 0):=λn l a=>by
  match n,a,l with
  | n+1,⟨_,h2,h3,_,h5,_⟩,_=>exact ⟨h2,h3,h5⟩
 obtain ⟨m,o,p⟩:=key _ b a;refine ⟨m.trans d,o.trans f,p.trans ?_⟩;unfold Zn;rw [g,i,j];rfl
theorem Qbq.few {R:List RN} {last:Int} {C:Nat->Pc} {v d:Int} {L:Nat->Qd} (h:Qbq R last C v L) (b:QY d C):R.length<=341:=by obtain ⟨r,c,a,_⟩:=Qiw h.tree.ok;rw [(h.tree.tells c a).2.2.2];exact Qd9 b v
theorem Qll {L:Nat->Qd} {n:Nat} (c:0<n) (b:n<=400) (h:∀ i,i<n->QQ L i=true):J8 (QQ L) n=(0,0):=by
 unfold J8;rw [if_neg (by omega)];unfold QcM;have:(List.range n).find? (λi=>!QQ L i)=none:=by rw [find?_eq_none];intro i a;rw [h i (mem_range.1 a)];simp
 rw [this]
structure Qgc (R:List RN) (last:Int) (C:Nat->Pc) (v:Nat) (L:Nat->Qd) (R':List RN) (last':Int):Prop where
 err:QaS R L (QJ C v).length=(0,0)
 run:Zv R last (Qa4 R last L (QJ C v).length) R' last'
 is:Qbq R' last' C v L
 lo:last<=last'
 hi:last'<=last+341
 keep:Qba R' (Qc R) L (QJ C v).length 1 (Qc R 1).kids 0 (QJ C v).length
 some:1<=(Qa4 R last L (QJ C v).length).length
 few:(Qa4 R last L (QJ C v).length).length<=400000
theorem Qm3 {R:List RN} {last:Int} {m:Nat->Pc} {n:Nat} {y:Nat->Qd} {z P:Int} (h:Qbq R last m n y) (u:QY z m) {C:Nat->Pc} (o:QY P C) {v:Nat} (A:v≠n) (S:v<1000000) {L:Nat->Qd} (d:QcR L (QJ C v)):∃ R' b,Qgc R last C v L R' b:=by
 obtain ⟨B,D,E⟩:=h.root;have x:Qg (v:Int):=⟨by omega,by omega⟩;have c:=Qid o x d;have T:=Qd9 o (v:Int);have a:0<(QJ C v).length:=by unfold QJ;simp
 have p:=d 0 a;have e:(QJ C v)[0]'a=Qcu v:=rfl;rw [e] at p;obtain ⟨U,F,G,V,W,X,Y⟩:=p;have a0:=h.few u;have q:(Qc R 1).tag=(L 0).t:=B.trans F.symm;have r:(Qc R 1).key=(L 0).k:=D.trans G.symm;obtain ⟨R',b,f,H,I,a1,J⟩:=h.tree.diff (by omega) a (by omega) c q r;have g:=QgW (R:=R) (by omega) h.tree.ats;have j:=(Qek (L:=L) g (QJ C v).length 1 (Qc R 1) 0 (QJ C v).length last (g 1).1 (g 1).2 a (Nat.le_refl _) (λi K=>by rw [Nat.zero_add];exact (Qa0 (Qat (c i K))).1)).1;have j:(Qa4 R last L (QJ C v).length).length+2<=1020*(QJ C v).length:=j;have l:Qbq R' b C v L:=⟨H,d⟩;refine ⟨R',b,?_,f,l,I,by omega,J,?_,by omega⟩
 ·unfold QaS;rw [Qll a (by omega) c,if_pos rfl,q,r];simp;omega
 rcases Nat.eq_zero_or_pos (Qa4 R last L (QJ C v).length).length with e|e
 ·exfalso;rw [length_eq_zero_iff.1 e] at f;have M:=(Qls f).2;have N:R=R':=congrArg Prod.fst M;have s:=l.root.2.2;rw [<- N,E] at s;have O:=congrArg Prod.snd (List.cons.inj s).1;exact A (Qt6 O).symm
 exact e
theorem QA.lt {a:Qu} {w:World} {u:Nat} {S:Us} (h:QA a w u S):u<w.heap.size:=h.cs.lt
theorem QA.fold {c b:Qu} {w w':World} {u:Nat} {S:Us} {d:Nat->Cm} (h:QA c w u S) (f:S.T.length<=10) (a:Jd c w u 5 b w' d):QA b w' u { S with C:=d }/\QB c b w w':=by have m:Mv c b (λr=>r=0 \/ (30<=r/\r<51)) w w':=⟨a.far,a.old,a.cs.low⟩;refine ⟨⟨(a.rest _ (by omega)).trans h.c0,h.ta,(a.rest _ (by omega)).trans h.c1,(a.rest _ (by omega)).trans h.c2,(a.rest _ (by omega)).trans h.c3,(a.rest _ (by omega)).trans h.c4,(a.rest _ (by omega)).trans h.c5,(a.rest _ (by omega)).trans h.c6,(a.rest _ (by omega)).trans h.c7,a.cs,h.ts.mv m h.cs.low (by omega) (by intro r _ _;omega) f,h.rl.mv m h.cs.low (by omega),h.rb.mv m h.cs.low (by omega),h.re.mv m h.cs.low (by omega),h.rc.mv m h.cs.low (by omega),h.dc.mv m h.cs.low (by omega),h.gl.mv m h.g0 h.g1,(a.old 0 h.gl.pos).trans h.g0,(a.old 1 h.gl.two).trans h.g1⟩,m.out⟩
theorem QlD {a:Qu} {w:World} {u j:Nat} {S:Us} (h:QA a w u S) (v:Value):Mv a a (λr=>r=0) w (w.setCell ⟨u,j,none⟩ v) := ⟨(⟨rfl,rfl,rfl,Nat.le_refl _,λ_ _ _=>rfl⟩:Qx _ w w).set (.inl ⟨0,h.cs.role,rfl⟩) v,λ_ _=>rfl,λb e=>by have:=h.cs.low b e;simpa [World.setCell] using this⟩
theorem Z8 (w:World) (u j k:Nat) (v:Value) (h:k≠j):(w.setCell ⟨u,j,none⟩ v).cell? ⟨u,k,none⟩=w.cell? ⟨u,k,none⟩:=World.cell?_setCell_other _ _ _ _ (by intro e;cases e;exact h rfl)
theorem QA.empty {c:Qu} {w:World} {u:Nat} {S:Us} (h:QA c w u S) (d:S.T.length<=10):QA c (w.setCell ⟨u,4,none⟩ (.slice none 0 0)) u { S with bt:=[],bv:=.slice none 0 0 }:=by have m:=QlD (j:=4) h (.slice none 0 0);have a:∀ k,k≠4->(w.setCell ⟨u,4,none⟩ (.slice none 0 0)).cell? ⟨u,k,none⟩=w.cell? ⟨u,k,none⟩:=λk f=>Z8 w u 4 k _ f;exact ⟨(a _ (by omega)).trans h.c0,h.ta,(a _ (by omega)).trans h.c1,(a _ (by omega)).trans h.c2,(a _ (by omega)).trans h.c3,World.cell?_setCell_same _ _ _ h.c4,(a _ (by omega)).trans h.c5,(a _ (by omega)).trans h.c6,(a _ (by omega)).trans h.c7,h.cs.mv m (by intro k _;omega) (λj g i=>a _ (by omega)) (λj=>World.frozen?_setCell ..),h.ts.mv m h.cs.low (by omega) (by intro r _ _;omega) d,h.rl.mv m h.cs.low (by omega),⟨World.ownsRow_nil _ _ _ _,λb e=>by cases e⟩,h.re.mv m h.cs.low (by omega),h.rc.mv m h.cs.low (by omega),h.dc.mv m h.cs.low (by omega),h.gl.mv m h.g0 h.g1,h.g0,h.g1⟩
theorem QA.doc {c:Qu} {w w':World} {u:Nat} {S:Us} (h:QA c w u S) (p:S.T.length<=10) {ρ':Qo} {f:Int->Nat} {R':List RN} {i:Int} (g:QV S.D.ρ ρ' w w') (n:Qi ρ' f S.D.mb (some (f 1)) w' S.D.q R' i):∃ l,QB c l w w'/\QA l w' u { S with D:=⟨ρ',f,S.D.mb,S.D.q,R',i⟩ }:=by
 have s:=g.1.size;have m:Mv c (λb=>if b<w.heap.size then c b else if (ρ' b).isSome then some 100 else none) (λr=>r=100) w w':=by
  refine ⟨g.1.mono λb _ e=>⟨100,h.dc.role b e,rfl⟩,λb hb=>if_pos hb,λb e=>?_⟩;by_cases hb:b<w.heap.size
  ·omega
  simp only [if_neg hb] at e;by_cases d:(ρ' b).isSome=true
  ·exact n.low b d
  rw [if_neg d] at e;cases e
 have o:w'.heap[u]?=w.heap[u]?:=m.block h.lt h.cs.role (by omega);have a:∀ k,w'.cell? ⟨u,k,none⟩=w.cell? ⟨u,k,none⟩:=λk=>World.cell?_of_block o;refine ⟨_,m.out,⟨(a _).trans h.c0,h.ta,(a _).trans h.c1,(a _).trans h.c2,(a _).trans h.c3,(a _).trans h.c4,(a _).trans h.c5,(a _).trans h.c6,(a _).trans h.c7,h.cs.mv m (by intro k _;omega) (λj _ _=>a j) (λj=>World.frozen?_of_block o),h.ts.mv m h.cs.low (by omega) (by intro r _ _;omega) p,h.rl.mv m h.cs.low (by omega),h.rb.mv m h.cs.low (by omega),h.re.mv m h.cs.low (by omega),h.rc.mv m h.cs.low (by omega),⟨n,λb e=>?_⟩,h.gl.mv m h.g0 h.g1,(m.old 0 h.gl.pos).trans h.g0,(m.old 1 h.gl.two).trans h.g1⟩⟩;rcases g.2.2 b e with d|d
 ·have:=h.dc.role b d;show (if b<w.heap.size then c b else _)=_;rw [if_pos (h.cs.low b (by rw [this];rfl))];exact this
 show (if b<w.heap.size then c b else if (ρ' b).isSome then some 100 else none)=_;rw [if_neg (by omega),if_pos e]
theorem Qme {f:Qu} {w w2:World} {u j r:Nat} {S:Us} (h:QA f w u S) {A:Obj} {v a:Value} {e:TypeId} {size n:Nat} {xs:List Value} (g:∀ b,v.ownBlock=some b->f b=some r) (d:Zl (w.alloc A) w2 v a) (q:w2.ownsRow 0 e size a n xs) (t:r≠0) : ∃ m,Mv f m (λs=>s=0 \/ s=r) w (w2.setCell ⟨u,j,none⟩ a)/\(∀ b,a.ownBlock=some b->m b=some r)/\(w2.setCell ⟨u,j,none⟩ a).ownsRow 0 e size a n xs/\(∀ k,k≠j->(w2.setCell ⟨u,j,none⟩ a).cell? ⟨u,k,none⟩=w.cell? ⟨u,k,none⟩)/\(∀ k,(w2.setCell ⟨u,j,none⟩ a).frozen? ⟨u,k,none⟩=w.frozen? ⟨u,k,none⟩)/\((∃ x,w.cell? ⟨u,j,none⟩=some x)->(w2.setCell ⟨u,j,none⟩ a).cell? ⟨u,j,none⟩=some a):=by
 have o:=(Below.refl w.heap.size w).alloc (Nat.le_refl _) A;have F:w.heap.size+1<=w2.heap.size:=by have:=d.size;simpa using this
 have y:v.ownBlock≠some u:=λe=>by have:=g u e;rw [h.cs.role] at this;exact t (Option.some.inj this).symm
 have i:w2.heap[u]?=w.heap[u]?:=(d.by.block u (by have:=h.lt;simp;omega) λe=>y e.symm).trans (o.block u h.lt);have p:∀ b,a.ownBlock=some b->f b=some r \/ w.heap.size<=b:=λb e=>by
  rcases d.at with c|c
  ·exact .inl (g b (c▸e))
  rw [e] at c;have:=Option.some.inj c;exact .inr (by simp at this;omega)
 have z:∀ b,a.ownBlock=some b->b≠u:=λb e c=>by
  rcases p b e with l|l
  ·rw [c,h.cs.role] at l;exact t (Option.some.inj l).symm
  have:=h.lt;omega
 refine ⟨λb=>if b<w.heap.size then f b else if a.ownBlock=some b then some r else none,⟨?_,λb hb=>if_pos hb,λb e=>?_⟩,λb e=>?_,QT q λb e=>Below.heap_setCell _ _ _ _ (z b e),λk C=>(Z8 _ _ _ _ _ C).trans (World.cell?_of_block i),λk=>(World.frozen?_setCell ..).trans (World.frozen?_of_block i),λ⟨x,D⟩=>World.cell?_setCell_same _ _ _ ((World.cell?_of_block i).trans D)⟩
 ·refine Qx.set ?_ (.inl ⟨0,h.cs.role,.inl rfl⟩) _;refine ⟨d.by.os,d.by.tape,d.by.output,by omega,λb hb E=>?_⟩;refine (d.by.block b (by simp;omega) λe=>?_).trans (o.block b hb);exact E ⟨r,g b e.symm,.inr rfl⟩
 ·have B:(w2.setCell ⟨u,j,none⟩ a).heap.size=w2.heap.size:=by simp [World.setCell]
  rw [B];by_cases hb:b<w.heap.size
  ·omega
  simp only [if_neg hb] at e;by_cases c:a.ownBlock=some b
  ·exact (q.lt b c).2
  rw [if_neg c] at e;cases e
 show (if b<w.heap.size then f b else if a.ownBlock=some b then some r else none)=_;rcases p b e with c|c
 ·rw [if_pos (h.cs.low b (by rw [c];rfl))];exact c
 rw [if_neg (by omega),if_pos e]
theorem QA.com {g:Qu} {w w2:World} {u:Nat} {S:Us} (h:QA g w u S) (i:S.T.length<=10) {A:Obj} {b:Value} (x c:Int) (l:Zl (w.alloc A) w2 S.vc b) (n:w2.ownsRow 0 69 2 b (S.cm.length+1) (JN S.cm++[.int .i64 x,.int .i64 c])):∃ d,QB g d w (w2.setCell ⟨u,154,none⟩ b)/\QA d (w2.setCell ⟨u,154,none⟩ b) u { S with cm:=S.cm++[(x,c)],vc:=b }:=by
 obtain ⟨d,m,o,p,a,f,s⟩:=Qme (j:=154) h h.rc.role l n (by omega);refine ⟨d,m.out,⟨(a _ (by omega)).trans h.c0,h.ta,(a _ (by omega)).trans h.c1,(a _ (by omega)).trans h.c2,(a _ (by omega)).trans h.c3,(a _ (by omega)).trans h.c4,(a _ (by omega)).trans h.c5,(a _ (by omega)).trans h.c6,s ⟨_,h.c7⟩,h.cs.mv m (by intro k _;omega) (λj q t=>a _ (by omega)) f,h.ts.mv m h.cs.low (by omega) (by intro r _ _;omega) i,h.rl.mv m h.cs.low (by omega),h.rb.mv m h.cs.low (by omega),h.re.mv m h.cs.low (by omega),⟨?_,o⟩,h.dc.mv m h.cs.low (by omega),h.gl.mv m h.g0 h.g1,(m.old 0 h.gl.pos).trans h.g0,(m.old 1 h.gl.two).trans h.g1⟩⟩;have e:JN (S.cm++[(x,c)])=JN S.cm++[.int .i64 x,.int .i64 c]:=by unfold JN;rw [flatMap_append];rfl
 show World.ownsRow _ 0 69 2 b (S.cm++[(x,c)]).length (JN (S.cm++[(x,c)]));rw [e,length_append];exact p
end Go.Proofs.YtobgcaemnpkbmaaGreatDoor
