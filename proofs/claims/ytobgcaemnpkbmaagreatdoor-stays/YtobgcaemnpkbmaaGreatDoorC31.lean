import Derived.Test.YtobgcaemnpkbmaaGreatDoorC30
import Derived.Shelf.RegionOpenPlain
namespace Go.Proofs.YtobgcaemnpkbmaaGreatDoor
set_option maxRecDepth 100000
set_option maxHeartbeats 8000000
open Go.RowKit Go.Conc List
def QH (a:List Qm):List Value:=a.flatMap Qm.cells
theorem Qmi (a:List Qm):(QH a).length=a.length*8:=by unfold QH;induction a with| nil=>rfl| cons x l ih=>rw [flatMap_cons,length_append,ih];simp [Qm.cells];omega
theorem Qlf (a:List Qm) (x:Qm):QH (a++[x])=QH a++x.cells:=by unfold QH;simp
theorem Qhy (a b:List Qm):QH (a++b)=QH a++QH b:=by unfold QH;simp
theorem Qlh (c:List Qm):∀ u ∈ QH c,u.oneCell'=true:=by intro u a;unfold QH at a;obtain ⟨x,_,b⟩:=mem_flatMap.1 a;simp [Qm.cells] at b;rcases b with rfl|rfl|rfl|rfl|rfl|rfl|rfl|rfl<;>rfl
theorem QeC:(Tryz.prog.info? 167).map (λi=>(i.zero,i.size,i.bytes))=some (some (.agg #[.int .i64 0,.int .i64 0,.int .i64 0,.int .i64 0,.int .i64 0,.int .i64 0,.int .i64 0,.int .i64 0]),8,64):=by kernel_rfl
structure Qfd (w:World) (C:Nat) (s r:Nat) (L:List Qm) (i:Nat) (lv:Value) (wr:World):Prop where
  chan:wr.heap[C]?=some (.chan 48 ((L.drop i).map Qm.val).toArray true s (r+i) false)
  row:wr.ownsRow w.heap.size 167 8 lv i (QH (L.take i))
  far:Qx (λx=>x=C) w wr
  le:i<=L.length
theorem Qp7 {w w':World} {b:Nat} {e:TypeId} {size:Nat} {v:Value} {n:Nat} {xs:List Value} (h:w.ownsRow b e size v n xs) (f:∀ g,b<=g->v.ownBlock=some g->w'.heap[g]?=w.heap[g]?):w'.ownsRow b e size v n xs:=by
 obtain ⟨i,a⟩:=h;refine ⟨i,?_⟩;rcases a with a|⟨g,cap,d,rfl,c,j,rest⟩
 ·exact .inl a
 exact .inr ⟨g,cap,d,rfl,c,(f g c rfl).trans j,rest⟩
theorem QfS {w:World} {a:Nat} {e:TypeId} {size:Nat} {v:Value} {n:Nat} {xs:List Value} (h:w.ownsRow a e size v n xs):∃ ao c,v=.slice ao n c:=by
 obtain ⟨_,h⟩:=h;rcases h with ⟨rfl,rfl⟩|⟨g,cap,_,rfl,_⟩
 ·exact ⟨none,0,rfl⟩
 exact ⟨_,cap,rfl⟩
structure QgM (w:World) (C:Nat) (s r:Nat) (L:List Qm) (i:Nat) (x:Qm) (lv:Value) (wr:World):Prop where
  chan:wr.heap[C]?=some (.chan 48 ((L.drop (i+1)).map Qm.val).toArray true s (r+(i+1)) false)
  row:wr.ownsRow w.heap.size 167 8 lv i (QH (L.take i))
  far:Qx (λx=>x=C) w wr
  lt:i<L.length
  snoc:QH (L.take (i+1))=QH (L.take i)++x.cells
theorem Qfd.recv {w:World} {C s r:Nat} {L:List Qm} {i:Nat} {lv:Value} {wr:World} (h:Qfd w C s r L i lv wr) {x:Qm} (d:L.drop i=x::L.drop (i+1)) (a:i<L.length) (j:C<w.heap.size) : QgM w C s r L i x lv (wr.setChan C 48 ((x.val::List.map Qm.val (List.drop (i+1) L)).toArray.extract 1 (x.val::List.map Qm.val (List.drop (i+1) L)).toArray.size) true s (r+i+1) false):=by
 have c:=h.far.size;refine ⟨?_,Qp7 h.row λg m _=>Qed _ _ _ _ _ _ _ _ (by omega),⟨h.far.os,h.far.tape,h.far.output,by rw [size_setChan];exact c,λk f b=>(Qed _ _ _ _ _ _ _ _ b).trans (h.far.block k f b)⟩,a,?_⟩
 ·rw [heap_setChan _ _ _ _ _ _ _ _ (by omega)];have e:(x.val::List.map Qm.val (List.drop (i+1) L)).toArray.extract 1 (x.val::List.map Qm.val (List.drop (i+1) L)).toArray.size=(List.map Qm.val (List.drop (i+1) L)).toArray:=by generalize List.map Qm.val (List.drop (i+1) L)=l;apply Array.ext';simp
  rw [e,Nat.add_assoc]
 have e:L[i]=x:=by have:=drop_eq_getElem_cons a;rw [d] at this;exact (List.cons.inj this).1.symm
 rw [take_succ_eq_append_getElem a,e,Qlf]
theorem QgM.app {w:World} {C s r:Nat} {L:List Qm} {i:Nat} {x:Qm} {lv b:Value} {wr w1:World} {A f:Obj} (h:QgM w C s r L i x lv wr) (j:w1.ownsRow w.heap.size 167 8 b (i+1) (QH (L.take i)++x.cells)) (a:Zl ((wr.alloc A).alloc f) w1 lv b) (l:C<w.heap.size) : Qfd w C s r L (i+1) b w1:=by have hb:Below wr.heap.size wr ((wr.alloc A).alloc f):=((Below.refl _ _).alloc (Nat.le_refl _) _).alloc (by simp) _;have g:=h.far.size;have c:∀ k,k<w.heap.size->w1.heap[k]?=wr.heap[k]?:=λk c=>(a.by.block k (by simp;omega) (λe=>by have:=(h.row.lt k e.symm).1;omega)).trans (hb.block k (by omega));refine ⟨(c C l).trans h.chan,?_,⟨a.by.os.trans h.far.os,a.by.tape.trans h.far.tape,a.by.output.trans h.far.output,Nat.le_trans g (Nat.le_trans hb.size a.size),λk d m=>(c k d).trans (h.far.block k d m)⟩,h.lt⟩;rw [h.snoc];exact j
theorem QlC (a1:FrameMode) (u d C s r:Nat) (L M:List Qm) (ao:Option Addr) (m c:Nat) (w:World) (F:w.heap[C]?=some (.chan 48 (L.map Qm.val).toArray false s r false)) (aE:L.length<=48) (aF:M.length<=48) (a2:w.cell? ⟨u,d+2,none⟩=some (.slice ao m c)) (a3:w.frozen? ⟨u,d+2,none⟩=false) (ak:m=M.length) (O:ao=none->m=0/\c=0) (J:∀ a,ao=some a->a.block≠C/\a.block<w.heap.size/\∀ j v,(QH M)[j]?=some v->w.cell? (a.add j)=some v) (R:u≠C) (G:u<w.heap.size) : CallsD Tryz.prog 76 #[.pointer (some ⟨u,d,none⟩),.chan (some C)] a1 w λe ai w'=>ai=a1/\e=.returned (.tuple #[])/\∃ n w2,w'=w2.setCell ⟨u,d+2,none⟩ n/\w2.ownsRow w.heap.size 167 8 n (L.length+M.length) (QH (L++M))/\Qx (λx=>x=C) w w2:=by
 subst ak;have al:=Qa O;clear O;have aj:=λats ap=>run_close_open (P:=Tryz.prog) (w:=w) ats ap F;have D:C<w.heap.size:=(Array.getElem?_eq_some_iff.1 F).1;have a4:Hid (Qfd w C s r L 0 (.slice none 0 0) ({ w with heap:=w.heap.setIfInBounds C (.chan 48 (L.map Qm.val).toArray true s r false) }:World)):=Qa <| by refine ⟨?_,⟨by simp [QH],.inl ⟨rfl,rfl⟩⟩,⟨rfl,rfl,rfl,by simp,λk a5 a6=>by show (w.heap.setIfInBounds C _)[k]?=_;rw [Array.getElem?_setIfInBounds_ne (by omega)]⟩,Nat.zero_le _⟩;show (w.heap.setIfInBounds C _)[C]?=_;rw [Array.getElem?_setIfInBounds_self_of_lt D];simp
 refine Qub Tryz.func76 rfl ?_;simp only [Tryz.ntmps76,size_toArray,length_cons,length_nil,Nat.reduceAdd,Nat.reduceSub,Array.replicate_succ, Array.replicate_zero,List.push_toArray,List.append_toArray,nil_append,cons_append];refine Js λah a7=>?_;go_wp2_with fail;clear aj;generalize ({ w with heap:=w.heap.setIfInBounds C (.chan 48 (L.map Qm.val).toArray true s r false) }:World)=aG at *;refine Js λah a7=>?_;go_wp2_with fail;refine QaB (Js λah a7=>?_);go_wp2_with fail;refine QdE (Qhx (λk a wr=>∃ lv a8 a9 aa S T U V W,a=⟨#[.pointer (some ⟨u,d,none⟩),.chan (some C),undef,undef,lv,a8,.chan (some C),.chan (some C),a9,aa,S,T,U,V,W,undef,undef,undef,undef,undef,undef,undef,undef,undef],[]⟩/\∃ i,k=L.length+1-i/\Hid (Qfd w C s r L i lv wr)) (L.length+1) ⟨_,_,_,_,_,_,_,_,_,rfl,0,rfl,a4⟩ ?_);clear a4;rintro k a wr ⟨lv,a8,a9,aa,S,T,U,V,W,rfl,i,rfl,f⟩;obtain ⟨ab,q,o,X,Y⟩:=info_parts QeC;by_cases l:i<L.length
 ·obtain ⟨x,H⟩:∃ x,L.drop i=x::L.drop (i+1):=⟨L[i],drop_eq_getElem_cons l⟩;have h:=f.out.chan;rw [H,map_cons] at h;have ac:=Qa H;have ad:=Qa l;clear H l;refine QaB (Qez ?_);simp only [size_toArray,length_cons,length_nil,Nat.reduceAdd,List.range,List.range.loop];refine QsG (z:=(.agg #[.int .i64 0,.int .i64 0,.int .i64 0,.int .i64 0,.int .i64 0,.int .i64 0,.int .i64 0,.int .i64 0])) true rfl rfl (by simp [go_sem,execOp,rcase,Act.eval,zeroValue,typeInfo,q,o,run_underlying Tryz.underlying163]) h (by simp) ?_;simp only [getElem_toArray,getElem_cons_zero,Act.put,setIfInBounds_toArray,set_cons_zero,set_cons_succ,got,if_true];have ae:(x.val::List.map Qm.val (L.drop (i+1))).toArray.getD 0 undef=x.val:=by simp
  rw [ae];apply QeT ?_ ?_;rotate_left
  ·go_simp;try (with_reducible rfl)
  simp only [getElem_toArray,getElem_cons_zero,getElem_cons_succ,Act.put,setIfInBounds_toArray,set_cons_zero,set_cons_succ];refine Qev ?_;show ZR _ _ _ _ _;have I:=Qa (f.out.recv ac.out ad.out D);clear f ac h ae;generalize wr.setChan C 48 ((x.val::List.map Qm.val (List.drop (i+1) L)).toArray.extract 1 (x.val::List.map Qm.val (List.drop (i+1) L)).toArray.size) true s (r+i+1) false=w2 at *;refine QaB (QcV (t:=true) rfl ?_);simp only [if_true];refine .of (wp_skip ?_);show ZR _ _ _ _ _;refine .of ?_;have K:∀ a,some (⟨w2.heap.size+1,0,none⟩:Addr)=some a->∀ j u,x.cells[j]?=some u->((w2.alloc (.cells x.cells.toArray 167)).alloc (.cells x.cells.toArray 167)).cell? (a.add j)=some u:=by have:=Z9 (w2.alloc (.cells x.cells.toArray 167)) x.cells.toArray 167;simpa using this
  have N:∀ u ∈ x.cells,u.oneCell'=true:=by intro aJ af;simp [Qm.cells] at af;rcases af with rfl|rfl|rfl|rfl|rfl|rfl|rfl|rfl<;>rfl
  have l:=ad.out;have B:=I.out.far.size;have aq:=Qa K;have ar:=Qa N;clear K N;simp only [Qm.val,Qm.cells];go_wp2_with ((at_builtin;refine Jf _ rfl (.tmp 11) (.tmp 13) 100 rfl w.heap.size 167 ab _ 8 64 Tryz.underlying100 q o X Y rfl lv i _ rfl ((I.out.row.alloc _).alloc _) (some ⟨w2.heap.size+1,0,none⟩) 1 1 x.cells rfl (by simp) rfl aq.out ar.out (by omega) (by omega) (by simp;omega) ?_;intro n w1 p b _));exact ⟨L.length+1-(i+1),by omega,n,_,_,_,_,_,_,_,_,rfl,i+1,rfl,Qa (I.out.app p.out b.out D)⟩
 have h:=f.out.chan;rw [List.drop_eq_nil_of_le (by omega)] at h;have a0:i=L.length:=by have:=f.out.le;omega
 refine QaB (Qez ?_);simp only [size_toArray,length_cons,length_nil,Nat.reduceAdd,List.range,List.range.loop];refine Qqp (z:=(.agg #[.int .i64 0,.int .i64 0,.int .i64 0,.int .i64 0,.int .i64 0,.int .i64 0,.int .i64 0,.int .i64 0])) true rfl rfl (by simp [go_sem,execOp,rcase,Act.eval,zeroValue,typeInfo,q,o,run_underlying Tryz.underlying163]) h ?_;simp only [getElem_toArray,getElem_cons_zero,Act.put,setIfInBounds_toArray,set_cons_zero,set_cons_succ,got,if_true];apply QeT ?_ ?_;rotate_left
 ·go_simp;try (with_reducible rfl)
 simp only [getElem_toArray,getElem_cons_zero,getElem_cons_succ,Act.put,setIfInBounds_toArray,set_cons_zero,set_cons_succ];refine Qev ?_;show ZR _ _ _ _ _;refine QaB (QcV (t:=false) rfl ?_);simp only [if_false,Bool.false_eq_true];refine .of (wp_exit ?_);show ZR _ _ _ _ _;have E:=f.out.row;have g:=f.out.far;rw [a0,take_length] at E;have au:wr.cell? ⟨u,d+2,none⟩=some (.slice ao M.length c):=(World.cell?_of_block (g.block u G R)).trans a2;have av:wr.frozen? ⟨u,d+2,none⟩=false:=(World.frozen?_of_block (g.block u G R)).trans a3;have aw:Hid (∀ a,ao=some a->∀ j v,(QH M)[j]?=some v->wr.cell? (a.add j)=some v):=Qa λa ax j v ay=>by
  obtain ⟨az,aA,aB⟩:=J a ax;refine (World.cell?_of_block ?_).trans (aB j v ay);have e:(a.add j).block=a.block:=by unfold Addr.add;split<;>rfl
  rw [e];exact g.block a.block aA az
 have y:=Qa E;have A:=Qa g;have ag:u<wr.heap.size:=Nat.lt_of_lt_of_le G g.size;have B:=g.size;clear J E g f h a0 l a2 a3 F;refine .of ?_;go_wp2_with ((at_builtin;refine Jf _ rfl (.tmp 16) (.tmp 20) 100 rfl w.heap.size 167 ab _ 8 64 Tryz.underlying100 q o X Y rfl lv L.length _ rfl y.out ao M.length c (QH M) rfl al.out (Qmi M) aw.out (Qlh M) (by omega) (by omega) B ?_;intro n w1 p b _;obtain ⟨aH,aI,rfl⟩:=QfS p.out;have aC:w1.frozen? ⟨u,d+2,none⟩=false:=(World.frozen?_of_block (b.out.by.block u ag (λe=>by have:=(y.out.lt u e.symm).1;omega))).trans av;have aD:w1.cell? ⟨u,d+2,none⟩=some (.slice ao M.length c):=(World.cell?_of_block (b.out.by.block u ag (λe=>by have:=(y.out.lt u e.symm).1;omega))).trans au));refine bodyPost_end (results_none rfl _ _ _) rfl ?_;refine ⟨rfl,_,w1,rfl,?_,?_⟩
 ·rw [Qhy];exact p.out
 exact ⟨b.out.by.os.trans A.out.os,b.out.by.tape.trans A.out.tape,b.out.by.output.trans A.out.output,Nat.le_trans B b.out.size,λk a5 a6=>(b.out.by.block k (by omega) (λe=>by have:=(y.out.lt k e.symm).1;omega)).trans (A.out.block k a5 a6)⟩
def JC (xs:List Int):List Value:=xs.map λx=>.int .i64 x
theorem QmA {w:World} {d:Nat} {ao:Option Addr} {n c:Nat} {xs:List Int} (h:w.ownsRow d 3 1 (.slice ao n c) n (JC xs)):QbN w ao xs:=λj x a=>by
 have k:j<n:=by have i:=h.1;have b:=(List.getElem?_eq_some_iff.1 a).1;rw [JC,length_map] at i;omega
 obtain ⟨_,b⟩:=h;rcases b with ⟨_,e⟩|⟨g,cap,f,e,_⟩
 ·omega
 cases e;refine ⟨g,rfl,?_⟩;have:=World.ownsRow.cellAt (w:=w) (base:=d) (e:=3) (size:=1) (g:=g) (n:=n) (cap:=c) (xs:=JC xs) ⟨by assumption,.inr ⟨g,c,f,rfl,by assumption⟩⟩ j (by omega);rw [this,JC,getElem?_map,a];rfl
theorem Qqg (b q:Nat) (v:Int) (ao:Option Addr) (n c:Nat) (xs:List Int) (w:World) (j:w.cell? ⟨b,q+6,none⟩=some (.slice ao n c)) (d:n=xs.length) (k:n<=8) (h:QbN w ao xs) (hb:(!xs.contains v&&decide (n<8))=false) : Calls Tryz.prog 154 #[.pointer (some ⟨b,q,none⟩),.int .i64 v] w λe w'=>e=.returned (.tuple #[])/\w'=w:=by
 have f:=Qa (Qma ao n c xs v w d (by omega) h);clear h d;generalize xs.contains v=r at *;cases r with
 | true =>clear hb;go_enter Tryz.func154,Tryz.ntmps154;go_wp2_with (go_at_call 171;refine f.out.mono ?_;rintro e w1 ⟨rfl,a⟩;rw [a];clear a);refine bodyPost_end (results_none rfl _ _ _) rfl ?_;exact ⟨rfl,rfl⟩
 | false =>
  rw [Bool.not_false,Bool.true_and] at hb;have i:¬ n<8:=of_decide_eq_false hb;have g:n=8:=by omega
  subst g;clear hb i;go_enter Tryz.func154,Tryz.ntmps154;go_wp2_with (go_at_call 171;refine f.out.mono ?_;rintro e w1 ⟨rfl,a⟩;rw [a];clear a);refine bodyPost_end (results_none rfl _ _ _) rfl ?_;exact ⟨rfl,rfl⟩
theorem QsX (b q d:Nat) (v:Int) (ao:Option Addr) (n c:Nat) (xs:List Int) (w:World) (u:w.cell? ⟨b,q+6,none⟩=some (.slice ao n c)) (x:w.frozen? ⟨b,q+6,none⟩=false) (l:n=xs.length) (C:n<8) (h:w.ownsRow d 3 1 (.slice ao n c) n (JC xs)) (m:xs.contains v=false) (D:d<=w.heap.size) (hb:b<w.heap.size) (g:Value.ownBlock (.slice ao n c)≠some b) : Calls Tryz.prog 154 #[.pointer (some ⟨b,q,none⟩),.int .i64 v] w λe w'=>e=.returned (.tuple #[])/\∃ a w2 A,w'=w2.setCell ⟨b,q+6,none⟩ a/\w2.ownsRow d 3 1 a (n+1) (JC (xs++[v]))/\Zl (w.alloc A) w2 (.slice ao n c) a:=by
 obtain ⟨y,z,r,s,t⟩:=info_parts Qds;have o:=Qa (Qma ao n c xs v w l (by omega) (QmA h));have B:=Qa h;have i:=Qa g;rw [m] at o;clear h l m g;go_enter Tryz.func154,Tryz.ntmps154;go_wp2_with (first|(go_at_call 171;refine o.out.mono ?_;rintro e w1 ⟨rfl,j⟩;rw [j];clear j)|(at_builtin;refine Jf _ rfl (.tmp 23) (.tmp 25) 23 rfl d 3 y (.int .i64 0) 1 8 Tryz.underlying23 z r s t rfl (.slice ao n c) n _ rfl (B.out.alloc _) (some ⟨w.heap.size,0,none⟩) 1 1 [.int .i64 v] rfl (by simp) rfl (Z9 _ _ _) (by simp [Value.oneCell']) (by omega) (by omega) (by simp;omega) ?_;intro a w2 k f _;obtain ⟨E,F,rfl⟩:=QfS k.out;have G:w2.frozen? ⟨b,q+6,none⟩=false:=((World.frozen?_of_block (f.out.by.block b (by simp;omega) (λe=>i.out e.symm))).trans (((Below.refl _ _).alloc (Nat.le_refl _) _).frozen (p:=⟨b,q+6,none⟩) hb)).trans x;have H:w2.cell? ⟨b,q+6,none⟩=some (.slice ao n c):=((World.cell?_of_block (f.out.by.block b (by simp;omega) (λe=>i.out e.symm))).trans (((Below.refl _ _).alloc (Nat.le_refl _) _).cell (p:=⟨b,q+6,none⟩) hb)).trans u));refine bodyPost_end (results_none rfl _ _ _) rfl ?_;refine ⟨rfl,_,w2,_,rfl,?_,f.out⟩;have e:JC (xs++[v])=JC xs++[.int .i64 v]:=by unfold JC;simp
 rw [e];exact k.out
theorem Qnt (b q:Nat) (i j:Int) (ao:Option Addr) (c:Nat) (w:World) (a:w.cell? ⟨b,q+6,none⟩=some (.slice ao 0 c)) : Calls Tryz.prog 156 #[.pointer (some ⟨b,q,none⟩),.int .i64 i,.int .i64 j] w λe w'=>e=.returned (.tuple #[])/\w'=w:=by go_enter Tryz.func156,Tryz.ntmps156;go_wp2;refine bodyPost_end (results_none rfl _ _ _) rfl ?_;exact ⟨rfl,rfl⟩
theorem Qpr (b q g n c:Nat) (i j:Int) (a d:Nat) (x l:Int) (w:World) (u:w.cell? ⟨b,q+6,none⟩=some (.slice (some ⟨g,0,none⟩) (n+1) c)) (v:Int.tmod i ((n:Int)+1)=a) (y:Int.tmod j ((n:Int)+1)=d) (s:a<=n) (t:d<=n) (p:w.cell? ⟨g,a,none⟩=some (.int .i64 x)) (f:w.cell? ⟨g,d,none⟩=some (.int .i64 l)) (h:∀ k,w.frozen? ⟨g,k,none⟩=false) (z:n<100) : Calls Tryz.prog 156 #[.pointer (some ⟨b,q,none⟩),.int .i64 i,.int .i64 j] w λe w'=>e=.returned (.tuple #[])/\∃ k,w'=((w.drewN k).setCell ⟨g,a,none⟩ (.int .i64 l)).setCell ⟨g,d,none⟩ (.int .i64 x):=by
 have A:(0:Int)<=(a:Int):=by omega
 have B:(a:Int)<(n:Int)+1:=by omega
 have C:(0:Int)<=(d:Int):=by omega
 have D:(d:Int)<(n:Int)+1:=by omega
 have E:=h a;have r:=h d;clear h;by_cases m:a=d
 ·subst m;have o:x=l:=by rw [p] at f;cases f;rfl
  subst o;clear f r;go_enter Tryz.func156,Tryz.ntmps156;go_wp2;go_big_quiet (fail);go_wp2_with fail;go_region;refine bodyPost_end (results_none rfl _ _ _) rfl ?_;exact ⟨rfl,_,rfl⟩
 go_enter Tryz.func156,Tryz.ntmps156;go_wp2;go_big_quiet (fail);go_wp2_with fail;go_region;refine bodyPost_end (results_none rfl _ _ _) rfl ?_;exact ⟨rfl,_,rfl⟩
theorem QkI (m x:Int) (h:Nat) (w:World) (a:w.cell? ⟨h,0,none⟩=some (.int .i64 x)) : Calls Tryz.prog 185 #[.int .i64 m,.pointer (some ⟨h,0,none⟩)] w λe w'=>e=.returned (.bool (m==x))/\w'=w:=by go_enter Tryz.func185,Tryz.ntmps185;go_wp2;go_ret;exact ⟨rfl,rfl⟩
theorem Qmw (ao:Option Addr) (n c:Nat) (xs:List Int) (x:Int) (h:Nat) (w:World) (B:n=xs.length) (L:n<=1000000) (u:QbN w ao xs) (C:w.cell? ⟨h,0,none⟩=some (.int .i64 x)) (k:Nat) (M:k<=n) (t:∀ s,s ∈ xs.take k->s≠x) (v:k<n->xs[k]?=some x) (r:Int) (D:(k<n->r=k)/\(¬ k<n->r=-1)) : Calls Tryz.prog 173 #[.slice ao n c,.func (.func 185) #[] #[.pointer (some ⟨h,0,none⟩)]] w λe w'=>e=.returned (.int .i64 r)/\w'=w:=by
 have f:Hid (∀ m,Calls Tryz.prog 185 #[.int .i64 m,.pointer (some ⟨h,0,none⟩)] w λe w'=>e=.returned (.bool (m==x))/\w'=w):=Qa λm=>QkI m x h w C;have I:=Qa B;have l:=Qa u;have p:=Qa t;have q:=Qa v;have E:=Qa D;clear B u t v C D;go_enter Tryz.func173,Tryz.ntmps173;go_wp2;go_loopw [8] (λi wr=>wr=w/\∃ j:Nat,j<=k/\i=.int .i64 j) (λi _=>n+1-(intOf i).toNat);·exact ⟨rfl,0,Nat.zero_le _,rfl⟩
 case round =>
  obtain ⟨rfl,j,N,rfl⟩:=hrel;by_cases y:j<n
  ·have z:j<xs.length:=by rw [<- I.out];exact y
   obtain ⟨g,F,J⟩:=l.out j _ (getElem?_eq_getElem z);by_cases A:j=k
   ·have d:xs[j]=x:=by have:=q.out (by omega);rw [<- A,getElem?_eq_getElem z] at this;exact Option.some.inj this
    rw [d] at J;have a:=f.out x;rw [beq_self_eq_true] at a;have o:=Qa a;have K:Hid (j<n):=Qa y;subst F A;clear a l q p d f;go_wp2_with (first|(go_at_call 185;refine o.out.mono ?_;rintro e w1 ⟨rfl,b⟩;rw [b];clear b));go_ret;exact ⟨by rw [E.out.1 K.out];rfl,rfl⟩
   have d:xs[j]≠x:=p.out _ (by rw [mem_take_iff_getElem];exact ⟨j,by omega,rfl⟩);have a:=f.out xs[j];rw [show (xs[j]==x)=false by simp [d]] at a;have o:=Qa a;generalize xs[j]=s at *;subst F;clear a l d;go_wp2_with (first|(go_at_call 185;refine o.out.mono ?_;rintro e w1 ⟨rfl,b⟩;rw [b];clear b));go_roundw;·exact ⟨trivial,j+1,by omega,by go_num⟩
   simp [intOf];omega
  have G:Hid (¬ k<n):=Qa (by omega);have H:j=n:=by omega
  subst H;clear l q p f;go_wp2;go_ret;exact ⟨by rw [E.out.2 G.out];rfl,rfl⟩
theorem QsE (ao:Option Addr) (n c:Nat) (xs:List Int) (x:Int) (h:Nat) (w:World) (g:n=xs.length) (j:n<=1000000) (b:QbN w ao xs) (i:w.cell? ⟨h,0,none⟩=some (.int .i64 x)) (d:∀ a,a ∈ xs->a≠x) : Calls Tryz.prog 136 #[.slice ao n c,.func (.func 185) #[] #[.pointer (some ⟨h,0,none⟩)]] w λe w'=>e=.returned (.slice ao n c)/\w'=w:=by have k:=Qa (Qmw ao n c xs x h w g j b i n (Nat.le_refl _) (λa l=>d a (mem_of_mem_take l)) (λe=>absurd e (Nat.lt_irrefl _)) (-1) ⟨λe=>absurd e (Nat.lt_irrefl _),λ_=>rfl⟩);clear g b i d;go_enter Tryz.func136,Tryz.ntmps136;go_wp2_with (first|(go_at_call 173;refine k.out.mono ?_;rintro e w1 ⟨rfl,f⟩;rw [f];clear f));go_ret;exact ⟨rfl,rfl⟩
theorem Qtf (b q:Nat) (x:Int) (ao:Option Addr) (n c:Nat) (xs:List Int) (w:World) (l:w.cell? ⟨b,q+6,none⟩=some (.slice ao n c)) (m:w.frozen? ⟨b,q+6,none⟩=false) (hb:b<w.heap.size) (o:n=xs.length) (s:n<=1000000) (h:QbN w ao xs) (r:∀ a,ao=some a->a.block<w.heap.size) (i:∀ f,f ∈ xs->f≠x) : Calls Tryz.prog 155 #[.pointer (some ⟨b,q,none⟩),.int .i64 x] w λe w'=>e=.returned (.tuple #[])/\∃ A,w'=(w.setCell ⟨b,q+6,none⟩ (.slice ao n c)).alloc A:=by have d:=(Below.refl w.heap.size w).alloc (Nat.le_refl _) (.cells #[.int .i64 x] 3);have t:=Qa (QsE ao n c xs x w.heap.size (w.alloc (.cells #[.int .i64 x] 3)) o s (λj f u=>by obtain ⟨g,e,v⟩:=h j f u;exact ⟨g,e,(d.cell (p:=⟨g,j,none⟩) (r ⟨g,0,none⟩ e)).trans v⟩) (by simp [go_sem]) i);have y:=(d.cell (p:=⟨b,q+6,none⟩) hb).trans l;have z:=(d.frozen (p:=⟨b,q+6,none⟩) hb).trans m;clear o h r i d l m;go_enter Tryz.func155,Tryz.ntmps155;go_wp2_with (first|(go_at_call 136;refine t.out.mono ?_;rintro e w1 ⟨rfl,k⟩;rw [k];clear k));refine bodyPost_end (results_none rfl _ _ _) rfl ?_;exact ⟨rfl,_,rfl⟩
def Qc2 (xs:List Int) (k j t:Nat):Int:=if t<k then xs.getD t 0 else if t+1<j then xs.getD (t+1) 0 else xs.getD t 0
def Shp (w w':World) (g:Nat):Prop:=∀ b e,w.heap[g]?=some (.cells b e (0,0))->∃ a,w'.heap[g]?=some (.cells a e (0,0))/\a.size=b.size
theorem Shp.refl (w:World) (g:Nat):Shp w w g:=λa _ h=>⟨a,h,rfl⟩
theorem Shp.set {w w':World} {g:Nat} (h:Shp w w' g) (i:Nat) (v:Value):Shp w (w'.setCell ⟨g,i,none⟩ v) g:=λa e b=>by obtain ⟨c,d,f⟩:=h a e b;refine ⟨c.set! i v,?_,by simpa using f⟩;simp only [World.setCell,Array.getElem?_modify,if_true,d,Option.map_some];simp
theorem QsU {w:World} {g n c:Nat} {t:TypeId} {a:Array Value} {xs:List Value} (b:w.heap[g]?=some (.cells a t (0,0))) (m:a.size=c) (o:xs.length=n) (i:n<=c) (k:c<=maxLen) (l:∀ j v,xs[j]?=some v->w.cell? ⟨g,j,none⟩=some v):w.ownsRow 0 t 1 (.slice (some ⟨g,0,none⟩) n c) n xs:=by
 refine ⟨by omega,.inr ⟨g,c,a,rfl,Nat.zero_le _,b,i,k,by omega,?_⟩⟩;apply ext_getElem?;intro j;rw [getElem?_take];by_cases d:j<n*1
 ·rw [if_pos d];have f:xs[j]?=some xs[j]:=getElem?_eq_getElem (by omega);have h:=l j _ f;simp only [World.cell?,b] at h;rw [f,Array.getElem?_toList];simpa using h
 rw [if_neg d,getElem?_eq_none (by omega)]
theorem Qp0 (g n c:Nat) (xs:List Int) (x:Int) (h k:Nat) (w:World) (G:n=xs.length) (a2:n<=1000) (a3:n<=c) (m:QbN w (some ⟨g,0,none⟩) xs) (H:∀ t,w.frozen? ⟨g,t,none⟩=false) (R:g≠h) (q:w.cell? ⟨h,0,none⟩=some (.int .i64 x)) (U:k<n) (z:∀ v,v ∈ xs.take k->v≠x) (A:xs[k]?=some x) (y:∀ t,k<t->t<n->xs.getD t 0≠x) : Calls Tryz.prog 136 #[.slice (some ⟨g,0,none⟩) n c,.func (.func 185) #[] #[.pointer (some ⟨h,0,none⟩)]] w λe w'=>e=.returned (.slice (some ⟨g,0,none⟩) (n-1) c)/\(∀ t,t+1<n->w'.cell? ⟨g,t,none⟩=some (.int .i64 (if t<k then xs.getD t 0 else xs.getD (t+1) 0)))/\(∀ t,w'.frozen? ⟨g,t,none⟩=false)/\Qx (λb=>b=g) w w'/\Shp w w' g:=by
 have I:=Qa (Qmw (some ⟨g,0,none⟩) n c xs x h w G (by omega) m q k (by omega) z (λ_=>A) k ⟨λ_=>rfl,λe=>absurd U e⟩);have J:=Qa H;have K:=Qa q;have V:=Qa y;have L:Hid (∀ t,t<n->w.cell? ⟨g,t,none⟩=some (.int .i64 (Qc2 xs k (k+1) t))):=Qa λt l=>by
  have B:t<xs.length:=by omega
  obtain ⟨a7,e,P⟩:=m t _ (getElem?_eq_getElem B);cases e;rw [P];unfold Qc2;have:xs.getD t 0=xs[t]:=by rw [getD_eq_getElem?_getD,getElem?_eq_getElem B];rfl
  split
  ·rw [this]
  split
  ·exfalso;omega
  rw [this]
 clear m H q z A y G;have a8:((k:Int)==-1)=false:=by simp
 go_enter Tryz.func136,Tryz.ntmps136;go_wp2_with (first|(go_at_call 173;refine I.out.mono ?_;rintro e w1 ⟨rfl,d⟩;rw [d];clear d));go_loopw [5,6] (λW r wr=>∃ i:Nat,k<=i/\i+1<=n/\W=.int .i64 i/\r=.int .i64 ((i:Int)+1)/\Hid (∀ t,t<n->wr.cell? ⟨g,t,none⟩=some (.int .i64 (Qc2 xs k (i+1) t)))/\Hid (∀ t,wr.frozen? ⟨g,t,none⟩=false)/\Hid (wr.cell? ⟨h,0,none⟩=some (.int .i64 x))/\Hid (Qx (λb=>b=g) w wr)/\Hid (Shp w wr g)) (λ_ r _=>n+1-(intOf r).toNat);·exact ⟨k,Nat.le_refl _,by omega,rfl,rfl,L,J,K,Qa ⟨rfl,rfl,rfl,Nat.le_refl _,λ_ _ _=>rfl⟩,Qa (Shp.refl _ _)⟩
 case round =>
  obtain ⟨i,a4,a5,rfl,rfl,j,f,C,M,D⟩:=hrel;clear L J K I;by_cases E:i+1<n
  ·have X:=j.out (i+1) E;have N:Qc2 xs k (i+1) (i+1)=xs.getD (i+1) 0:=by unfold Qc2;rw [if_neg (by omega),if_neg (by omega)]
   have o:=V.out (i+1) (by omega) E;have s:=j.out i (by omega);have Y:=f.out i;rw [N] at X;have p:=QkI (xs.getD (i+1) 0) x h wr C.out;rw [show (xs.getD (i+1) 0==x)=false by simp only [beq_eq_false_iff_ne];exact o] at p;have S:=Qa p;have a9:IntKind.i64.wrap ((i:Int)+1)=(i:Int)+1:=by rw [IntKind.wrap_i64];omega
   have aa:IntKind.i64.wrap ((i:Int)+1+1)=(i:Int)+1+1:=by rw [IntKind.wrap_i64];omega
   have a0:(0:Int)<=(i:Int)+1:=by omega
   have ab:(i:Int)+1<(n:Int):=by omega
   have ac:((i:Int)+1).toNat=i+1:=by omega
   generalize F:xs.getD (i+1) 0=v at *;have a1:=Qa F;have ad:=Qa o;clear N o p F;go_wp2_with (first|(go_at_call 185;refine S.out.mono ?_;rintro e w1 ⟨rfl,d⟩;rw [d];clear d));refine ⟨⟨i+1,by omega,by omega,by go_num,by go_num,Qa λt l=>?_,Qa λt=>?_,Qa ?_,Qa (M.out.set (.inl rfl) _),Qa (D.out.set _ _)⟩,by simp [intOf];omega⟩
   ·by_cases e:t=i
    ·subst e;rw [World.cell?_setCell_same _ _ _ s];unfold Qc2;rw [if_neg (by omega),if_pos (by omega),a1.out]
    rw [World.cell?_setCell_other _ _ _ _ (by intro e';cases e';exact e rfl),j.out t l];unfold Qc2;by_cases a:t<k
    ·rw [if_pos a,if_pos a]
    rw [if_neg a,if_neg a];by_cases O:t+1<i+1
    ·rw [if_pos O,if_pos (by omega)]
    rw [if_neg O,if_neg (by omega)]
   ·rw [World.frozen?_setCell];exact f.out t
   rw [World.cell?_setCell_other _ _ _ _ (by intro e';cases e';exact R rfl)];exact C.out
  have T:i+1=n:=by omega
  subst T;have s:=j.out i (by omega);have Y:=f.out i;have ae:(0:Int)<=(i:Int):=by omega
  have a0:(i:Int)<=(i:Int)+1:=by omega
  have a6:∀ u,(Builtin.clear_ #[23] u #[.slice (some ⟨g,i,none⟩) 1 (c-i)]).run Tryz.prog wr=.ok (.tuple #[]) (wr.setCells g i (List.replicate 1 (.int .i64 0))):=λu => Lib.run_clear_slice wr _ _ u _ Tryz.underlying23 (λw=>Tryz.zeroValue3 w) rfl rfl g i _ _ (by omega) (λt l=>by rw [show t=0 by omega,Nat.add_zero,s];rfl) (λt _=>f.out _);go_wp2;go_ret;refine ⟨by rw [Nat.add_sub_cancel];rfl,λt l=>?_,λt=>?_,M.out.set (.inl rfl) _,D.out.set _ _⟩
  ·show (wr.setCell ⟨g,i,none⟩ (.int .i64 0)).cell? _=_;rw [World.cell?_setCell_other _ _ _ _ (by intro e';cases e';omega),j.out t (by omega)];unfold Qc2;by_cases a:t<k
   ·rw [if_pos a,if_pos a]
   rw [if_neg a,if_neg a,if_pos (by omega)]
  show (wr.setCell ⟨g,i,none⟩ (.int .i64 0)).frozen? _=_;rw [World.frozen?_setCell];exact f.out t
theorem QoJ (b q:Nat) (x:Int) (g n c k:Nat) (xs:List Int) (w:World) (G:w.cell? ⟨b,q+6,none⟩=some (.slice (some ⟨g,0,none⟩) n c)) (H:w.frozen? ⟨b,q+6,none⟩=false) (hb:b<w.heap.size) (l:b≠g) (r:n=xs.length) (C:n<=1000) (D:n<=c) (m:QbN w (some ⟨g,0,none⟩) xs) (s:∀ t,w.frozen? ⟨g,t,none⟩=false) (u:g<w.heap.size) (I:k<n) (i:∀ f,f ∈ xs.take k->f≠x) (o:xs[k]?=some x) (h:∀ t,k<t->t<n->xs.getD t 0≠x) : Calls Tryz.prog 155 #[.pointer (some ⟨b,q,none⟩),.int .i64 x] w λe w'=>e=.returned (.tuple #[])/\∃ w2 A,w'=w2.setCell ⟨b,q+6,none⟩ (.slice (some ⟨g,0,none⟩) (n-1) c)/\(∀ t,t+1<n->w2.cell? ⟨g,t,none⟩=some (.int .i64 (if t<k then xs.getD t 0 else xs.getD (t+1) 0)))/\(∀ t,w2.frozen? ⟨g,t,none⟩=false)/\Qx (λb=>b=g) (w.alloc A) w2/\Shp (w.alloc A) w2 g:=by
 have a:=(Below.refl w.heap.size w).alloc (Nat.le_refl _) (.cells #[.int .i64 x] 3);have J:=Qa (Qp0 g n c xs x w.heap.size k (w.alloc (.cells #[.int .i64 x] 3)) r C D (λj f K=>by obtain ⟨T,e,L⟩:=m j f K;cases e;exact ⟨g,rfl,(a.cell (p:=⟨g,j,none⟩) u).trans L⟩) (λt=>(a.frozen (p:=⟨g,t,none⟩) u).trans (s t)) (by omega) (by simp [go_sem]) I i o h);have M:=(a.cell (p:=⟨b,q+6,none⟩) hb).trans G;have N:=(a.frozen (p:=⟨b,q+6,none⟩) hb).trans H;have v:b<(w.alloc (.cells #[.int .i64 x] 3)).heap.size:=by simp;omega
 have E:=Qa M;have F:=Qa N;clear r m i o h s a;go_enter Tryz.func155,Tryz.ntmps155;go_wp2_with (first|(go_at_call 136;refine J.out.mono ?_;rintro e w1 ⟨rfl,y,z,d,B⟩;have O:=Qa B;have P:=Qa y;have R:=Qa z;have S:=Qa d;have U:=(World.cell?_of_block (d.block b v l)).trans E.out;have V:=(World.frozen?_of_block (d.block b v l)).trans F.out;clear y z d B));refine bodyPost_end (results_none rfl _ _ _) rfl ?_;exact ⟨rfl,w1,_,rfl,P.out,R.out,S.out,O.out⟩
abbrev Qu:=Nat->Option Nat
def Cm.hdr (x:Cm):Value:=.slice x.no x.nn x.nc
structure ZW (κ:Qu) (w:World) (b o:Nat) (C:Nat->Cm):Prop where
 set:QaF w b o C
 froz:∀ j,w.frozen? ⟨b,j,none⟩=false
 lt:b<w.heap.size
 role:κ b=some 0
 row:∀ k,k<21->w.ownsRow 0 3 1 (C k).hdr (C k).ns.length (JC (C k).ns)
 rrole:∀ k g,k<21->(C k).hdr.ownBlock=some g->κ g=some (30+k)
 low:∀ y,(κ y).isSome=true->y<w.heap.size
def QuX (a:Qu) (b:Nat):Prop:=∃ r,a b=some r/\(r=0 \/ (30<=r/\r<51))
structure Jd (κ:Qu) (w:World) (b o:Nat) (κ':Qu) (w':World) (C':Nat->Cm):Prop where
 cs:ZW κ' w' b o C'
 far:Qx (QuX κ) w w'
 rest:∀ j,j<o \/ o+147<=j->w'.cell? ⟨b,j,none⟩=w.cell? ⟨b,j,none⟩
 old:∀ y,y<w.heap.size->κ' y=κ y
 new:∀ y,w.heap.size<=y->κ' y=none \/ ∃ k,k<21/\κ' y=some (30+k)
theorem ZW.nn {a:Qu} {w:World} {b f:Nat} {C:Nat->Cm} (h:ZW a w b f C) {k:Nat} (d:k<21):(C k).nn=(C k).ns.length:=by obtain ⟨ao,c,e⟩:=QfS (h.row k d);unfold Cm.hdr at e;injection e
theorem ZW.below {c:Qu} {w w':World} {b a:Nat} {C:Nat->Cm} (h:ZW c w b a C) (hb:Below w.heap.size w w'):ZW c w' b a C := ⟨λj v f=>(hb.cell (p:=⟨b,a+j,none⟩) h.lt).trans (h.set j v f),λj=>(hb.frozen (p:=⟨b,j,none⟩) h.lt).trans (h.froz j),Nat.lt_of_lt_of_le h.lt hb.size,h.role,λk d=>QT (h.row k d) λg e=>hb.block g (h.low g (by rw [h.rrole k g d e];rfl)),h.rrole,λl i=>Nat.lt_of_lt_of_le (h.low l i) hb.size⟩
theorem Jd.refl {a:Qu} {w w':World} {b c:Nat} {C:Nat->Cm} (h:ZW a w b c C) (hb:Below w.heap.size w w'):Jd a w b c a w' C := ⟨h.below hb,.of_below hb,λj _=>hb.cell (p:=⟨b,j,none⟩) h.lt,λ_ _=>rfl,λd f=>.inl (by cases e:a d with| none=>rfl| some r=>have:=h.low d (by rw [e];rfl);omega)⟩
theorem Jd.trans {i f g:Qu} {w w1 w2:World} {b d:Nat} {C D:Nat->Cm} (h:Jd i w b d f w1 C) (k:Jd f w1 b d g w2 D):Jd i w b d g w2 D := ⟨k.cs,h.far.trans (k.far.mono λa _ ⟨r,e,n⟩=>by
 by_cases c:a<w.heap.size
 ·exact .inl ⟨r,by rw [<- h.old a c];exact e,n⟩
 ·exact .inr (by omega)),λj l=>(k.rest j l).trans (h.rest j l),λa c=>(k.old a (Nat.lt_of_lt_of_le c h.far.size)).trans (h.old a c),λa c=>by
 by_cases m:a<w1.heap.size
 ·rw [k.old a m];exact h.new a c
 exact k.new a (by omega)⟩
theorem Jd.belowL {c d:Qu} {w w1 w2:World} {b g:Nat} {C:Nat->Cm} (hb:Below w.heap.size w w1) (l:b<w.heap.size) (i:∀ a,(c a).isSome=true->a<w.heap.size) (h:Jd c w1 b g d w2 C):Jd c w b g d w2 C := ⟨h.cs,(Qx.of_below hb).trans (h.far.mono λa _ e=>.inl e),λj m=>(h.rest j m).trans (hb.cell (p:=⟨b,j,none⟩) l),λa f=>h.old a (Nat.lt_of_lt_of_le f hb.size),λa f=>by
 by_cases k:a<w1.heap.size
 ·refine .inl ((h.old a k).trans ?_);cases e:c a with| none=>rfl| some r=>have:=i a (by rw [e];rfl);omega
 exact h.new a (by omega)⟩
theorem ZW.put {f:Qu} {w w':World} {b m:Nat} {C D:Nat->Cm} (h:ZW f w b m C) (p:Qar w b m D w') (n:∀ i,i<21->((D i).hdr=(C i).hdr/\(D i).ns=(C i).ns) \/ ((D i).hdr=.slice none 0 0/\(D i).ns=[])):Jd f w b m f w' D:=by
 have hb:∀ r,r≠0->∀ g,f g=some r->w'.heap[g]?=w.heap[g]?:=λr q g e=>p.far.block g (h.low g (by rw [e];rfl)) λa=>by rw [a,h.role] at e;exact q (Option.some.inj e).symm
 refine ⟨⟨p.set,λj=>(p.froz j).trans (h.froz j),Nat.lt_of_lt_of_le h.lt p.far.size,h.role,λk d=>?_,λk g d e=>?_,λl o=>Nat.lt_of_lt_of_le (h.low l o) p.far.size⟩,p.far.mono λl _ e=>⟨0,by rw [e];exact h.role,.inl rfl⟩,p.rest,λ_ _=>rfl,λl o=>.inl (by cases e:f l with| none=>rfl| some r=>have:=h.low l (by rw [e];rfl);omega)⟩
 ·rcases n k d with ⟨c,a⟩|⟨c,a⟩
  ·rw [c,a];exact QT (h.row k d) λg e=>hb _ (by omega) g (h.rrole k g d e)
  rw [c,a];exact World.ownsRow_nil _ _ _ _
 rcases n k d with ⟨c,a⟩|⟨c,a⟩
 ·rw [c] at e;exact h.rrole k g d e
 rw [c] at e;cases e
theorem ZW.one {m:Qu} {w w':World} {b n k:Nat} {C:Nat->Cm} (h:ZW m w b n C) (D:k<21) (x:Cm) (E:w'.rangeAt b (n+k*7) (Qag x)) (z:∀ j,j<n+k*7 \/ n+k*7+7<=j->w'.cell? ⟨b,j,none⟩=w.cell? ⟨b,j,none⟩) (F:∀ j,w'.frozen? ⟨b,j,none⟩=w.frozen? ⟨b,j,none⟩) (p:Qx (λa=>a=b \/ m a=some (30+k)) w w') (A:w'.ownsRow 0 3 1 x.hdr x.ns.length (JC x.ns)) (G:∀ g,x.hdr.ownBlock=some g->m g=some (30+k) \/ w.heap.size<=g):∃ B,Jd m w b n B w' (Jc C k x):=by
 have s:∀ i,i≠k->Jc C k x i=C i:=λi e=>by unfold Jc;rw [if_neg e]
 have q:Jc C k x k=x:=by unfold Jc;rw [if_pos rfl]
 refine ⟨λa=>if a<w.heap.size then m a else if x.hdr.ownBlock=some a then some (30+k) else none,⟨?_,λj=>(F j).trans (h.froz j),Nat.lt_of_lt_of_le h.lt p.size,by rw [if_pos h.lt];exact h.role,λi d=>?_,λi g d e=>?_,λa f=>?_⟩,p.mono λa _ e=>?_,λj H=>z j (by omega),λa f=>if_pos f,λa f=>?_⟩
 ·intro j v l;have H:j<147:=by have:=(List.getElem?_eq_some_iff.1 l).1;rw [Qcx] at this;exact this
  obtain ⟨i,r,u,rfl⟩:∃ i r,r<7/\j=i*7+r:=⟨j / 7,j % 7,Nat.mod_lt _ (by omega),by omega⟩;have d:i<21:=by omega
  rw [QcS _ i r u 21 d] at l;by_cases e:i=k
  ·subst e;rw [q] at l;rw [<- Nat.add_assoc];exact E r v l
  rw [s i e] at l;rw [z _ (by omega)];exact h.set (i*7+r) v (by rw [QcS _ i r u 21 d];exact l)
 ·by_cases e:i=k
  ·rw [e,q];exact A
  rw [s i e];refine QT (h.row i d) λg I=>?_;have o:=h.rrole i g d I;refine p.block g (h.low g (by rw [o];rfl)) ?_;rintro (c|c)
  ·rw [c,h.role] at o;have:=Option.some.inj o;omega
  rw [o] at c;have:=Option.some.inj c;omega
 ·by_cases c:i=k
  ·rw [c,q] at e;rw [c];rcases G g e with t|t
   ·rw [if_pos (h.low g (by rw [t];rfl))];exact t
   rw [if_neg (by omega),if_pos e]
  rw [s i c] at e;have:=h.rrole i g d e;rw [if_pos (h.low g (by rw [this];rfl))];exact this
 ·by_cases y:a<w.heap.size
  ·exact Nat.lt_of_lt_of_le y p.size
  simp only [if_neg y] at f;by_cases e:x.hdr.ownBlock=some a
  ·exact (A.lt a e).2
  rw [if_neg e] at f;cases f
 ·rcases e with e|e
  ·exact ⟨0,by rw [e];exact h.role,.inl rfl⟩
  exact ⟨_,e,.inr (by omega)⟩
 simp only [if_neg (Nat.not_lt.2 f)];by_cases e:x.hdr.ownBlock=some a
 ·rw [if_pos e];exact .inr ⟨k,D,rfl⟩
 rw [if_neg e];exact .inl rfl
theorem ZW.list {f:Qu} {w w2:World} {b d k:Nat} {C:Nat->Cm} (h:ZW f w b d C) (o:k<21) (ao:Option Addr) (n c:Nat) (xs:List Int) (p:Qx (λs=>f s=some (30+k)) w w2) (y:w2.ownsRow 0 3 1 (.slice ao n c) xs.length (JC xs)) (q:∀ g,(Value.slice ao n c).ownBlock=some g->f g=some (30+k) \/ w.heap.size<=g):∃ t,Jd f w b d t (w2.setCell ⟨b,d+k*7+6,none⟩ (.slice ao n c)) (Jc C k { C k with no:=ao,nn:=n,nc:=c,ns:=xs }):=by
 have l:w2.heap[b]?=w.heap[b]?:=p.block b h.lt (by rw [h.role];intro e;have:=Option.some.inj e;omega)
 have m:∀ j,w2.cell? ⟨b,j,none⟩=w.cell? ⟨b,j,none⟩:=λj=>World.cell?_of_block l
 have u:∀ j,w2.frozen? ⟨b,j,none⟩=w.frozen? ⟨b,j,none⟩:=λj=>World.frozen?_of_block l
 obtain ⟨z,A,B,D,E,F,G⟩:=h.set.cm k o
 have x:=(m (d+k*7+6)).trans G
 have other:∀ j,j≠d+k*7+6->(w2.setCell ⟨b,d+k*7+6,none⟩ (.slice ao n c)).cell? ⟨b,j,none⟩=w.cell? ⟨b,j,none⟩:=λj r=>by
  rw [World.cell?_setCell_other _ _ _ _ (by intro e;cases e;exact r rfl)];exact m j
 refine h.one o _ (λj v a=>?_) (λj r=>other j (by omega)) (λj=>by rw [World.frozen?_setCell];exact u j) ((p.mono λs _ e=>.inr e).set (.inl (.inl rfl)) _) (QT y λg e=>?_) q
 ·match j,a with
  | 0,a=>cases a;rw [Nat.add_zero,other _ (by omega)];exact z
  | 1,a=>cases a;rw [other _ (by omega)];exact A
  | 2,a=>cases a;rw [other _ (by omega)];exact B
  | 3,a=>cases a;rw [other _ (by omega)];exact D
  | 4,a=>cases a;rw [other _ (by omega)];exact E
  | 5,a=>cases a;rw [other _ (by omega)];exact F
  | 6,a=>cases a;exact World.cell?_setCell_same _ _ _ x
  | j+7,a=>simp [Qag] at a
 ·refine Below.heap_setCell _ _ _ _ ?_
  show g≠b
  rcases q g e with i|i
  ·intro H;rw [H,h.role] at i;have:=Option.some.inj i;omega
  ·have:=h.lt;omega
theorem ZW.field {f:Qu} {w:World} {b d k:Nat} {C:Nat->Cm} (h:ZW f w b d C) (c:k<21) (r:Nat) (z:r=3 \/ r=4 \/ r=5) (v:Int):∃ p,Jd f w b d p (w.setCell ⟨b,d+k*7+r,none⟩ (.int .i64 v)) (Jc C k { C k with fa:=if r=3 then v else (C k).fa,fb:=if r=4 then v else (C k).fb,fc:=if r=5 then v else (C k).fc }):=by
 obtain ⟨q,s,t,i,l,m,x⟩:=h.set.cm k c
 have other:∀ j,j≠d+k*7+r->(w.setCell ⟨b,d+k*7+r,none⟩ (.int .i64 v)).cell? ⟨b,j,none⟩=w.cell? ⟨b,j,none⟩:=λj n =>
  World.cell?_setCell_other _ _ _ _ (by intro e;cases e;exact n rfl)
 refine h.one c _ (λj u a=>?_) (λj n=>other j (by omega)) (λj=>World.frozen?_setCell ..) ((⟨rfl,rfl,rfl,Nat.le_refl _,λ_ _ _=>rfl⟩:Qx (λo=>o=b \/ f o=some (30+k)) w w).set (.inl (.inl rfl)) _) (QT (h.row k c) λg e=>?_) (λg e=>.inl (h.rrole k g c e))
 ·match j,a with
  | 0,a=>cases a;rw [Nat.add_zero,other _ (by omega)];exact q
  | 1,a=>cases a;rw [other _ (by omega)];exact s
  | 2,a=>cases a;rw [other _ (by omega)];exact t
  | 3,a =>
   cases a
   by_cases e:r=3
   ·subst e;rw [if_pos rfl];exact World.cell?_setCell_same _ _ _ i
   ·rw [if_neg e,other _ (by omega)];exact i
  | 4,a =>
   cases a
   by_cases e:r=4
   ·subst e;rw [if_pos rfl];exact World.cell?_setCell_same _ _ _ l
   ·rw [if_neg e,other _ (by omega)];exact l
  | 5,a =>
   cases a
   by_cases e:r=5
   ·subst e;rw [if_pos rfl];exact World.cell?_setCell_same _ _ _ m
   ·rw [if_neg e,other _ (by omega)];exact m
  | 6,a=>cases a;rw [other _ (by omega)];exact x
  | j+7,a=>simp [Qag] at a
 ·refine Below.heap_setCell _ _ _ _ ?_
  show g≠b
  intro y
  have:=h.rrole k g c e
  rw [y,h.role] at this;have:=Option.some.inj this;omega
end Go.Proofs.YtobgcaemnpkbmaaGreatDoor
