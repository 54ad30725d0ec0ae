/-
  For every script (of a bulk up to the row's bound) the law Diffs returns true and leaves its argument as it was: whatever trees and patches are handed in, in whatever order, what the program's Diff tells turns the document into the tree, there are of each kind just as many patches as the reference counts, what belongs together keeps its number, the program tells the same when it is asked again, nothing that was lent is written into, and no list that came out is changed later. Conditions: the row's own bound on what is read.
-/
import Derived.Test.YtobgcaemnpkbmaaGreatY32
import Derived.Deep.CondSized
namespace Go.Proofs.YtobgcaemnpkbmaaGreat
set_option maxRecDepth 100000
set_option maxHeartbeats 8000000
open Go.ChangeShapes Go.WideShapes Go.ChangeAt Go.RowKit Go.Deep List
theorem own:ownKnob Tryz.prog.godebug=none:=by kernel_rfl
theorem laidOut:laidOutB Tryz.prog=true:=by kernel_rfl
theorem diffs_lifted (n:Os) (z:n.Started) (R:Type) (enc:TypeId × Value->R) (F:Stop.Interp) : ReturnsInHanded {} Tryz.checked n 4 .any ((Rows.OpenSpec.upto Rows.diffsSpec).pre6 enc Tryz.prog Tryz.f4 Rows.diffsUptoRow.domain false) (((Rows.OpenSpec.upto Rows.diffsSpec).at F).post enc Tryz.prog Tryz.f4 false true false false):=by
 refine returnsInHanded_of_cond_sized (C:=Tryz.checked) (s:=Rows.OpenSpec.upto Rows.diffsSpec) (k:=Rows.uptoSmall) rfl own z (by kernel_rfl) Tryz.func4 (OpenSpec.witness (enc:=enc) (C:=Tryz.checked) (s:=Rows.OpenSpec.upto Rows.diffsSpec) (k:=Rows.uptoSmall) rfl false ⟨#[],#[Xv],[]⟩ 8 (by kernel_rfl) (by kernel_rfl) (by kernel_rfl) (x:=([.nil],[],[])) (by kernel_rfl) rfl (by kernel_rfl)) ?_;intro a base args G W U f o _ h _ _;have g:∀ (j:Nat) t v,Tryz.f4.params[j]?=some t->args[j]?=some v->Value.okWide Tryz.prog a .any base t v:=f;have c:=o;obtain ⟨p,q,i,H,rfl,A,_⟩:=o;have d:DataW.TrodAll enc Tryz.prog a 0 (λ_=>true) true Tryz.f4.params.toList args.toList G p:=i;rw [Tryz.params4] at d g;obtain ⟨v0,b,rfl,rfl,r⟩:=trodAll_one d;obtain ⟨rfl,rfl⟩:=trodVars_none H;obtain ⟨u,l,m,rfl⟩:=okWide_slice Tryz.underlying22 (g 0 22 v0 rfl rfl);have B:=r;obtain ⟨V,I⟩:=r;clear i f d;simp only [append_nil] at c A h;have J:Rows.uptoBulkAll [b]<=1048576:=of_decide_eq_true h;have K:Rows.uptoBulk b<=1048576:=Xb6 (QfX (Xa2.2 rfl)) J;have D:∀ x ∈ p,x.block<a.heap.size:=λx L=>c.lt x (by simp [L]);obtain ⟨S,M,N⟩:=Qq1 (x:=(b,p)) I K;refine (QuF u l m S a M N).mono λe O ⟨P,y⟩=>?_;subst P;have E:DataW.Trod enc Tryz.prog O 0 (λx=>decide (x<a.heap.size)) true 22 (.slice u l m) b p := Below.trod laidOut (by kernel_rfl) (of_decide_eq_true (by kernel_rfl)) B y D;refine ⟨_,rfl,_,_,_,[],p,[],c,?_,?_,rfl,y.frame _,λT=>by cases T⟩
 ·exact trodAll_mk1 (shut_bool Tryz.underlying4 true)
 exact trodAll_mk1 E
theorem diffs_holds:Rows.DiffsUptoSaid := OpenClaim.holds_of_cond 4 Tryz.f4 rfl rfl rfl rfl rfl rfl rfl ⟨rfl,rfl,rfl,rfl,rfl⟩ rfl rfl rfl rfl rfl (by kernel_rfl) Tryz.func4 (by kernel_rfl) (of_decide_eq_true (by kernel_rfl)) (by unfold Func.isWrapper;rw [if_neg (of_decide_eq_false (by kernel_rfl))];exact ⟨rfl,rfl⟩) (λb a c enc _ F=>diffs_lifted b a c enc F)
#print axioms diffs_holds
end Go.Proofs.YtobgcaemnpkbmaaGreat
