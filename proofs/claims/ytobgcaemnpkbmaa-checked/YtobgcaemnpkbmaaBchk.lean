/-
  What the program's 'Check' answers of a list.
-/
import Derived.Test.YtobgcaemnpkbmaaWhole
namespace Go.Proofs.Ytobgcaemnpkbmaa
open Go.RowKit

set_option maxHeartbeats 400000 in
theorem check_any (ao : Option Addr) (n c : Nat) (L : Nat → Nod) (w : World) (hn : n ≤ maxLen) (h : ListAt w ao n L) :
    Calls Try.prog 7 #[.slice ao n c] w fun e w' => e = .returned (.tuple #[.int .i64 (checkOut (mayB L) n).1, .int .i64 (checkOut (mayB L) n).2]) ∧ Below w.heap.size w w' := by
  have H := hide h
  clear h
  go_enter Try.func7, Try.ntmps7
  go_wp2_with (go_at_call 23; refine (treeCheck_any ao n c L _ hn (unhide H)).mono ?_; rintro e w2 ⟨rfl, hb2⟩)
  go_ret2
  exact ⟨rfl, hb2⟩

end Go.Proofs.Ytobgcaemnpkbmaa
