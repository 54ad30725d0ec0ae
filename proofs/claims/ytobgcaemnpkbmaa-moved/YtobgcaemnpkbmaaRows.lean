/-
  No cell of these rows narrows 'for every input' (looked for: loops, veiled, ifaces, maps, wideKeys, modest, calm, conditions, laid).
  DERIVED. THE GIVEN ROWS OF THIS SEAT. 4 by the template 'for every input the law returns true; each argument reads behind the call as it read before'; 0 by the template 'total and deterministic' (their statements: YtobgcaemnpkbmaaTotals.lean).
  GIVEN WITH THE SEED: the statements are not yours to turn. If you find one false, say at which input.
  Laid BY PROGRAM, IN A SANDBOX (cutbox-rows.mjs): the forced cells as the released guide's own fill.sh prints them over the translation fda509bf5be90c72… (all of the seat's roots in one cut). By AI agents, Wed Nov 11 2026. No macro, syntax, notation, axiom, sorry.
-/
import Derived.Test.YtobgcaemnpkbmaaChecked
import GoSem.Claim
import GoSem.ClaimJoined
import GoSem.ClaimMapViews
import Derived.JoinedTies
import Derived.KernelRfl
namespace Go.Proofs.Ytobgcaemnpkbmaa
/- THE CELL 'sum', in the pinned program and in every row, IS THE sha256 OF THE DUMP (.gsa) THAT YtobgcaemnpkbmaaProg.lean LOADS. Nothing in Lean hashes anything: it is a label: what it is worth is what the hold of that sum in a sandbox is worth. -/
noncomputable def Try.pinned : Pinned := { name := "ytobgcaemnpkbmaa", sum := "fda509bf5be90c72efc8d5550fd627e31f078d65521eec3b17d1f1570dbc5f84", checked := Try.checked }
namespace Rows
def none {H : Type} : Left H := { results := [], args := [] }

/-- 'battenlaw.Checked': WHATEVER THE INPUT: true; the input reads as it did. -/
def checkedSpec : ChangeSpec := { name := "checked", fn := fun _ => fun
  | [d] => { results := [.lit (.bool true)], args := [d] }
  | _ => none }
def checkedRow : OpenClaim := { program := "ytobgcaemnpkbmaa", sum := "fda509bf5be90c72efc8d5550fd627e31f078d65521eec3b17d1f1570dbc5f84", func := "batten/battenlaw.Checked", spec := "checked", plainKeys := false, apart := false }
def CheckedSaid : Prop := checkedRow.holds Try.pinned (OpenSpec.ofChange checkedSpec)

/-- ITS FALSE NEIGHBOUR: 'it returns false'. Refute it at one input. -/
def checkedWrong : ChangeSpec := { name := "checked", fn := fun _ => fun
  | [d] => { results := [.lit (.bool false)], args := [d] }
  | _ => none }
def CheckedWrongFalsely : Prop := checkedRow.holds Try.pinned (OpenSpec.ofChange checkedWrong)

/-- 'battenkeep.Robust': WHATEVER THE INPUT: true; the input reads as it did. -/
def robustSpec : ChangeSpec := { name := "robust", fn := fun _ => fun
  | [d1, d2] => { results := [.lit (.bool true)], args := [d1, d2] }
  | _ => none }
def robustRow : OpenClaim := { program := "ytobgcaemnpkbmaa", sum := "fda509bf5be90c72efc8d5550fd627e31f078d65521eec3b17d1f1570dbc5f84", func := "batten/battenkeep.Robust", spec := "robust", inPlace := ["slices.overlaps[*batten/dom.node]", "internal/bytealg.abigen_runtime_cmpstring", "slices.overlaps[batten/api.Attr]"], unfollowed := true, recurses := true, plainKeys := false, apart := false }
def RobustSaid : Prop := robustRow.holds Try.pinned (OpenSpec.ofChange robustSpec)

/-- ITS FALSE NEIGHBOUR: 'it returns false'. Refute it at one input. -/
def robustWrong : ChangeSpec := { name := "robust", fn := fun _ => fun
  | [d1, d2] => { results := [.lit (.bool false)], args := [d1, d2] }
  | _ => none }
def RobustWrongFalsely : Prop := robustRow.holds Try.pinned (OpenSpec.ofChange robustWrong)

/-- 'battenkeep.Steps': WHATEVER THE INPUT: true; the input reads as it did. -/
def stepsSpec : ChangeSpec := { name := "steps", fn := fun _ => fun
  | [d] => { results := [.lit (.bool true)], args := [d] }
  | _ => none }
def stepsRow : OpenClaim := { program := "ytobgcaemnpkbmaa", sum := "fda509bf5be90c72efc8d5550fd627e31f078d65521eec3b17d1f1570dbc5f84", func := "batten/battenkeep.Steps", spec := "steps", inPlace := ["slices.overlaps[*batten/dom.node]", "internal/bytealg.abigen_runtime_cmpstring", "slices.overlaps[batten/api.Attr]"], unfollowed := true, recurses := true, plainKeys := false, apart := false }
def StepsSaid : Prop := stepsRow.holds Try.pinned (OpenSpec.ofChange stepsSpec)

/-- ITS FALSE NEIGHBOUR: 'it returns false'. Refute it at one input. -/
def stepsWrong : ChangeSpec := { name := "steps", fn := fun _ => fun
  | [d] => { results := [.lit (.bool false)], args := [d] }
  | _ => none }
def StepsWrongFalsely : Prop := stepsRow.holds Try.pinned (OpenSpec.ofChange stepsWrong)

/-- 'battenkeep.Moved': WHATEVER THE INPUT: true; the input reads as it did. -/
def movedSpec : ChangeSpec := { name := "moved", fn := fun _ => fun
  | [d1, d2, d3, d4] => { results := [.lit (.bool true)], args := [d1, d2, d3, d4] }
  | _ => none }
def movedRow : OpenClaim := { program := "ytobgcaemnpkbmaa", sum := "fda509bf5be90c72efc8d5550fd627e31f078d65521eec3b17d1f1570dbc5f84", func := "batten/battenkeep.Moved", spec := "moved", inPlace := ["slices.overlaps[*batten/dom.node]", "internal/bytealg.abigen_runtime_cmpstring", "slices.overlaps[batten/api.Attr]"], unfollowed := true, recurses := true, plainKeys := false, apart := false }
def MovedSaid : Prop := movedRow.holds Try.pinned (OpenSpec.ofChange movedSpec)

/-- ITS FALSE NEIGHBOUR: 'it returns false'. Refute it at one input. -/
def movedWrong : ChangeSpec := { name := "moved", fn := fun _ => fun
  | [d1, d2, d3, d4] => { results := [.lit (.bool false)], args := [d1, d2, d3, d4] }
  | _ => none }
def MovedWrongFalsely : Prop := movedRow.holds Try.pinned (OpenSpec.ofChange movedWrong)

/- THE SECOND FORM. 'bulk': how many values and letters a reading holds, each counted each time it is reached (what is shared counts as often as it is met; a slice's spare places count too). A statement '..UptoSaid' is the law's where the arguments, and the package variables that the reading takes, are together of bulk at most 1048576: NARROWER than '..Said'. Prove '..Said' where nothing that the law and all that it calls make is longer than what came in: it says more and counts as full. Else prove '..UptoSaid'. A law counts once. -/
mutual
def uptoBulk {H : Type} : DataW H → Nat
  | .lit (.string bytes) => bytes.length + 1
  | .lit _ => 1
  | .nil => 1
  | .ptr d => uptoBulk d + 1
  | .slice elems spare => uptoBulkAll elems + uptoBulkAll spare + 1
  | .agg parts => uptoBulkAll parts + 1
  | .iface _ d => uptoBulk d + 1
  | .map entries => uptoBulkEntries entries + 1
  | .held _ => 1
def uptoBulkAll {H : Type} : List (DataW H) → Nat
  | [] => 0
  | d :: r => uptoBulk d + uptoBulkAll r
def uptoBulkEntries {H : Type} : List (Lit × DataW H) → Nat
  | [] => 0
  | x :: r => uptoBulkEntry x + uptoBulkEntries r
def uptoBulkEntry {H : Type} : Lit × DataW H → Nat
  | (.string bytes, d) => bytes.length + uptoBulk d + 1
  | (_, d) => uptoBulk d + 1
 end
def uptoSmall : (H : Type) → List (DataW H) → Bool := fun _ ds => decide (uptoBulkAll ds ≤ 1048576)
def OpenSpec.upto (s : _root_.Go.ChangeSpec) : _root_.Go.OpenSpec := { _root_.Go.OpenSpec.ofChange s with cond := some uptoSmall }

/-- 'battenlaw.Checked', WHERE WHAT IT READS IS OF BULK AT MOST 1048576: true; the input reads as it did. -/
def checkedUptoRow : OpenClaim := { program := "ytobgcaemnpkbmaa", sum := "fda509bf5be90c72efc8d5550fd627e31f078d65521eec3b17d1f1570dbc5f84", func := "batten/battenlaw.Checked", spec := "checked", plainKeys := false, apart := false, narrowed := true }
def CheckedUptoSaid : Prop := checkedUptoRow.holds Try.pinned (OpenSpec.upto checkedSpec)

/-- 'battenkeep.Robust', WHERE WHAT IT READS IS OF BULK AT MOST 1048576: true; the input reads as it did. -/
def robustUptoRow : OpenClaim := { program := "ytobgcaemnpkbmaa", sum := "fda509bf5be90c72efc8d5550fd627e31f078d65521eec3b17d1f1570dbc5f84", func := "batten/battenkeep.Robust", spec := "robust", inPlace := ["slices.overlaps[*batten/dom.node]", "internal/bytealg.abigen_runtime_cmpstring", "slices.overlaps[batten/api.Attr]"], unfollowed := true, recurses := true, plainKeys := false, apart := false, narrowed := true }
def RobustUptoSaid : Prop := robustUptoRow.holds Try.pinned (OpenSpec.upto robustSpec)

/-- 'battenkeep.Steps', WHERE WHAT IT READS IS OF BULK AT MOST 1048576: true; the input reads as it did. -/
def stepsUptoRow : OpenClaim := { program := "ytobgcaemnpkbmaa", sum := "fda509bf5be90c72efc8d5550fd627e31f078d65521eec3b17d1f1570dbc5f84", func := "batten/battenkeep.Steps", spec := "steps", inPlace := ["slices.overlaps[*batten/dom.node]", "internal/bytealg.abigen_runtime_cmpstring", "slices.overlaps[batten/api.Attr]"], unfollowed := true, recurses := true, plainKeys := false, apart := false, narrowed := true }
def StepsUptoSaid : Prop := stepsUptoRow.holds Try.pinned (OpenSpec.upto stepsSpec)

/-- 'battenkeep.Moved', WHERE WHAT IT READS IS OF BULK AT MOST 1048576: true; the input reads as it did. -/
def movedUptoRow : OpenClaim := { program := "ytobgcaemnpkbmaa", sum := "fda509bf5be90c72efc8d5550fd627e31f078d65521eec3b17d1f1570dbc5f84", func := "batten/battenkeep.Moved", spec := "moved", inPlace := ["slices.overlaps[*batten/dom.node]", "internal/bytealg.abigen_runtime_cmpstring", "slices.overlaps[batten/api.Attr]"], unfollowed := true, recurses := true, plainKeys := false, apart := false, narrowed := true }
def MovedUptoSaid : Prop := movedUptoRow.holds Try.pinned (OpenSpec.upto movedSpec)

end Rows
end Go.Proofs.Ytobgcaemnpkbmaa
