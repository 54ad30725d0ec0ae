/-
  What 'lent' hands on.
-/
import Derived.Test.YtobgcaemnpkbmaaMem
namespace Go.Proofs.Ytobgcaemnpkbmaa
open Go.RowKit

/-- Check of what 'lent' hands on. -/
def lentAo (ao : Option Addr) (g : Nat) : Option Addr := if ao = none then none else some ⟨g, 0, none⟩
def lentLen (ao : Option Addr) (n : Nat) : Nat := if ao = none then 0 else n
def lentCap (ao : Option Addr) (n : Nat) : Nat := if ao = none then 0 else n + 3

end Go.Proofs.Ytobgcaemnpkbmaa
