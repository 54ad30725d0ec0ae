/-
  DERIVED. GIVEN WITH THE SEED: THE CARDS: each row of YtobgcaemnpkbmaaGreatDoorRows.lean that lists a variable, with what it lists TIED to the program's text (the seventh form; the later family's looks); each row that meets fmt, with fmt's text TOLD by the authors' own Lean function (tested against real Go, not proved from fmt's source: count such statements apart). THE CARD IS WHAT COUNTS. Prove the row's statement (the work); the ties are given (YtobgcaemnpkbmaaGreatDoorTie.lean); close each card by the builder's one call (the guide's Derived/Test/ToyasCard.lean, 'card_holds'). Laid BY PROGRAM, IN A SANDBOX (cutbox-door.mjs). By AI agents, Wed Nov 11 2026. No macro, syntax, notation, axiom, sorry.
-/
import Derived.Test.YtobgcaemnpkbmaaGreatDoorRows
import GoSem.ClaimSeven
namespace Go.Proofs.YtobgcaemnpkbmaaGreatDoor
namespace Rows

/-- THE TIED CARD OF 'battenkeep.Told'. -/
def toldCard : Claim7 := { stood := { row := toldRow, standIns := [], harness := (true, "ca9a1750e4f5b9bf506e6f347dc64ceed92744da150df7fcbd8be7d3b93b77c0"), looks := false }, kinds := [], alts := [], laidByText := true, laidKinds := [.data, .data, .data, .data], laidTests := true, laidLooks := .later }
def ToldCardSaid : Prop := Claim7.holds Tryz.pinned (.plain (OpenSpec.ofChange toldSpec)) toldCard

/-- THE TIED CARD OF 'battenkeep.Stays'. -/
def staysCard : Claim7 := { stood := { row := staysRow, standIns := [], harness := (true, "ca9a1750e4f5b9bf506e6f347dc64ceed92744da150df7fcbd8be7d3b93b77c0"), looks := false }, kinds := [], alts := [], laidByText := true, laidKinds := [.data, .data, .data, .data], laidTests := true, laidLooks := .later }
def StaysCardSaid : Prop := Claim7.holds Tryz.pinned (.plain (OpenSpec.ofChange staysSpec)) staysCard

/-- THE TIED CARD OF 'battenlaw.All'. -/
def allCard : Claim7 := { stood := { row := allRow, standIns := [], harness := (true, "ca9a1750e4f5b9bf506e6f347dc64ceed92744da150df7fcbd8be7d3b93b77c0"), looks := false }, kinds := [], alts := [], laidByText := true, laidKinds := [.data, .data, .data, .data], laidTests := true, laidLooks := .later }
def AllCardSaid : Prop := Claim7.holds Tryz.pinned (.plain (OpenSpec.ofChange allSpec)) allCard

/-- THE SECOND FORM's CARD OF 'battenkeep.Told'. -/
def toldUptoCard : Claim7 := { stood := { row := toldUptoRow, standIns := [], harness := (true, "ca9a1750e4f5b9bf506e6f347dc64ceed92744da150df7fcbd8be7d3b93b77c0"), looks := false }, kinds := [], alts := [], laidByText := true, laidKinds := [.data, .data, .data, .data], laidTests := true, laidLooks := .later }
def ToldUptoCardSaid : Prop := Claim7.holds Tryz.pinned (.plain (OpenSpec.upto toldSpec)) toldUptoCard

/-- THE SECOND FORM's CARD OF 'battenkeep.Stays'. -/
def staysUptoCard : Claim7 := { stood := { row := staysUptoRow, standIns := [], harness := (true, "ca9a1750e4f5b9bf506e6f347dc64ceed92744da150df7fcbd8be7d3b93b77c0"), looks := false }, kinds := [], alts := [], laidByText := true, laidKinds := [.data, .data, .data, .data], laidTests := true, laidLooks := .later }
def StaysUptoCardSaid : Prop := Claim7.holds Tryz.pinned (.plain (OpenSpec.upto staysSpec)) staysUptoCard

/-- THE SECOND FORM's CARD OF 'battenlaw.All'. -/
def allUptoCard : Claim7 := { stood := { row := allUptoRow, standIns := [], harness := (true, "ca9a1750e4f5b9bf506e6f347dc64ceed92744da150df7fcbd8be7d3b93b77c0"), looks := false }, kinds := [], alts := [], laidByText := true, laidKinds := [.data, .data, .data, .data], laidTests := true, laidLooks := .later }
def AllUptoCardSaid : Prop := Claim7.holds Tryz.pinned (.plain (OpenSpec.upto allSpec)) allUptoCard
end Rows
end Go.Proofs.YtobgcaemnpkbmaaGreatDoor
