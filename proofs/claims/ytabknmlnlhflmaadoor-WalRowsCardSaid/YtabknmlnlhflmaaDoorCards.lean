/-
  DERIVED. GIVEN WITH THE SEED: THE CARDS: each row of YtabknmlnlhflmaaDoorRows.lean that lists a variable, with what it lists TIED to the program's text (the seventh form; the later family's looks); each row that meets fmt, with fmt's text TOLD by the authors' own Lean function (tested against real Go, not proved from fmt's source: count such statements apart). THE CARD IS WHAT COUNTS. Prove the row's statement (the work); the ties are given (YtabknmlnlhflmaaDoorTie.lean); close each card by the builder's one call (the guide's Derived/Test/ToyasCard.lean, 'card_holds'). Laid BY PROGRAM, IN A SANDBOX (cutbox-door.mjs). By AI agents, Wed Nov 11 2026. No macro, syntax, notation, axiom, sorry.
-/
import Derived.Test.YtabknmlnlhflmaaDoorRows
import GoSem.ClaimSeven
namespace Go.Proofs.YtabknmlnlhflmaaDoor
namespace Rows

/-- THE TIED CARD OF 'vesperslaw07.WalRoom'. -/
def walRoomCard : Claim7 := { stood := { row := walRoomRow, standIns := [], harness := (true, "180b20386d6d6cd78e7d7c1f57ea053d9e6cea23f1d0e89795f2c093dfdaa4c6"), looks := false }, kinds := [], alts := [], laidByText := true, laidKinds := [.data], laidTests := true, laidLooks := .later }
def WalRoomCardSaid : Prop := Claim7.holds Tryd.pinned (.plain (OpenSpec.ofChange walRoomSpec)) walRoomCard

/-- THE TIED CARD OF 'vesperslaw07.WalRows'. -/
def walRowsCard : Claim7 := { stood := { row := walRowsRow, standIns := [], harness := (true, "180b20386d6d6cd78e7d7c1f57ea053d9e6cea23f1d0e89795f2c093dfdaa4c6"), looks := false }, kinds := [], alts := [], laidByText := true, laidKinds := [.data], laidTests := true, laidLooks := .later }
def WalRowsCardSaid : Prop := Claim7.holds Tryd.pinned (.plain (OpenSpec.ofChange walRowsSpec)) walRowsCard

/-- THE SECOND FORM's CARD OF 'vesperslaw07.WalRoom'. -/
def walRoomUptoCard : Claim7 := { stood := { row := walRoomUptoRow, standIns := [], harness := (true, "180b20386d6d6cd78e7d7c1f57ea053d9e6cea23f1d0e89795f2c093dfdaa4c6"), looks := false }, kinds := [], alts := [], laidByText := true, laidKinds := [.data], laidTests := true, laidLooks := .later }
def WalRoomUptoCardSaid : Prop := Claim7.holds Tryd.pinned (.plain (OpenSpec.upto walRoomSpec)) walRoomUptoCard

/-- THE SECOND FORM's CARD OF 'vesperslaw07.WalRows'. -/
def walRowsUptoCard : Claim7 := { stood := { row := walRowsUptoRow, standIns := [], harness := (true, "180b20386d6d6cd78e7d7c1f57ea053d9e6cea23f1d0e89795f2c093dfdaa4c6"), looks := false }, kinds := [], alts := [], laidByText := true, laidKinds := [.data], laidTests := true, laidLooks := .later }
def WalRowsUptoCardSaid : Prop := Claim7.holds Tryd.pinned (.plain (OpenSpec.upto walRowsSpec)) walRowsUptoCard
end Rows
end Go.Proofs.YtabknmlnlhflmaaDoor
