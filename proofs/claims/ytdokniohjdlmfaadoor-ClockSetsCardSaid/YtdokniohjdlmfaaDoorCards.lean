/-
  DERIVED. GIVEN WITH THE SEED: THE CARDS: each row of YtdokniohjdlmfaaDoorRows.lean that lists a variable, with what it lists TIED to the program's text (the seventh form; the later family's looks); each row that meets fmt, with fmt's text TOLD by the authors' own Lean function (tested against real Go, not proved from fmt's source: count such statements apart). THE CARD IS WHAT COUNTS. Prove the row's statement (the work); the ties are given (YtdokniohjdlmfaaDoorTie.lean); close each card by the builder's one call (the guide's Derived/Test/ToyasCard.lean, 'card_holds'). Laid BY PROGRAM, IN A SANDBOX (cutbox-door.mjs). By AI agents, Wed Nov 11 2026. No macro, syntax, notation, axiom, sorry.
-/
import Derived.Test.YtdokniohjdlmfaaDoorRows
import GoSem.ClaimSeven
namespace Go.Proofs.YtdokniohjdlmfaaDoor
namespace Rows

/-- THE TIED CARD OF 'vesperslaw03.ClockMinutes'. -/
def clockMinutesCard : Claim7 := { stood := { row := clockMinutesRow, standIns := [], harness := (true, "b65613bc51cfeae51da0daaf2a1feb529ba1acfd2dd37999b058b91a35133615"), looks := false }, kinds := [], alts := [], laidByText := true, laidKinds := [.data, .data, .data], laidTests := true, laidLooks := .later }
def ClockMinutesCardSaid : Prop := Claim7.holds Tryd.pinned (.plain (OpenSpec.ofChange clockMinutesSpec)) clockMinutesCard

/-- THE TIED CARD OF 'vesperslaw03.ClockStamps'. -/
def clockStampsCard : Claim7 := { stood := { row := clockStampsRow, standIns := [], harness := (true, "b65613bc51cfeae51da0daaf2a1feb529ba1acfd2dd37999b058b91a35133615"), looks := false }, kinds := [], alts := [], laidByText := true, laidKinds := [.data, .data, .data], laidTests := true, laidLooks := .later }
def ClockStampsCardSaid : Prop := Claim7.holds Tryd.pinned (.plain (OpenSpec.ofChange clockStampsSpec)) clockStampsCard

/-- THE TIED CARD OF 'vesperslaw03.ClockWeekdays'. -/
def clockWeekdaysCard : Claim7 := { stood := { row := clockWeekdaysRow, standIns := [], harness := (true, "b65613bc51cfeae51da0daaf2a1feb529ba1acfd2dd37999b058b91a35133615"), looks := false }, kinds := [], alts := [], laidByText := true, laidKinds := [.data, .data, .data, .data], laidTests := true, laidLooks := .later }
def ClockWeekdaysCardSaid : Prop := Claim7.holds Tryd.pinned (.plain (OpenSpec.ofChange clockWeekdaysSpec)) clockWeekdaysCard

/-- THE TIED CARD OF 'vesperslaw03.ClockLabels'. -/
def clockLabelsCard : Claim7 := { stood := { row := clockLabelsRow, standIns := [], harness := (true, "b65613bc51cfeae51da0daaf2a1feb529ba1acfd2dd37999b058b91a35133615"), looks := false }, kinds := [], alts := [], laidByText := true, laidKinds := [.data, .data, .data], laidTests := true, laidLooks := .later }
def ClockLabelsCardSaid : Prop := Claim7.holds Tryd.pinned (.plain (OpenSpec.ofChange clockLabelsSpec)) clockLabelsCard

/-- THE TIED CARD OF 'vesperslaw03.ClockOrder'. -/
def clockOrderCard : Claim7 := { stood := { row := clockOrderRow, standIns := [], harness := (true, "b65613bc51cfeae51da0daaf2a1feb529ba1acfd2dd37999b058b91a35133615"), looks := false }, kinds := [], alts := [], laidByText := true, laidKinds := [.data, .data, .data], laidTests := true, laidLooks := .later }
def ClockOrderCardSaid : Prop := Claim7.holds Tryd.pinned (.plain (OpenSpec.ofChange clockOrderSpec)) clockOrderCard

/-- THE TIED CARD OF 'vesperslaw03.ClockSets'. -/
def clockSetsCard : Claim7 := { stood := { row := clockSetsRow, standIns := [], harness := (true, "b65613bc51cfeae51da0daaf2a1feb529ba1acfd2dd37999b058b91a35133615"), looks := false }, kinds := [], alts := [], laidByText := true, laidKinds := [.data, .data, .data, .data], laidTests := true, laidLooks := .later }
def ClockSetsCardSaid : Prop := Claim7.holds Tryd.pinned (.plain (OpenSpec.ofChange clockSetsSpec)) clockSetsCard

/-- THE TIED CARD OF 'vesperslaw03.ClockJoins'. -/
def clockJoinsCard : Claim7 := { stood := { row := clockJoinsRow, standIns := [], harness := (true, "b65613bc51cfeae51da0daaf2a1feb529ba1acfd2dd37999b058b91a35133615"), looks := false }, kinds := [], alts := [], laidByText := true, laidKinds := [.data, .data, .data], laidTests := true, laidLooks := .later }
def ClockJoinsCardSaid : Prop := Claim7.holds Tryd.pinned (.plain (OpenSpec.ofChange clockJoinsSpec)) clockJoinsCard

/-- THE SECOND FORM's CARD OF 'vesperslaw03.ClockMinutes'. -/
def clockMinutesUptoCard : Claim7 := { stood := { row := clockMinutesUptoRow, standIns := [], harness := (true, "b65613bc51cfeae51da0daaf2a1feb529ba1acfd2dd37999b058b91a35133615"), looks := false }, kinds := [], alts := [], laidByText := true, laidKinds := [.data, .data, .data], laidTests := true, laidLooks := .later }
def ClockMinutesUptoCardSaid : Prop := Claim7.holds Tryd.pinned (.plain (OpenSpec.upto clockMinutesSpec)) clockMinutesUptoCard

/-- THE SECOND FORM's CARD OF 'vesperslaw03.ClockStamps'. -/
def clockStampsUptoCard : Claim7 := { stood := { row := clockStampsUptoRow, standIns := [], harness := (true, "b65613bc51cfeae51da0daaf2a1feb529ba1acfd2dd37999b058b91a35133615"), looks := false }, kinds := [], alts := [], laidByText := true, laidKinds := [.data, .data, .data], laidTests := true, laidLooks := .later }
def ClockStampsUptoCardSaid : Prop := Claim7.holds Tryd.pinned (.plain (OpenSpec.upto clockStampsSpec)) clockStampsUptoCard

/-- THE SECOND FORM's CARD OF 'vesperslaw03.ClockWeekdays'. -/
def clockWeekdaysUptoCard : Claim7 := { stood := { row := clockWeekdaysUptoRow, standIns := [], harness := (true, "b65613bc51cfeae51da0daaf2a1feb529ba1acfd2dd37999b058b91a35133615"), looks := false }, kinds := [], alts := [], laidByText := true, laidKinds := [.data, .data, .data, .data], laidTests := true, laidLooks := .later }
def ClockWeekdaysUptoCardSaid : Prop := Claim7.holds Tryd.pinned (.plain (OpenSpec.upto clockWeekdaysSpec)) clockWeekdaysUptoCard

/-- THE SECOND FORM's CARD OF 'vesperslaw03.ClockLabels'. -/
def clockLabelsUptoCard : Claim7 := { stood := { row := clockLabelsUptoRow, standIns := [], harness := (true, "b65613bc51cfeae51da0daaf2a1feb529ba1acfd2dd37999b058b91a35133615"), looks := false }, kinds := [], alts := [], laidByText := true, laidKinds := [.data, .data, .data], laidTests := true, laidLooks := .later }
def ClockLabelsUptoCardSaid : Prop := Claim7.holds Tryd.pinned (.plain (OpenSpec.upto clockLabelsSpec)) clockLabelsUptoCard

/-- THE SECOND FORM's CARD OF 'vesperslaw03.ClockOrder'. -/
def clockOrderUptoCard : Claim7 := { stood := { row := clockOrderUptoRow, standIns := [], harness := (true, "b65613bc51cfeae51da0daaf2a1feb529ba1acfd2dd37999b058b91a35133615"), looks := false }, kinds := [], alts := [], laidByText := true, laidKinds := [.data, .data, .data], laidTests := true, laidLooks := .later }
def ClockOrderUptoCardSaid : Prop := Claim7.holds Tryd.pinned (.plain (OpenSpec.upto clockOrderSpec)) clockOrderUptoCard

/-- THE SECOND FORM's CARD OF 'vesperslaw03.ClockSets'. -/
def clockSetsUptoCard : Claim7 := { stood := { row := clockSetsUptoRow, standIns := [], harness := (true, "b65613bc51cfeae51da0daaf2a1feb529ba1acfd2dd37999b058b91a35133615"), looks := false }, kinds := [], alts := [], laidByText := true, laidKinds := [.data, .data, .data, .data], laidTests := true, laidLooks := .later }
def ClockSetsUptoCardSaid : Prop := Claim7.holds Tryd.pinned (.plain (OpenSpec.upto clockSetsSpec)) clockSetsUptoCard

/-- THE SECOND FORM's CARD OF 'vesperslaw03.ClockJoins'. -/
def clockJoinsUptoCard : Claim7 := { stood := { row := clockJoinsUptoRow, standIns := [], harness := (true, "b65613bc51cfeae51da0daaf2a1feb529ba1acfd2dd37999b058b91a35133615"), looks := false }, kinds := [], alts := [], laidByText := true, laidKinds := [.data, .data, .data], laidTests := true, laidLooks := .later }
def ClockJoinsUptoCardSaid : Prop := Claim7.holds Tryd.pinned (.plain (OpenSpec.upto clockJoinsSpec)) clockJoinsUptoCard
end Rows
end Go.Proofs.YtdokniohjdlmfaaDoor
