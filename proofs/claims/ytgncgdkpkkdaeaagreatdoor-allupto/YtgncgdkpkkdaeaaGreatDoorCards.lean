/-
  DERIVED. GIVEN WITH THE SEED: THE CARDS: each row of YtgncgdkpkkdaeaaGreatDoorRows.lean that lists a variable, with what it lists TIED to the program's text (the seventh form; the later family's looks); each row that meets fmt, with fmt's text TOLD by the authors' own Lean function (tested against real Go, not proved from fmt's source: count such statements apart). THE CARD IS WHAT COUNTS. Prove the row's statement (the work); the ties are given (YtgncgdkpkkdaeaaGreatDoorTie.lean); close each card by the builder's one call (the guide's Derived/Test/ToyasCard.lean, 'card_holds'). Laid BY PROGRAM, IN A SANDBOX (cutbox-door.mjs). By AI agents, Wed Nov 11 2026. No macro, syntax, notation, axiom, sorry.
-/
import Derived.Test.YtgncgdkpkkdaeaaGreatDoorRows
import GoSem.ClaimSeven
namespace Go.Proofs.YtgncgdkpkkdaeaaGreatDoor
namespace Rows

/-- THE TIED CARD OF 'tintlaw.Colours'. -/
def coloursCard : Claim7 := { stood := { row := coloursRow, standIns := [], harness := (true, "2cbd8a36372dad479388bc7981e275a3f5995127994161abfb94b14b344a37cb"), looks := false }, kinds := [], alts := [], laidByText := true, laidKinds := [.data], laidTests := true, laidLooks := .later }
def ColoursCardSaid : Prop := Claim7.holds Tryz.pinned (.plain (OpenSpec.ofChange coloursSpec)) coloursCard

/-- THE TIED CARD OF 'tintlaw.Edits'. -/
def editsCard : Claim7 := { stood := { row := editsRow, standIns := [], harness := (true, "2cbd8a36372dad479388bc7981e275a3f5995127994161abfb94b14b344a37cb"), looks := false }, kinds := [], alts := [], laidByText := true, laidKinds := [.data], laidTests := true, laidLooks := .later }
def EditsCardSaid : Prop := Claim7.holds Tryz.pinned (.plain (OpenSpec.ofChange editsSpec)) editsCard

/-- THE TIED CARD OF 'tintlaw.Unmade'. -/
def unmadeCard : Claim7 := { stood := { row := unmadeRow, standIns := [], harness := (true, "2cbd8a36372dad479388bc7981e275a3f5995127994161abfb94b14b344a37cb"), looks := false }, kinds := [], alts := [], laidByText := true, laidKinds := [.data], laidTests := true, laidLooks := .later }
def UnmadeCardSaid : Prop := Claim7.holds Tryz.pinned (.plain (OpenSpec.ofChange unmadeSpec)) unmadeCard

/-- THE TIED CARD OF 'tintlaw.All'. -/
def allCard : Claim7 := { stood := { row := allRow, standIns := [], harness := (true, "2cbd8a36372dad479388bc7981e275a3f5995127994161abfb94b14b344a37cb"), looks := false }, kinds := [], alts := [], laidByText := true, laidKinds := [.data], laidTests := true, laidLooks := .later }
def AllCardSaid : Prop := Claim7.holds Tryz.pinned (.plain (OpenSpec.ofChange allSpec)) allCard

/-- THE TIED CARD OF 'tintkeep.Whole'. -/
def wholeCard : Claim7 := { stood := { row := wholeRow, standIns := [], harness := (true, "2cbd8a36372dad479388bc7981e275a3f5995127994161abfb94b14b344a37cb"), looks := false }, kinds := [], alts := [], laidByText := true, laidKinds := [.data], laidTests := true, laidLooks := .later }
def WholeCardSaid : Prop := Claim7.holds Tryz.pinned (.plain (OpenSpec.ofChange wholeSpec)) wholeCard

/-- THE TIED CARD OF 'tintkeep.Nested'. -/
def nestedCard : Claim7 := { stood := { row := nestedRow, standIns := [], harness := (true, "2cbd8a36372dad479388bc7981e275a3f5995127994161abfb94b14b344a37cb"), looks := false }, kinds := [], alts := [], laidByText := true, laidKinds := [.data], laidTests := true, laidLooks := .later }
def NestedCardSaid : Prop := Claim7.holds Tryz.pinned (.plain (OpenSpec.ofChange nestedSpec)) nestedCard

/-- THE TIED CARD OF 'tintkeep.Fresh'. -/
def freshCard : Claim7 := { stood := { row := freshRow, standIns := [], harness := (true, "2cbd8a36372dad479388bc7981e275a3f5995127994161abfb94b14b344a37cb"), looks := false }, kinds := [], alts := [], laidByText := true, laidKinds := [.data], laidTests := true, laidLooks := .later }
def FreshCardSaid : Prop := Claim7.holds Tryz.pinned (.plain (OpenSpec.ofChange freshSpec)) freshCard

/-- THE TIED CARD OF 'tintkeep.Local'. -/
def localCard : Claim7 := { stood := { row := localRow, standIns := [], harness := (true, "2cbd8a36372dad479388bc7981e275a3f5995127994161abfb94b14b344a37cb"), looks := false }, kinds := [], alts := [], laidByText := true, laidKinds := [.data], laidTests := true, laidLooks := .later }
def LocalCardSaid : Prop := Claim7.holds Tryz.pinned (.plain (OpenSpec.ofChange localSpec)) localCard

/-- THE SECOND FORM's CARD OF 'tintlaw.Colours'. -/
def coloursUptoCard : Claim7 := { stood := { row := coloursUptoRow, standIns := [], harness := (true, "2cbd8a36372dad479388bc7981e275a3f5995127994161abfb94b14b344a37cb"), looks := false }, kinds := [], alts := [], laidByText := true, laidKinds := [.data], laidTests := true, laidLooks := .later }
def ColoursUptoCardSaid : Prop := Claim7.holds Tryz.pinned (.plain (OpenSpec.upto coloursSpec)) coloursUptoCard

/-- THE SECOND FORM's CARD OF 'tintlaw.Edits'. -/
def editsUptoCard : Claim7 := { stood := { row := editsUptoRow, standIns := [], harness := (true, "2cbd8a36372dad479388bc7981e275a3f5995127994161abfb94b14b344a37cb"), looks := false }, kinds := [], alts := [], laidByText := true, laidKinds := [.data], laidTests := true, laidLooks := .later }
def EditsUptoCardSaid : Prop := Claim7.holds Tryz.pinned (.plain (OpenSpec.upto editsSpec)) editsUptoCard

/-- THE SECOND FORM's CARD OF 'tintlaw.Unmade'. -/
def unmadeUptoCard : Claim7 := { stood := { row := unmadeUptoRow, standIns := [], harness := (true, "2cbd8a36372dad479388bc7981e275a3f5995127994161abfb94b14b344a37cb"), looks := false }, kinds := [], alts := [], laidByText := true, laidKinds := [.data], laidTests := true, laidLooks := .later }
def UnmadeUptoCardSaid : Prop := Claim7.holds Tryz.pinned (.plain (OpenSpec.upto unmadeSpec)) unmadeUptoCard

/-- THE SECOND FORM's CARD OF 'tintlaw.All'. -/
def allUptoCard : Claim7 := { stood := { row := allUptoRow, standIns := [], harness := (true, "2cbd8a36372dad479388bc7981e275a3f5995127994161abfb94b14b344a37cb"), looks := false }, kinds := [], alts := [], laidByText := true, laidKinds := [.data], laidTests := true, laidLooks := .later }
def AllUptoCardSaid : Prop := Claim7.holds Tryz.pinned (.plain (OpenSpec.upto allSpec)) allUptoCard

/-- THE SECOND FORM's CARD OF 'tintkeep.Whole'. -/
def wholeUptoCard : Claim7 := { stood := { row := wholeUptoRow, standIns := [], harness := (true, "2cbd8a36372dad479388bc7981e275a3f5995127994161abfb94b14b344a37cb"), looks := false }, kinds := [], alts := [], laidByText := true, laidKinds := [.data], laidTests := true, laidLooks := .later }
def WholeUptoCardSaid : Prop := Claim7.holds Tryz.pinned (.plain (OpenSpec.upto wholeSpec)) wholeUptoCard

/-- THE SECOND FORM's CARD OF 'tintkeep.Nested'. -/
def nestedUptoCard : Claim7 := { stood := { row := nestedUptoRow, standIns := [], harness := (true, "2cbd8a36372dad479388bc7981e275a3f5995127994161abfb94b14b344a37cb"), looks := false }, kinds := [], alts := [], laidByText := true, laidKinds := [.data], laidTests := true, laidLooks := .later }
def NestedUptoCardSaid : Prop := Claim7.holds Tryz.pinned (.plain (OpenSpec.upto nestedSpec)) nestedUptoCard

/-- THE SECOND FORM's CARD OF 'tintkeep.Fresh'. -/
def freshUptoCard : Claim7 := { stood := { row := freshUptoRow, standIns := [], harness := (true, "2cbd8a36372dad479388bc7981e275a3f5995127994161abfb94b14b344a37cb"), looks := false }, kinds := [], alts := [], laidByText := true, laidKinds := [.data], laidTests := true, laidLooks := .later }
def FreshUptoCardSaid : Prop := Claim7.holds Tryz.pinned (.plain (OpenSpec.upto freshSpec)) freshUptoCard

/-- THE SECOND FORM's CARD OF 'tintkeep.Local'. -/
def localUptoCard : Claim7 := { stood := { row := localUptoRow, standIns := [], harness := (true, "2cbd8a36372dad479388bc7981e275a3f5995127994161abfb94b14b344a37cb"), looks := false }, kinds := [], alts := [], laidByText := true, laidKinds := [.data], laidTests := true, laidLooks := .later }
def LocalUptoCardSaid : Prop := Claim7.holds Tryz.pinned (.plain (OpenSpec.upto localSpec)) localUptoCard
end Rows
end Go.Proofs.YtgncgdkpkkdaeaaGreatDoor
