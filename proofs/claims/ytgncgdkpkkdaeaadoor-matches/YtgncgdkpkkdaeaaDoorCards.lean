/-
  DERIVED. GIVEN WITH THE SEED: THE CARDS: each row of YtgncgdkpkkdaeaaDoorRows.lean that lists a variable, with what it lists TIED to the program's text (the seventh form; the later family's looks); each row that meets fmt, with fmt's text TOLD by the authors' own Lean function (tested against real Go, not proved from fmt's source: count such statements apart). THE CARD IS WHAT COUNTS. Prove the row's statement (the work); the ties are given (YtgncgdkpkkdaeaaDoorTie.lean); close each card by the builder's one call (the guide's Derived/Test/ToyasCard.lean, 'card_holds'). Laid BY PROGRAM, IN A SANDBOX (cutbox-door.mjs). By AI agents, Wed Nov 11 2026. No macro, syntax, notation, axiom, sorry.
-/
import Derived.Test.YtgncgdkpkkdaeaaDoorRows
import GoSem.ClaimSeven
namespace Go.Proofs.YtgncgdkpkkdaeaaDoor
namespace Rows

/-- THE TIED CARD OF 'tintlaw.Matches'. -/
def matchesCard : Claim7 := { stood := { row := matchesRow, standIns := [], harness := (true, "e8220bccc3c37795ef3fee2f1502913e8670aa8154ffccf5a3f5652aac0c2387"), looks := false }, kinds := [], alts := [], laidByText := true, laidKinds := [.data], laidTests := true, laidLooks := .later }
def MatchesCardSaid : Prop := Claim7.holds Tryd.pinned (.plain (OpenSpec.ofChange matchesSpec)) matchesCard

/-- THE TIED CARD OF 'tintkeep.Either'. -/
def eitherCard : Claim7 := { stood := { row := eitherRow, standIns := [], harness := (true, "e8220bccc3c37795ef3fee2f1502913e8670aa8154ffccf5a3f5652aac0c2387"), looks := false }, kinds := [], alts := [], laidByText := true, laidKinds := [.data], laidTests := true, laidLooks := .later }
def EitherCardSaid : Prop := Claim7.holds Tryd.pinned (.plain (OpenSpec.ofChange eitherSpec)) eitherCard

/-- THE TIED CARD OF 'tintkeep.Words'. -/
def wordsCard : Claim7 := { stood := { row := wordsRow, standIns := [], harness := (true, "e8220bccc3c37795ef3fee2f1502913e8670aa8154ffccf5a3f5652aac0c2387"), looks := false }, kinds := [], alts := [], laidByText := true, laidKinds := [.data], laidTests := true, laidLooks := .later }
def WordsCardSaid : Prop := Claim7.holds Tryd.pinned (.plain (OpenSpec.ofChange wordsSpec)) wordsCard

/-- THE SECOND FORM's CARD OF 'tintlaw.Matches'. -/
def matchesUptoCard : Claim7 := { stood := { row := matchesUptoRow, standIns := [], harness := (true, "e8220bccc3c37795ef3fee2f1502913e8670aa8154ffccf5a3f5652aac0c2387"), looks := false }, kinds := [], alts := [], laidByText := true, laidKinds := [.data], laidTests := true, laidLooks := .later }
def MatchesUptoCardSaid : Prop := Claim7.holds Tryd.pinned (.plain (OpenSpec.upto matchesSpec)) matchesUptoCard

/-- THE SECOND FORM's CARD OF 'tintkeep.Either'. -/
def eitherUptoCard : Claim7 := { stood := { row := eitherUptoRow, standIns := [], harness := (true, "e8220bccc3c37795ef3fee2f1502913e8670aa8154ffccf5a3f5652aac0c2387"), looks := false }, kinds := [], alts := [], laidByText := true, laidKinds := [.data], laidTests := true, laidLooks := .later }
def EitherUptoCardSaid : Prop := Claim7.holds Tryd.pinned (.plain (OpenSpec.upto eitherSpec)) eitherUptoCard

/-- THE SECOND FORM's CARD OF 'tintkeep.Words'. -/
def wordsUptoCard : Claim7 := { stood := { row := wordsUptoRow, standIns := [], harness := (true, "e8220bccc3c37795ef3fee2f1502913e8670aa8154ffccf5a3f5652aac0c2387"), looks := false }, kinds := [], alts := [], laidByText := true, laidKinds := [.data], laidTests := true, laidLooks := .later }
def WordsUptoCardSaid : Prop := Claim7.holds Tryd.pinned (.plain (OpenSpec.upto wordsSpec)) wordsUptoCard
end Rows
end Go.Proofs.YtgncgdkpkkdaeaaDoor
