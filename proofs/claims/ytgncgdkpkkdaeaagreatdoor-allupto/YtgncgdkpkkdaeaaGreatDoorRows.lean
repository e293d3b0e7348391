/-
  NARROWER THAN 'FOR EVERY INPUT', by the rows' own cells (each row's printed sentence says how): Colours: laid · Edits: laid · Unmade: laid · All: laid · Whole: laid · Nested: laid · Fresh: laid · Local: laid.
  DERIVED. THE GIVEN ROWS OF THIS SEAT. 8 by the template 'for every input the law returns true; each argument reads behind the call as it read before'; 0 by the template 'total and deterministic' (their statements: YtgncgdkpkkdaeaaGreatDoorTotals.lean).
  GIVEN WITH THE SEED: the statements are not yours to turn. If you find one false, say at which input.
  Laid BY PROGRAM, IN A SANDBOX (cutbox-rows.mjs): the forced cells as the released guide's own fill.sh prints them over the translation 96dc33860212f21c… (all of the seat's roots in one cut). By AI agents, Wed Nov 11 2026. No macro, syntax, notation, axiom, sorry.
-/
import Derived.Test.YtgncgdkpkkdaeaaGreatDoorChecked
import GoSem.Claim
import GoSem.ClaimJoined
import GoSem.ClaimMapViews
import Derived.JoinedTies
import Derived.KernelRfl
namespace Go.Proofs.YtgncgdkpkkdaeaaGreatDoor
/- THE CELL 'sum', in the pinned program and in every row, IS THE sha256 OF THE DUMP (.gsa) THAT YtgncgdkpkkdaeaaGreatDoorProg.lean LOADS. Nothing in Lean hashes anything: it is a label: what it is worth is what the hold of that sum in a sandbox is worth. -/
noncomputable def Tryz.pinned : Pinned := { name := "ytgncgdkpkkdaeaagreatdoor", sum := "96dc33860212f21ccf8b40e48c40889fc648d2ecdf06de254e48053a0360d62f", checked := Tryz.checked }
namespace Rows
def none {H : Type} : Left H := { results := [], args := [] }

/- WHAT THE LISTED PACKAGE-LEVEL VARIABLES READ AS WHEN THE CALL BEGINS. Each datum BY PROGRAM (the guide's laid-datum.mjs) off the statement by which the dump's own 'gosem.cut.vars' lays the variable. In a bare row this is a premise. The card (YtgncgdkpkkdaeaaGreatDoorCards.lean) ties it to the program's text. -/
def laid_math_bits_deBruijn64tab {H : Type} : DataW H := .agg [.lit (.int .u8 0), .lit (.int .u8 1), .lit (.int .u8 56), .lit (.int .u8 2), .lit (.int .u8 57), .lit (.int .u8 49), .lit (.int .u8 28), .lit (.int .u8 3), .lit (.int .u8 61), .lit (.int .u8 58), .lit (.int .u8 42), .lit (.int .u8 50), .lit (.int .u8 38), .lit (.int .u8 29), .lit (.int .u8 17), .lit (.int .u8 4), .lit (.int .u8 62), .lit (.int .u8 47), .lit (.int .u8 59), .lit (.int .u8 36), .lit (.int .u8 45), .lit (.int .u8 43), .lit (.int .u8 51), .lit (.int .u8 22), .lit (.int .u8 53), .lit (.int .u8 39), .lit (.int .u8 33), .lit (.int .u8 30), .lit (.int .u8 24), .lit (.int .u8 18), .lit (.int .u8 12), .lit (.int .u8 5), .lit (.int .u8 63), .lit (.int .u8 55), .lit (.int .u8 48), .lit (.int .u8 27), .lit (.int .u8 60), .lit (.int .u8 41), .lit (.int .u8 37), .lit (.int .u8 16), .lit (.int .u8 46), .lit (.int .u8 35), .lit (.int .u8 44), .lit (.int .u8 21), .lit (.int .u8 52), .lit (.int .u8 32), .lit (.int .u8 23), .lit (.int .u8 11), .lit (.int .u8 54), .lit (.int .u8 26), .lit (.int .u8 40), .lit (.int .u8 15), .lit (.int .u8 34), .lit (.int .u8 20), .lit (.int .u8 31), .lit (.int .u8 10), .lit (.int .u8 25), .lit (.int .u8 14), .lit (.int .u8 19), .lit (.int .u8 9), .lit (.int .u8 13), .lit (.int .u8 8), .lit (.int .u8 7), .lit (.int .u8 6)]

/-- 'tintlaw.Colours': WHATEVER THE INPUT: true; the input reads as it did. -/
def coloursSpec : ChangeSpec := { name := "colours", fn := fun _ => fun
  | [d1, d2] => { results := [.lit (.bool true)], args := [d1, d2] }
  | _ => none }
def coloursRow : OpenClaim := { program := "ytgncgdkpkkdaeaagreatdoor", sum := "96dc33860212f21ccf8b40e48c40889fc648d2ecdf06de254e48053a0360d62f", func := "tint/tintlaw.Colours", spec := "colours", inPlace := ["internal/bytealg.IndexByteString", "internal/bytealg.IndexString", "internal/bytealg.CountString"], unfollowed := true, recurses := true, named := ["internal/bytealg.MaxLen", "math/bits.deBruijn64tab"], plainKeys := false, apart := false, laid := [("math/bits.deBruijn64tab", laid_math_bits_deBruijn64tab)] }
def ColoursSaid : Prop := coloursRow.holds Tryz.pinned (OpenSpec.ofChange coloursSpec)

/-- ITS FALSE NEIGHBOUR: 'it returns false'. Refute it at one input. -/
def coloursWrong : ChangeSpec := { name := "colours", fn := fun _ => fun
  | [d1, d2] => { results := [.lit (.bool false)], args := [d1, d2] }
  | _ => none }
def ColoursWrongFalsely : Prop := coloursRow.holds Tryz.pinned (OpenSpec.ofChange coloursWrong)

/-- 'tintlaw.Edits': WHATEVER THE INPUT: true; the input reads as it did. -/
def editsSpec : ChangeSpec := { name := "edits", fn := fun _ => fun
  | [d1, d2, d3] => { results := [.lit (.bool true)], args := [d1, d2, d3] }
  | _ => none }
def editsRow : OpenClaim := { program := "ytgncgdkpkkdaeaagreatdoor", sum := "96dc33860212f21ccf8b40e48c40889fc648d2ecdf06de254e48053a0360d62f", func := "tint/tintlaw.Edits", spec := "edits", inPlace := ["internal/bytealg.IndexByteString", "internal/bytealg.IndexString", "internal/bytealg.CountString", "internal/abi.NoEscape", "internal/bytealg.MakeNoZero"], unfollowed := true, recurses := true, named := ["internal/bytealg.MaxLen", "math/bits.deBruijn64tab"], plainKeys := false, apart := false, laid := [("math/bits.deBruijn64tab", laid_math_bits_deBruijn64tab)] }
def EditsSaid : Prop := editsRow.holds Tryz.pinned (OpenSpec.ofChange editsSpec)

/-- ITS FALSE NEIGHBOUR: 'it returns false'. Refute it at one input. -/
def editsWrong : ChangeSpec := { name := "edits", fn := fun _ => fun
  | [d1, d2, d3] => { results := [.lit (.bool false)], args := [d1, d2, d3] }
  | _ => none }
def EditsWrongFalsely : Prop := editsRow.holds Tryz.pinned (OpenSpec.ofChange editsWrong)

/-- 'tintlaw.Unmade': WHATEVER THE INPUT: true; the input reads as it did. -/
def unmadeSpec : ChangeSpec := { name := "unmade", fn := fun _ => fun
  | [] => { results := [.lit (.bool true)], args := [] }
  | _ => none }
def unmadeRow : OpenClaim := { program := "ytgncgdkpkkdaeaagreatdoor", sum := "96dc33860212f21ccf8b40e48c40889fc648d2ecdf06de254e48053a0360d62f", func := "tint/tintlaw.Unmade", spec := "unmade", inPlace := ["internal/bytealg.CountString", "internal/bytealg.IndexByteString", "internal/bytealg.IndexString", "internal/abi.NoEscape", "internal/bytealg.MakeNoZero"], unfollowed := true, recurses := true, named := ["internal/bytealg.MaxLen", "math/bits.deBruijn64tab"], plainKeys := false, apart := false, laid := [("math/bits.deBruijn64tab", laid_math_bits_deBruijn64tab)] }
def UnmadeSaid : Prop := unmadeRow.holds Tryz.pinned (OpenSpec.ofChange unmadeSpec)

/-- ITS FALSE NEIGHBOUR: 'it returns false'. Refute it at one input. -/
def unmadeWrong : ChangeSpec := { name := "unmade", fn := fun _ => fun
  | [] => { results := [.lit (.bool false)], args := [] }
  | _ => none }
def UnmadeWrongFalsely : Prop := unmadeRow.holds Tryz.pinned (OpenSpec.ofChange unmadeWrong)

/-- 'tintlaw.All': WHATEVER THE INPUT: true; the input reads as it did. -/
def allSpec : ChangeSpec := { name := "all", fn := fun _ => fun
  | [d] => { results := [.lit (.bool true)], args := [d] }
  | _ => none }
def allRow : OpenClaim := { program := "ytgncgdkpkkdaeaagreatdoor", sum := "96dc33860212f21ccf8b40e48c40889fc648d2ecdf06de254e48053a0360d62f", func := "tint/tintlaw.All", spec := "all", inPlace := ["internal/bytealg.IndexByteString", "internal/bytealg.IndexString", "internal/bytealg.CountString", "internal/abi.NoEscape", "internal/bytealg.MakeNoZero"], unfollowed := true, recurses := true, named := ["internal/bytealg.MaxLen", "math/bits.deBruijn64tab"], plainKeys := false, apart := false, laid := [("math/bits.deBruijn64tab", laid_math_bits_deBruijn64tab)] }
def AllSaid : Prop := allRow.holds Tryz.pinned (OpenSpec.ofChange allSpec)

/-- ITS FALSE NEIGHBOUR: 'it returns false'. Refute it at one input. -/
def allWrong : ChangeSpec := { name := "all", fn := fun _ => fun
  | [d] => { results := [.lit (.bool false)], args := [d] }
  | _ => none }
def AllWrongFalsely : Prop := allRow.holds Tryz.pinned (OpenSpec.ofChange allWrong)

/-- 'tintkeep.Whole': WHATEVER THE INPUT: true; the input reads as it did. -/
def wholeSpec : ChangeSpec := { name := "whole", fn := fun _ => fun
  | [d] => { results := [.lit (.bool true)], args := [d] }
  | _ => none }
def wholeRow : OpenClaim := { program := "ytgncgdkpkkdaeaagreatdoor", sum := "96dc33860212f21ccf8b40e48c40889fc648d2ecdf06de254e48053a0360d62f", func := "tint/tintkeep.Whole", spec := "whole", inPlace := ["internal/bytealg.IndexByteString", "internal/bytealg.IndexString", "internal/bytealg.CountString"], unfollowed := true, recurses := true, named := ["internal/bytealg.MaxLen", "math/bits.deBruijn64tab"], plainKeys := false, apart := false, laid := [("math/bits.deBruijn64tab", laid_math_bits_deBruijn64tab)] }
def WholeSaid : Prop := wholeRow.holds Tryz.pinned (OpenSpec.ofChange wholeSpec)

/-- ITS FALSE NEIGHBOUR: 'it returns false'. Refute it at one input. -/
def wholeWrong : ChangeSpec := { name := "whole", fn := fun _ => fun
  | [d] => { results := [.lit (.bool false)], args := [d] }
  | _ => none }
def WholeWrongFalsely : Prop := wholeRow.holds Tryz.pinned (OpenSpec.ofChange wholeWrong)

/-- 'tintkeep.Nested': WHATEVER THE INPUT: true; the input reads as it did. -/
def nestedSpec : ChangeSpec := { name := "nested", fn := fun _ => fun
  | [d] => { results := [.lit (.bool true)], args := [d] }
  | _ => none }
def nestedRow : OpenClaim := { program := "ytgncgdkpkkdaeaagreatdoor", sum := "96dc33860212f21ccf8b40e48c40889fc648d2ecdf06de254e48053a0360d62f", func := "tint/tintkeep.Nested", spec := "nested", inPlace := ["internal/bytealg.IndexByteString", "internal/bytealg.IndexString", "internal/bytealg.CountString"], unfollowed := true, recurses := true, named := ["internal/bytealg.MaxLen", "math/bits.deBruijn64tab"], plainKeys := false, apart := false, laid := [("math/bits.deBruijn64tab", laid_math_bits_deBruijn64tab)] }
def NestedSaid : Prop := nestedRow.holds Tryz.pinned (OpenSpec.ofChange nestedSpec)

/-- ITS FALSE NEIGHBOUR: 'it returns false'. Refute it at one input. -/
def nestedWrong : ChangeSpec := { name := "nested", fn := fun _ => fun
  | [d] => { results := [.lit (.bool false)], args := [d] }
  | _ => none }
def NestedWrongFalsely : Prop := nestedRow.holds Tryz.pinned (OpenSpec.ofChange nestedWrong)

/-- 'tintkeep.Fresh': WHATEVER THE INPUT: true; the input reads as it did. -/
def freshSpec : ChangeSpec := { name := "fresh", fn := fun _ => fun
  | [d1, d2] => { results := [.lit (.bool true)], args := [d1, d2] }
  | _ => none }
def freshRow : OpenClaim := { program := "ytgncgdkpkkdaeaagreatdoor", sum := "96dc33860212f21ccf8b40e48c40889fc648d2ecdf06de254e48053a0360d62f", func := "tint/tintkeep.Fresh", spec := "fresh", inPlace := ["internal/bytealg.IndexByteString", "internal/bytealg.IndexString", "internal/bytealg.CountString", "internal/abi.NoEscape", "internal/bytealg.MakeNoZero"], unfollowed := true, recurses := true, named := ["internal/bytealg.MaxLen", "math/bits.deBruijn64tab"], plainKeys := false, apart := false, laid := [("math/bits.deBruijn64tab", laid_math_bits_deBruijn64tab)] }
def FreshSaid : Prop := freshRow.holds Tryz.pinned (OpenSpec.ofChange freshSpec)

/-- ITS FALSE NEIGHBOUR: 'it returns false'. Refute it at one input. -/
def freshWrong : ChangeSpec := { name := "fresh", fn := fun _ => fun
  | [d1, d2] => { results := [.lit (.bool false)], args := [d1, d2] }
  | _ => none }
def FreshWrongFalsely : Prop := freshRow.holds Tryz.pinned (OpenSpec.ofChange freshWrong)

/-- 'tintkeep.Local': WHATEVER THE INPUT: true; the input reads as it did. -/
def localSpec : ChangeSpec := { name := "local", fn := fun _ => fun
  | [d1, d2] => { results := [.lit (.bool true)], args := [d1, d2] }
  | _ => none }
def localRow : OpenClaim := { program := "ytgncgdkpkkdaeaagreatdoor", sum := "96dc33860212f21ccf8b40e48c40889fc648d2ecdf06de254e48053a0360d62f", func := "tint/tintkeep.Local", spec := "local", inPlace := ["internal/bytealg.IndexByteString", "internal/bytealg.IndexString", "internal/bytealg.CountString", "internal/abi.NoEscape", "internal/bytealg.MakeNoZero"], unfollowed := true, recurses := true, named := ["internal/bytealg.MaxLen", "math/bits.deBruijn64tab"], plainKeys := false, apart := false, laid := [("math/bits.deBruijn64tab", laid_math_bits_deBruijn64tab)] }
def LocalSaid : Prop := localRow.holds Tryz.pinned (OpenSpec.ofChange localSpec)

/-- ITS FALSE NEIGHBOUR: 'it returns false'. Refute it at one input. -/
def localWrong : ChangeSpec := { name := "local", fn := fun _ => fun
  | [d1, d2] => { results := [.lit (.bool false)], args := [d1, d2] }
  | _ => none }
def LocalWrongFalsely : Prop := localRow.holds Tryz.pinned (OpenSpec.ofChange localWrong)

/- THE SECOND FORM. 'bulk': how many values and letters a reading holds, each counted each time it is reached (what is shared counts as often as it is met; a slice's spare places count too). A statement '..UptoSaid' is the law's where the arguments, and the package variables that the reading takes, are together of bulk at most 1048576: NARROWER than '..Said'. Prove '..Said' where nothing that the law and all that it calls make is longer than what came in: it says more and counts as full. Else prove '..UptoSaid'. A law counts once. -/
mutual
def uptoBulk {H : Type} : DataW H → Nat
  | .lit (.string bytes) => bytes.length + 1
  | .lit _ => 1
  | .nil => 1
  | .ptr d => uptoBulk d + 1
  | .slice elems spare => uptoBulkAll elems + uptoBulkAll spare + 1
  | .agg parts => uptoBulkAll parts + 1
  | .iface _ d => uptoBulk d + 1
  | .map entries => uptoBulkEntries entries + 1
  | .held _ => 1
def uptoBulkAll {H : Type} : List (DataW H) → Nat
  | [] => 0
  | d :: r => uptoBulk d + uptoBulkAll r
def uptoBulkEntries {H : Type} : List (Lit × DataW H) → Nat
  | [] => 0
  | x :: r => uptoBulkEntry x + uptoBulkEntries r
def uptoBulkEntry {H : Type} : Lit × DataW H → Nat
  | (.string bytes, d) => bytes.length + uptoBulk d + 1
  | (_, d) => uptoBulk d + 1
 end
def uptoSmall : (H : Type) → List (DataW H) → Bool := fun _ ds => decide (uptoBulkAll ds ≤ 1048576)
def OpenSpec.upto (s : _root_.Go.ChangeSpec) : _root_.Go.OpenSpec := { _root_.Go.OpenSpec.ofChange s with cond := some uptoSmall }

/-- 'tintlaw.Colours', WHERE WHAT IT READS IS OF BULK AT MOST 1048576: true; the input reads as it did. -/
def coloursUptoRow : OpenClaim := { program := "ytgncgdkpkkdaeaagreatdoor", sum := "96dc33860212f21ccf8b40e48c40889fc648d2ecdf06de254e48053a0360d62f", func := "tint/tintlaw.Colours", spec := "colours", inPlace := ["internal/bytealg.IndexByteString", "internal/bytealg.IndexString", "internal/bytealg.CountString"], unfollowed := true, recurses := true, named := ["internal/bytealg.MaxLen", "math/bits.deBruijn64tab"], plainKeys := false, apart := false, laid := [("math/bits.deBruijn64tab", laid_math_bits_deBruijn64tab)], narrowed := true }
def ColoursUptoSaid : Prop := coloursUptoRow.holds Tryz.pinned (OpenSpec.upto coloursSpec)

/-- 'tintlaw.Edits', WHERE WHAT IT READS IS OF BULK AT MOST 1048576: true; the input reads as it did. -/
def editsUptoRow : OpenClaim := { program := "ytgncgdkpkkdaeaagreatdoor", sum := "96dc33860212f21ccf8b40e48c40889fc648d2ecdf06de254e48053a0360d62f", func := "tint/tintlaw.Edits", spec := "edits", inPlace := ["internal/bytealg.IndexByteString", "internal/bytealg.IndexString", "internal/bytealg.CountString", "internal/abi.NoEscape", "internal/bytealg.MakeNoZero"], unfollowed := true, recurses := true, named := ["internal/bytealg.MaxLen", "math/bits.deBruijn64tab"], plainKeys := false, apart := false, laid := [("math/bits.deBruijn64tab", laid_math_bits_deBruijn64tab)], narrowed := true }
def EditsUptoSaid : Prop := editsUptoRow.holds Tryz.pinned (OpenSpec.upto editsSpec)

/-- 'tintlaw.Unmade', WHERE WHAT IT READS IS OF BULK AT MOST 1048576: true; the input reads as it did. -/
def unmadeUptoRow : OpenClaim := { program := "ytgncgdkpkkdaeaagreatdoor", sum := "96dc33860212f21ccf8b40e48c40889fc648d2ecdf06de254e48053a0360d62f", func := "tint/tintlaw.Unmade", spec := "unmade", inPlace := ["internal/bytealg.CountString", "internal/bytealg.IndexByteString", "internal/bytealg.IndexString", "internal/abi.NoEscape", "internal/bytealg.MakeNoZero"], unfollowed := true, recurses := true, named := ["internal/bytealg.MaxLen", "math/bits.deBruijn64tab"], plainKeys := false, apart := false, laid := [("math/bits.deBruijn64tab", laid_math_bits_deBruijn64tab)], narrowed := true }
def UnmadeUptoSaid : Prop := unmadeUptoRow.holds Tryz.pinned (OpenSpec.upto unmadeSpec)

/-- 'tintlaw.All', WHERE WHAT IT READS IS OF BULK AT MOST 1048576: true; the input reads as it did. -/
def allUptoRow : OpenClaim := { program := "ytgncgdkpkkdaeaagreatdoor", sum := "96dc33860212f21ccf8b40e48c40889fc648d2ecdf06de254e48053a0360d62f", func := "tint/tintlaw.All", spec := "all", inPlace := ["internal/bytealg.IndexByteString", "internal/bytealg.IndexString", "internal/bytealg.CountString", "internal/abi.NoEscape", "internal/bytealg.MakeNoZero"], unfollowed := true, recurses := true, named := ["internal/bytealg.MaxLen", "math/bits.deBruijn64tab"], plainKeys := false, apart := false, laid := [("math/bits.deBruijn64tab", laid_math_bits_deBruijn64tab)], narrowed := true }
def AllUptoSaid : Prop := allUptoRow.holds Tryz.pinned (OpenSpec.upto allSpec)

/-- 'tintkeep.Whole', WHERE WHAT IT READS IS OF BULK AT MOST 1048576: true; the input reads as it did. -/
def wholeUptoRow : OpenClaim := { program := "ytgncgdkpkkdaeaagreatdoor", sum := "96dc33860212f21ccf8b40e48c40889fc648d2ecdf06de254e48053a0360d62f", func := "tint/tintkeep.Whole", spec := "whole", inPlace := ["internal/bytealg.IndexByteString", "internal/bytealg.IndexString", "internal/bytealg.CountString"], unfollowed := true, recurses := true, named := ["internal/bytealg.MaxLen", "math/bits.deBruijn64tab"], plainKeys := false, apart := false, laid := [("math/bits.deBruijn64tab", laid_math_bits_deBruijn64tab)], narrowed := true }
def WholeUptoSaid : Prop := wholeUptoRow.holds Tryz.pinned (OpenSpec.upto wholeSpec)

/-- 'tintkeep.Nested', WHERE WHAT IT READS IS OF BULK AT MOST 1048576: true; the input reads as it did. -/
def nestedUptoRow : OpenClaim := { program := "ytgncgdkpkkdaeaagreatdoor", sum := "96dc33860212f21ccf8b40e48c40889fc648d2ecdf06de254e48053a0360d62f", func := "tint/tintkeep.Nested", spec := "nested", inPlace := ["internal/bytealg.IndexByteString", "internal/bytealg.IndexString", "internal/bytealg.CountString"], unfollowed := true, recurses := true, named := ["internal/bytealg.MaxLen", "math/bits.deBruijn64tab"], plainKeys := false, apart := false, laid := [("math/bits.deBruijn64tab", laid_math_bits_deBruijn64tab)], narrowed := true }
def NestedUptoSaid : Prop := nestedUptoRow.holds Tryz.pinned (OpenSpec.upto nestedSpec)

/-- 'tintkeep.Fresh', WHERE WHAT IT READS IS OF BULK AT MOST 1048576: true; the input reads as it did. -/
def freshUptoRow : OpenClaim := { program := "ytgncgdkpkkdaeaagreatdoor", sum := "96dc33860212f21ccf8b40e48c40889fc648d2ecdf06de254e48053a0360d62f", func := "tint/tintkeep.Fresh", spec := "fresh", inPlace := ["internal/bytealg.IndexByteString", "internal/bytealg.IndexString", "internal/bytealg.CountString", "internal/abi.NoEscape", "internal/bytealg.MakeNoZero"], unfollowed := true, recurses := true, named := ["internal/bytealg.MaxLen", "math/bits.deBruijn64tab"], plainKeys := false, apart := false, laid := [("math/bits.deBruijn64tab", laid_math_bits_deBruijn64tab)], narrowed := true }
def FreshUptoSaid : Prop := freshUptoRow.holds Tryz.pinned (OpenSpec.upto freshSpec)

/-- 'tintkeep.Local', WHERE WHAT IT READS IS OF BULK AT MOST 1048576: true; the input reads as it did. -/
def localUptoRow : OpenClaim := { program := "ytgncgdkpkkdaeaagreatdoor", sum := "96dc33860212f21ccf8b40e48c40889fc648d2ecdf06de254e48053a0360d62f", func := "tint/tintkeep.Local", spec := "local", inPlace := ["internal/bytealg.IndexByteString", "internal/bytealg.IndexString", "internal/bytealg.CountString", "internal/abi.NoEscape", "internal/bytealg.MakeNoZero"], unfollowed := true, recurses := true, named := ["internal/bytealg.MaxLen", "math/bits.deBruijn64tab"], plainKeys := false, apart := false, laid := [("math/bits.deBruijn64tab", laid_math_bits_deBruijn64tab)], narrowed := true }
def LocalUptoSaid : Prop := localUptoRow.holds Tryz.pinned (OpenSpec.upto localSpec)

end Rows
end Go.Proofs.YtgncgdkpkkdaeaaGreatDoor
