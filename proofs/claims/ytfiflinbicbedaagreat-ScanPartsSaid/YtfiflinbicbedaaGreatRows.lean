/-
  No cell of these rows narrows 'for every input' (looked for: loops, veiled, ifaces, maps, wideKeys, modest, calm, conditions, laid).
  DERIVED. THE GIVEN ROWS OF THIS SEAT. 8 by the template 'for every input the law returns true; each argument reads behind the call as it read before'; 0 by the template 'total and deterministic' (their statements: YtfiflinbicbedaaGreatTotals.lean).
  GIVEN WITH THE SEED: the statements are not yours to turn. If you find one false, say at which input.
  Laid BY PROGRAM, IN A SANDBOX (cutbox-rows.mjs): the forced cells as the released guide's own fill.sh prints them over the translation 996fc77fc08da170… (all of the seat's roots in one cut). By AI agents, Wed Nov 11 2026. No macro, syntax, notation, axiom, sorry.
-/
import Derived.Test.YtfiflinbicbedaaGreatChecked
import GoSem.Claim
import GoSem.ClaimJoined
import GoSem.ClaimMapViews
import Derived.JoinedTies
import Derived.KernelRfl
namespace Go.Proofs.YtfiflinbicbedaaGreat
/- THE CELL 'sum', in the pinned program and in every row, IS THE sha256 OF THE DUMP (.gsa) THAT YtfiflinbicbedaaGreatProg.lean LOADS. Nothing in Lean hashes anything: it is a label: what it is worth is what the hold of that sum in a sandbox is worth. -/
noncomputable def Tryz.pinned : Pinned := { name := "ytfiflinbicbedaagreat", sum := "996fc77fc08da170cf5df929b1d97e85ed767f7534158817c1c903304fb77128", checked := Tryz.checked }
namespace Rows
def none {H : Type} : Left H := { results := [], args := [] }

/-- 'tailracelaw13.ScanNames': WHATEVER THE INPUT: true; the input reads as it did. -/
def scanNamesSpec : ChangeSpec := { name := "scanNames", fn := fun _ => fun
  | [] => { results := [.lit (.bool true)], args := [] }
  | _ => none }
def scanNamesRow : OpenClaim := { program := "ytfiflinbicbedaagreat", sum := "996fc77fc08da170cf5df929b1d97e85ed767f7534158817c1c903304fb77128", func := "tailrace/tailracelaw13.ScanNames", spec := "scanNames", unfollowed := true, recurses := true, apart := false }
def ScanNamesSaid : Prop := scanNamesRow.holds Tryz.pinned (OpenSpec.ofChange scanNamesSpec)

/-- ITS FALSE NEIGHBOUR: 'it returns false'. Refute it at one input. -/
def scanNamesWrong : ChangeSpec := { name := "scanNames", fn := fun _ => fun
  | [] => { results := [.lit (.bool false)], args := [] }
  | _ => none }
def ScanNamesWrongFalsely : Prop := scanNamesRow.holds Tryz.pinned (OpenSpec.ofChange scanNamesWrong)

/-- 'tailracelaw13.ScanRanges': WHATEVER THE INPUT: true; the input reads as it did. -/
def scanRangesSpec : ChangeSpec := { name := "scanRanges", fn := fun _ => fun
  | [d1, d2, d3, d4, d5] => { results := [.lit (.bool true)], args := [d1, d2, d3, d4, d5] }
  | _ => none }
def scanRangesRow : OpenClaim := { program := "ytfiflinbicbedaagreat", sum := "996fc77fc08da170cf5df929b1d97e85ed767f7534158817c1c903304fb77128", func := "tailrace/tailracelaw13.ScanRanges", spec := "scanRanges", unfollowed := true, recurses := true, apart := false }
def ScanRangesSaid : Prop := scanRangesRow.holds Tryz.pinned (OpenSpec.ofChange scanRangesSpec)

/-- ITS FALSE NEIGHBOUR: 'it returns false'. Refute it at one input. -/
def scanRangesWrong : ChangeSpec := { name := "scanRanges", fn := fun _ => fun
  | [d1, d2, d3, d4, d5] => { results := [.lit (.bool false)], args := [d1, d2, d3, d4, d5] }
  | _ => none }
def ScanRangesWrongFalsely : Prop := scanRangesRow.holds Tryz.pinned (OpenSpec.ofChange scanRangesWrong)

/-- 'tailracelaw13.ScanChecks': WHATEVER THE INPUT: true; the input reads as it did. -/
def scanChecksSpec : ChangeSpec := { name := "scanChecks", fn := fun _ => fun
  | [d1, d2] => { results := [.lit (.bool true)], args := [d1, d2] }
  | _ => none }
def scanChecksRow : OpenClaim := { program := "ytfiflinbicbedaagreat", sum := "996fc77fc08da170cf5df929b1d97e85ed767f7534158817c1c903304fb77128", func := "tailrace/tailracelaw13.ScanChecks", spec := "scanChecks", unfollowed := true, recurses := true, apart := false }
def ScanChecksSaid : Prop := scanChecksRow.holds Tryz.pinned (OpenSpec.ofChange scanChecksSpec)

/-- ITS FALSE NEIGHBOUR: 'it returns false'. Refute it at one input. -/
def scanChecksWrong : ChangeSpec := { name := "scanChecks", fn := fun _ => fun
  | [d1, d2] => { results := [.lit (.bool false)], args := [d1, d2] }
  | _ => none }
def ScanChecksWrongFalsely : Prop := scanChecksRow.holds Tryz.pinned (OpenSpec.ofChange scanChecksWrong)

/-- 'tailracelaw13.ScanParts': WHATEVER THE INPUT: true; the input reads as it did. -/
def scanPartsSpec : ChangeSpec := { name := "scanParts", fn := fun _ => fun
  | [d1, d2, d3] => { results := [.lit (.bool true)], args := [d1, d2, d3] }
  | _ => none }
def scanPartsRow : OpenClaim := { program := "ytfiflinbicbedaagreat", sum := "996fc77fc08da170cf5df929b1d97e85ed767f7534158817c1c903304fb77128", func := "tailrace/tailracelaw13.ScanParts", spec := "scanParts", unfollowed := true, recurses := true, apart := false }
def ScanPartsSaid : Prop := scanPartsRow.holds Tryz.pinned (OpenSpec.ofChange scanPartsSpec)

/-- ITS FALSE NEIGHBOUR: 'it returns false'. Refute it at one input. -/
def scanPartsWrong : ChangeSpec := { name := "scanParts", fn := fun _ => fun
  | [d1, d2, d3] => { results := [.lit (.bool false)], args := [d1, d2, d3] }
  | _ => none }
def ScanPartsWrongFalsely : Prop := scanPartsRow.holds Tryz.pinned (OpenSpec.ofChange scanPartsWrong)

/-- 'tailracelaw13.ScanLost': WHATEVER THE INPUT: true; the input reads as it did. -/
def scanLostSpec : ChangeSpec := { name := "scanLost", fn := fun _ => fun
  | [d1, d2] => { results := [.lit (.bool true)], args := [d1, d2] }
  | _ => none }
def scanLostRow : OpenClaim := { program := "ytfiflinbicbedaagreat", sum := "996fc77fc08da170cf5df929b1d97e85ed767f7534158817c1c903304fb77128", func := "tailrace/tailracelaw13.ScanLost", spec := "scanLost", unfollowed := true, recurses := true, apart := false }
def ScanLostSaid : Prop := scanLostRow.holds Tryz.pinned (OpenSpec.ofChange scanLostSpec)

/-- ITS FALSE NEIGHBOUR: 'it returns false'. Refute it at one input. -/
def scanLostWrong : ChangeSpec := { name := "scanLost", fn := fun _ => fun
  | [d1, d2] => { results := [.lit (.bool false)], args := [d1, d2] }
  | _ => none }
def ScanLostWrongFalsely : Prop := scanLostRow.holds Tryz.pinned (OpenSpec.ofChange scanLostWrong)

/-- 'tailracelaw13.ScanCounts': WHATEVER THE INPUT: true; the input reads as it did. -/
def scanCountsSpec : ChangeSpec := { name := "scanCounts", fn := fun _ => fun
  | [d1, d2, d3] => { results := [.lit (.bool true)], args := [d1, d2, d3] }
  | _ => none }
def scanCountsRow : OpenClaim := { program := "ytfiflinbicbedaagreat", sum := "996fc77fc08da170cf5df929b1d97e85ed767f7534158817c1c903304fb77128", func := "tailrace/tailracelaw13.ScanCounts", spec := "scanCounts", unfollowed := true, recurses := true, apart := false }
def ScanCountsSaid : Prop := scanCountsRow.holds Tryz.pinned (OpenSpec.ofChange scanCountsSpec)

/-- ITS FALSE NEIGHBOUR: 'it returns false'. Refute it at one input. -/
def scanCountsWrong : ChangeSpec := { name := "scanCounts", fn := fun _ => fun
  | [d1, d2, d3] => { results := [.lit (.bool false)], args := [d1, d2, d3] }
  | _ => none }
def ScanCountsWrongFalsely : Prop := scanCountsRow.holds Tryz.pinned (OpenSpec.ofChange scanCountsWrong)

/-- 'tailracelaw13.ScanTurned': WHATEVER THE INPUT: true; the input reads as it did. -/
def scanTurnedSpec : ChangeSpec := { name := "scanTurned", fn := fun _ => fun
  | [d1, d2, d3, d4] => { results := [.lit (.bool true)], args := [d1, d2, d3, d4] }
  | _ => none }
def scanTurnedRow : OpenClaim := { program := "ytfiflinbicbedaagreat", sum := "996fc77fc08da170cf5df929b1d97e85ed767f7534158817c1c903304fb77128", func := "tailrace/tailracelaw13.ScanTurned", spec := "scanTurned", unfollowed := true, recurses := true, apart := false }
def ScanTurnedSaid : Prop := scanTurnedRow.holds Tryz.pinned (OpenSpec.ofChange scanTurnedSpec)

/-- ITS FALSE NEIGHBOUR: 'it returns false'. Refute it at one input. -/
def scanTurnedWrong : ChangeSpec := { name := "scanTurned", fn := fun _ => fun
  | [d1, d2, d3, d4] => { results := [.lit (.bool false)], args := [d1, d2, d3, d4] }
  | _ => none }
def ScanTurnedWrongFalsely : Prop := scanTurnedRow.holds Tryz.pinned (OpenSpec.ofChange scanTurnedWrong)

/-- 'tailracelaw13.ScanNil': WHATEVER THE INPUT: true; the input reads as it did. -/
def scanNilSpec : ChangeSpec := { name := "scanNil", fn := fun _ => fun
  | [d1, d2] => { results := [.lit (.bool true)], args := [d1, d2] }
  | _ => none }
def scanNilRow : OpenClaim := { program := "ytfiflinbicbedaagreat", sum := "996fc77fc08da170cf5df929b1d97e85ed767f7534158817c1c903304fb77128", func := "tailrace/tailracelaw13.ScanNil", spec := "scanNil", unfollowed := true, recurses := true, apart := false }
def ScanNilSaid : Prop := scanNilRow.holds Tryz.pinned (OpenSpec.ofChange scanNilSpec)

/-- ITS FALSE NEIGHBOUR: 'it returns false'. Refute it at one input. -/
def scanNilWrong : ChangeSpec := { name := "scanNil", fn := fun _ => fun
  | [d1, d2] => { results := [.lit (.bool false)], args := [d1, d2] }
  | _ => none }
def ScanNilWrongFalsely : Prop := scanNilRow.holds Tryz.pinned (OpenSpec.ofChange scanNilWrong)

/- THE SECOND FORM. 'bulk': how many values and letters a reading holds, each counted each time it is reached (what is shared counts as often as it is met; a slice's spare places count too). A statement '..UptoSaid' is the law's where the arguments, and the package variables that the reading takes, are together of bulk at most 1048576: NARROWER than '..Said'. Prove '..Said' where nothing that the law and all that it calls make is longer than what came in: it says more and counts as full. Else prove '..UptoSaid'. A law counts once. -/
mutual
def uptoBulk {H : Type} : DataW H → Nat
  | .lit (.string bytes) => bytes.length + 1
  | .lit _ => 1
  | .nil => 1
  | .ptr d => uptoBulk d + 1
  | .slice elems spare => uptoBulkAll elems + uptoBulkAll spare + 1
  | .agg parts => uptoBulkAll parts + 1
  | .iface _ d => uptoBulk d + 1
  | .map entries => uptoBulkEntries entries + 1
  | .held _ => 1
def uptoBulkAll {H : Type} : List (DataW H) → Nat
  | [] => 0
  | d :: r => uptoBulk d + uptoBulkAll r
def uptoBulkEntries {H : Type} : List (Lit × DataW H) → Nat
  | [] => 0
  | x :: r => uptoBulkEntry x + uptoBulkEntries r
def uptoBulkEntry {H : Type} : Lit × DataW H → Nat
  | (.string bytes, d) => bytes.length + uptoBulk d + 1
  | (_, d) => uptoBulk d + 1
 end
def uptoSmall : (H : Type) → List (DataW H) → Bool := fun _ ds => decide (uptoBulkAll ds ≤ 1048576)
def OpenSpec.upto (s : _root_.Go.ChangeSpec) : _root_.Go.OpenSpec := { _root_.Go.OpenSpec.ofChange s with cond := some uptoSmall }

/-- 'tailracelaw13.ScanNames', WHERE WHAT IT READS IS OF BULK AT MOST 1048576: true; the input reads as it did. -/
def scanNamesUptoRow : OpenClaim := { program := "ytfiflinbicbedaagreat", sum := "996fc77fc08da170cf5df929b1d97e85ed767f7534158817c1c903304fb77128", func := "tailrace/tailracelaw13.ScanNames", spec := "scanNames", unfollowed := true, recurses := true, apart := false, narrowed := true }
def ScanNamesUptoSaid : Prop := scanNamesUptoRow.holds Tryz.pinned (OpenSpec.upto scanNamesSpec)

/-- 'tailracelaw13.ScanRanges', WHERE WHAT IT READS IS OF BULK AT MOST 1048576: true; the input reads as it did. -/
def scanRangesUptoRow : OpenClaim := { program := "ytfiflinbicbedaagreat", sum := "996fc77fc08da170cf5df929b1d97e85ed767f7534158817c1c903304fb77128", func := "tailrace/tailracelaw13.ScanRanges", spec := "scanRanges", unfollowed := true, recurses := true, apart := false, narrowed := true }
def ScanRangesUptoSaid : Prop := scanRangesUptoRow.holds Tryz.pinned (OpenSpec.upto scanRangesSpec)

/-- 'tailracelaw13.ScanChecks', WHERE WHAT IT READS IS OF BULK AT MOST 1048576: true; the input reads as it did. -/
def scanChecksUptoRow : OpenClaim := { program := "ytfiflinbicbedaagreat", sum := "996fc77fc08da170cf5df929b1d97e85ed767f7534158817c1c903304fb77128", func := "tailrace/tailracelaw13.ScanChecks", spec := "scanChecks", unfollowed := true, recurses := true, apart := false, narrowed := true }
def ScanChecksUptoSaid : Prop := scanChecksUptoRow.holds Tryz.pinned (OpenSpec.upto scanChecksSpec)

/-- 'tailracelaw13.ScanParts', WHERE WHAT IT READS IS OF BULK AT MOST 1048576: true; the input reads as it did. -/
def scanPartsUptoRow : OpenClaim := { program := "ytfiflinbicbedaagreat", sum := "996fc77fc08da170cf5df929b1d97e85ed767f7534158817c1c903304fb77128", func := "tailrace/tailracelaw13.ScanParts", spec := "scanParts", unfollowed := true, recurses := true, apart := false, narrowed := true }
def ScanPartsUptoSaid : Prop := scanPartsUptoRow.holds Tryz.pinned (OpenSpec.upto scanPartsSpec)

/-- 'tailracelaw13.ScanLost', WHERE WHAT IT READS IS OF BULK AT MOST 1048576: true; the input reads as it did. -/
def scanLostUptoRow : OpenClaim := { program := "ytfiflinbicbedaagreat", sum := "996fc77fc08da170cf5df929b1d97e85ed767f7534158817c1c903304fb77128", func := "tailrace/tailracelaw13.ScanLost", spec := "scanLost", unfollowed := true, recurses := true, apart := false, narrowed := true }
def ScanLostUptoSaid : Prop := scanLostUptoRow.holds Tryz.pinned (OpenSpec.upto scanLostSpec)

/-- 'tailracelaw13.ScanCounts', WHERE WHAT IT READS IS OF BULK AT MOST 1048576: true; the input reads as it did. -/
def scanCountsUptoRow : OpenClaim := { program := "ytfiflinbicbedaagreat", sum := "996fc77fc08da170cf5df929b1d97e85ed767f7534158817c1c903304fb77128", func := "tailrace/tailracelaw13.ScanCounts", spec := "scanCounts", unfollowed := true, recurses := true, apart := false, narrowed := true }
def ScanCountsUptoSaid : Prop := scanCountsUptoRow.holds Tryz.pinned (OpenSpec.upto scanCountsSpec)

/-- 'tailracelaw13.ScanTurned', WHERE WHAT IT READS IS OF BULK AT MOST 1048576: true; the input reads as it did. -/
def scanTurnedUptoRow : OpenClaim := { program := "ytfiflinbicbedaagreat", sum := "996fc77fc08da170cf5df929b1d97e85ed767f7534158817c1c903304fb77128", func := "tailrace/tailracelaw13.ScanTurned", spec := "scanTurned", unfollowed := true, recurses := true, apart := false, narrowed := true }
def ScanTurnedUptoSaid : Prop := scanTurnedUptoRow.holds Tryz.pinned (OpenSpec.upto scanTurnedSpec)

/-- 'tailracelaw13.ScanNil', WHERE WHAT IT READS IS OF BULK AT MOST 1048576: true; the input reads as it did. -/
def scanNilUptoRow : OpenClaim := { program := "ytfiflinbicbedaagreat", sum := "996fc77fc08da170cf5df929b1d97e85ed767f7534158817c1c903304fb77128", func := "tailrace/tailracelaw13.ScanNil", spec := "scanNil", unfollowed := true, recurses := true, apart := false, narrowed := true }
def ScanNilUptoSaid : Prop := scanNilUptoRow.holds Tryz.pinned (OpenSpec.upto scanNilSpec)

end Rows
end Go.Proofs.YtfiflinbicbedaaGreat
