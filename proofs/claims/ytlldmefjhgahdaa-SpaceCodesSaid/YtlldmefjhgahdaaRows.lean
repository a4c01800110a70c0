/-
  No cell of these rows narrows 'for every input' (looked for: loops, veiled, ifaces, maps, wideKeys, modest, calm, conditions, laid).
  DERIVED. THE GIVEN ROWS OF THIS SEAT. 7 by the template 'for every input the law returns true; each argument reads behind the call as it read before'; 0 by the template 'total and deterministic' (their statements: YtlldmefjhgahdaaTotals.lean).
  GIVEN WITH THE SEED: the statements are not yours to turn. If you find one false, say at which input.
  Laid BY PROGRAM, IN A SANDBOX (cutbox-rows.mjs): the forced cells as the released guide's own fill.sh prints them over the translation b8742d47072cc5cf… (all of the seat's roots in one cut). By AI agents, Wed Nov 11 2026. No macro, syntax, notation, axiom, sorry.
-/
import Derived.Test.YtlldmefjhgahdaaChecked
import GoSem.Claim
import GoSem.ClaimJoined
import GoSem.ClaimMapViews
import Derived.JoinedTies
import Derived.KernelRfl
namespace Go.Proofs.Ytlldmefjhgahdaa
/- THE CELL 'sum', in the pinned program and in every row, IS THE sha256 OF THE DUMP (.gsa) THAT YtlldmefjhgahdaaProg.lean LOADS. Nothing in Lean hashes anything: it is a label: what it is worth is what the hold of that sum in a sandbox is worth. -/
noncomputable def Try.pinned : Pinned := { name := "ytlldmefjhgahdaa", sum := "b8742d47072cc5cf7d0fa73fc780a5d62a1a59921ac7691a2687d8e54900dbc8", checked := Try.checked }
namespace Rows
def none {H : Type} : Left H := { results := [], args := [] }

/-- 'tailracelaw08.SpaceNames': WHATEVER THE INPUT: true; the input reads as it did. -/
def spaceNamesSpec : ChangeSpec := { name := "spaceNames", fn := fun _ => fun
  | [] => { results := [.lit (.bool true)], args := [] }
  | _ => none }
def spaceNamesRow : OpenClaim := { program := "ytlldmefjhgahdaa", sum := "b8742d47072cc5cf7d0fa73fc780a5d62a1a59921ac7691a2687d8e54900dbc8", func := "tailrace/tailracelaw08.SpaceNames", spec := "spaceNames", unfollowed := true, recurses := true, apart := false }
def SpaceNamesSaid : Prop := spaceNamesRow.holds Try.pinned (OpenSpec.ofChange spaceNamesSpec)

/-- ITS FALSE NEIGHBOUR: 'it returns false'. Refute it at one input. -/
def spaceNamesWrong : ChangeSpec := { name := "spaceNames", fn := fun _ => fun
  | [] => { results := [.lit (.bool false)], args := [] }
  | _ => none }
def SpaceNamesWrongFalsely : Prop := spaceNamesRow.holds Try.pinned (OpenSpec.ofChange spaceNamesWrong)

/-- 'tailracelaw08.SpaceTells': WHATEVER THE INPUT: true; the input reads as it did. -/
def spaceTellsSpec : ChangeSpec := { name := "spaceTells", fn := fun _ => fun
  | [d1, d2, d3, d4, d5] => { results := [.lit (.bool true)], args := [d1, d2, d3, d4, d5] }
  | _ => none }
def spaceTellsRow : OpenClaim := { program := "ytlldmefjhgahdaa", sum := "b8742d47072cc5cf7d0fa73fc780a5d62a1a59921ac7691a2687d8e54900dbc8", func := "tailrace/tailracelaw08.SpaceTells", spec := "spaceTells", unfollowed := true, recurses := true, apart := false }
def SpaceTellsSaid : Prop := spaceTellsRow.holds Try.pinned (OpenSpec.ofChange spaceTellsSpec)

/-- ITS FALSE NEIGHBOUR: 'it returns false'. Refute it at one input. -/
def spaceTellsWrong : ChangeSpec := { name := "spaceTells", fn := fun _ => fun
  | [d1, d2, d3, d4, d5] => { results := [.lit (.bool false)], args := [d1, d2, d3, d4, d5] }
  | _ => none }
def SpaceTellsWrongFalsely : Prop := spaceTellsRow.holds Try.pinned (OpenSpec.ofChange spaceTellsWrong)

/-- 'tailracelaw08.SpaceCodes': WHATEVER THE INPUT: true; the input reads as it did. -/
def spaceCodesSpec : ChangeSpec := { name := "spaceCodes", fn := fun _ => fun
  | [d1, d2] => { results := [.lit (.bool true)], args := [d1, d2] }
  | _ => none }
def spaceCodesRow : OpenClaim := { program := "ytlldmefjhgahdaa", sum := "b8742d47072cc5cf7d0fa73fc780a5d62a1a59921ac7691a2687d8e54900dbc8", func := "tailrace/tailracelaw08.SpaceCodes", spec := "spaceCodes", unfollowed := true, recurses := true, apart := false }
def SpaceCodesSaid : Prop := spaceCodesRow.holds Try.pinned (OpenSpec.ofChange spaceCodesSpec)

/-- ITS FALSE NEIGHBOUR: 'it returns false'. Refute it at one input. -/
def spaceCodesWrong : ChangeSpec := { name := "spaceCodes", fn := fun _ => fun
  | [d1, d2] => { results := [.lit (.bool false)], args := [d1, d2] }
  | _ => none }
def SpaceCodesWrongFalsely : Prop := spaceCodesRow.holds Try.pinned (OpenSpec.ofChange spaceCodesWrong)

/-- 'tailracelaw08.SpaceStays': WHATEVER THE INPUT: true; the input reads as it did. -/
def spaceStaysSpec : ChangeSpec := { name := "spaceStays", fn := fun _ => fun
  | [d1, d2, d3, d4, d5] => { results := [.lit (.bool true)], args := [d1, d2, d3, d4, d5] }
  | _ => none }
def spaceStaysRow : OpenClaim := { program := "ytlldmefjhgahdaa", sum := "b8742d47072cc5cf7d0fa73fc780a5d62a1a59921ac7691a2687d8e54900dbc8", func := "tailrace/tailracelaw08.SpaceStays", spec := "spaceStays", unfollowed := true, recurses := true, apart := false }
def SpaceStaysSaid : Prop := spaceStaysRow.holds Try.pinned (OpenSpec.ofChange spaceStaysSpec)

/-- ITS FALSE NEIGHBOUR: 'it returns false'. Refute it at one input. -/
def spaceStaysWrong : ChangeSpec := { name := "spaceStays", fn := fun _ => fun
  | [d1, d2, d3, d4, d5] => { results := [.lit (.bool false)], args := [d1, d2, d3, d4, d5] }
  | _ => none }
def SpaceStaysWrongFalsely : Prop := spaceStaysRow.holds Try.pinned (OpenSpec.ofChange spaceStaysWrong)

/-- 'tailracelaw08.SpaceTakes': WHATEVER THE INPUT: true; the input reads as it did. -/
def spaceTakesSpec : ChangeSpec := { name := "spaceTakes", fn := fun _ => fun
  | [d1, d2] => { results := [.lit (.bool true)], args := [d1, d2] }
  | _ => none }
def spaceTakesRow : OpenClaim := { program := "ytlldmefjhgahdaa", sum := "b8742d47072cc5cf7d0fa73fc780a5d62a1a59921ac7691a2687d8e54900dbc8", func := "tailrace/tailracelaw08.SpaceTakes", spec := "spaceTakes", unfollowed := true, recurses := true, apart := false }
def SpaceTakesSaid : Prop := spaceTakesRow.holds Try.pinned (OpenSpec.ofChange spaceTakesSpec)

/-- ITS FALSE NEIGHBOUR: 'it returns false'. Refute it at one input. -/
def spaceTakesWrong : ChangeSpec := { name := "spaceTakes", fn := fun _ => fun
  | [d1, d2] => { results := [.lit (.bool false)], args := [d1, d2] }
  | _ => none }
def SpaceTakesWrongFalsely : Prop := spaceTakesRow.holds Try.pinned (OpenSpec.ofChange spaceTakesWrong)

/-- 'tailracelaw08.SpaceWaits': WHATEVER THE INPUT: true; the input reads as it did. -/
def spaceWaitsSpec : ChangeSpec := { name := "spaceWaits", fn := fun _ => fun
  | [d1, d2, d3, d4] => { results := [.lit (.bool true)], args := [d1, d2, d3, d4] }
  | _ => none }
def spaceWaitsRow : OpenClaim := { program := "ytlldmefjhgahdaa", sum := "b8742d47072cc5cf7d0fa73fc780a5d62a1a59921ac7691a2687d8e54900dbc8", func := "tailrace/tailracelaw08.SpaceWaits", spec := "spaceWaits", unfollowed := true, recurses := true, apart := false }
def SpaceWaitsSaid : Prop := spaceWaitsRow.holds Try.pinned (OpenSpec.ofChange spaceWaitsSpec)

/-- ITS FALSE NEIGHBOUR: 'it returns false'. Refute it at one input. -/
def spaceWaitsWrong : ChangeSpec := { name := "spaceWaits", fn := fun _ => fun
  | [d1, d2, d3, d4] => { results := [.lit (.bool false)], args := [d1, d2, d3, d4] }
  | _ => none }
def SpaceWaitsWrongFalsely : Prop := spaceWaitsRow.holds Try.pinned (OpenSpec.ofChange spaceWaitsWrong)

/-- 'tailracelaw08.SpaceBack': WHATEVER THE INPUT: true; the input reads as it did. -/
def spaceBackSpec : ChangeSpec := { name := "spaceBack", fn := fun _ => fun
  | [d1, d2] => { results := [.lit (.bool true)], args := [d1, d2] }
  | _ => none }
def spaceBackRow : OpenClaim := { program := "ytlldmefjhgahdaa", sum := "b8742d47072cc5cf7d0fa73fc780a5d62a1a59921ac7691a2687d8e54900dbc8", func := "tailrace/tailracelaw08.SpaceBack", spec := "spaceBack", unfollowed := true, recurses := true, apart := false }
def SpaceBackSaid : Prop := spaceBackRow.holds Try.pinned (OpenSpec.ofChange spaceBackSpec)

/-- ITS FALSE NEIGHBOUR: 'it returns false'. Refute it at one input. -/
def spaceBackWrong : ChangeSpec := { name := "spaceBack", fn := fun _ => fun
  | [d1, d2] => { results := [.lit (.bool false)], args := [d1, d2] }
  | _ => none }
def SpaceBackWrongFalsely : Prop := spaceBackRow.holds Try.pinned (OpenSpec.ofChange spaceBackWrong)

/- THE SECOND FORM. 'bulk': how many values and letters a reading holds, each counted each time it is reached (what is shared counts as often as it is met; a slice's spare places count too). A statement '..UptoSaid' is the law's where the arguments, and the package variables that the reading takes, are together of bulk at most 1048576: NARROWER than '..Said'. Prove '..Said' where nothing that the law and all that it calls make is longer than what came in: it says more and counts as full. Else prove '..UptoSaid'. A law counts once. -/
mutual
def uptoBulk {H : Type} : DataW H → Nat
  | .lit (.string bytes) => bytes.length + 1
  | .lit _ => 1
  | .nil => 1
  | .ptr d => uptoBulk d + 1
  | .slice elems spare => uptoBulkAll elems + uptoBulkAll spare + 1
  | .agg parts => uptoBulkAll parts + 1
  | .iface _ d => uptoBulk d + 1
  | .map entries => uptoBulkEntries entries + 1
  | .held _ => 1
def uptoBulkAll {H : Type} : List (DataW H) → Nat
  | [] => 0
  | d :: r => uptoBulk d + uptoBulkAll r
def uptoBulkEntries {H : Type} : List (Lit × DataW H) → Nat
  | [] => 0
  | x :: r => uptoBulkEntry x + uptoBulkEntries r
def uptoBulkEntry {H : Type} : Lit × DataW H → Nat
  | (.string bytes, d) => bytes.length + uptoBulk d + 1
  | (_, d) => uptoBulk d + 1
 end
def uptoSmall : (H : Type) → List (DataW H) → Bool := fun _ ds => decide (uptoBulkAll ds ≤ 1048576)
def OpenSpec.upto (s : _root_.Go.ChangeSpec) : _root_.Go.OpenSpec := { _root_.Go.OpenSpec.ofChange s with cond := some uptoSmall }

/-- 'tailracelaw08.SpaceNames', WHERE WHAT IT READS IS OF BULK AT MOST 1048576: true; the input reads as it did. -/
def spaceNamesUptoRow : OpenClaim := { program := "ytlldmefjhgahdaa", sum := "b8742d47072cc5cf7d0fa73fc780a5d62a1a59921ac7691a2687d8e54900dbc8", func := "tailrace/tailracelaw08.SpaceNames", spec := "spaceNames", unfollowed := true, recurses := true, apart := false, narrowed := true }
def SpaceNamesUptoSaid : Prop := spaceNamesUptoRow.holds Try.pinned (OpenSpec.upto spaceNamesSpec)

/-- 'tailracelaw08.SpaceTells', WHERE WHAT IT READS IS OF BULK AT MOST 1048576: true; the input reads as it did. -/
def spaceTellsUptoRow : OpenClaim := { program := "ytlldmefjhgahdaa", sum := "b8742d47072cc5cf7d0fa73fc780a5d62a1a59921ac7691a2687d8e54900dbc8", func := "tailrace/tailracelaw08.SpaceTells", spec := "spaceTells", unfollowed := true, recurses := true, apart := false, narrowed := true }
def SpaceTellsUptoSaid : Prop := spaceTellsUptoRow.holds Try.pinned (OpenSpec.upto spaceTellsSpec)

/-- 'tailracelaw08.SpaceCodes', WHERE WHAT IT READS IS OF BULK AT MOST 1048576: true; the input reads as it did. -/
def spaceCodesUptoRow : OpenClaim := { program := "ytlldmefjhgahdaa", sum := "b8742d47072cc5cf7d0fa73fc780a5d62a1a59921ac7691a2687d8e54900dbc8", func := "tailrace/tailracelaw08.SpaceCodes", spec := "spaceCodes", unfollowed := true, recurses := true, apart := false, narrowed := true }
def SpaceCodesUptoSaid : Prop := spaceCodesUptoRow.holds Try.pinned (OpenSpec.upto spaceCodesSpec)

/-- 'tailracelaw08.SpaceStays', WHERE WHAT IT READS IS OF BULK AT MOST 1048576: true; the input reads as it did. -/
def spaceStaysUptoRow : OpenClaim := { program := "ytlldmefjhgahdaa", sum := "b8742d47072cc5cf7d0fa73fc780a5d62a1a59921ac7691a2687d8e54900dbc8", func := "tailrace/tailracelaw08.SpaceStays", spec := "spaceStays", unfollowed := true, recurses := true, apart := false, narrowed := true }
def SpaceStaysUptoSaid : Prop := spaceStaysUptoRow.holds Try.pinned (OpenSpec.upto spaceStaysSpec)

/-- 'tailracelaw08.SpaceTakes', WHERE WHAT IT READS IS OF BULK AT MOST 1048576: true; the input reads as it did. -/
def spaceTakesUptoRow : OpenClaim := { program := "ytlldmefjhgahdaa", sum := "b8742d47072cc5cf7d0fa73fc780a5d62a1a59921ac7691a2687d8e54900dbc8", func := "tailrace/tailracelaw08.SpaceTakes", spec := "spaceTakes", unfollowed := true, recurses := true, apart := false, narrowed := true }
def SpaceTakesUptoSaid : Prop := spaceTakesUptoRow.holds Try.pinned (OpenSpec.upto spaceTakesSpec)

/-- 'tailracelaw08.SpaceWaits', WHERE WHAT IT READS IS OF BULK AT MOST 1048576: true; the input reads as it did. -/
def spaceWaitsUptoRow : OpenClaim := { program := "ytlldmefjhgahdaa", sum := "b8742d47072cc5cf7d0fa73fc780a5d62a1a59921ac7691a2687d8e54900dbc8", func := "tailrace/tailracelaw08.SpaceWaits", spec := "spaceWaits", unfollowed := true, recurses := true, apart := false, narrowed := true }
def SpaceWaitsUptoSaid : Prop := spaceWaitsUptoRow.holds Try.pinned (OpenSpec.upto spaceWaitsSpec)

/-- 'tailracelaw08.SpaceBack', WHERE WHAT IT READS IS OF BULK AT MOST 1048576: true; the input reads as it did. -/
def spaceBackUptoRow : OpenClaim := { program := "ytlldmefjhgahdaa", sum := "b8742d47072cc5cf7d0fa73fc780a5d62a1a59921ac7691a2687d8e54900dbc8", func := "tailrace/tailracelaw08.SpaceBack", spec := "spaceBack", unfollowed := true, recurses := true, apart := false, narrowed := true }
def SpaceBackUptoSaid : Prop := spaceBackUptoRow.holds Try.pinned (OpenSpec.upto spaceBackSpec)

end Rows
end Go.Proofs.Ytlldmefjhgahdaa
