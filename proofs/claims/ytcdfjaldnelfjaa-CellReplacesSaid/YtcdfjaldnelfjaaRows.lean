/-
  No cell of these rows narrows 'for every input' (looked for: loops, veiled, ifaces, maps, wideKeys, modest, calm, conditions, laid).
  DERIVED. THE GIVEN ROWS OF THIS SEAT. 8 by the template 'for every input the law returns true; each argument reads behind the call as it read before'; 0 by the template 'total and deterministic' (their statements: YtcdfjaldnelfjaaTotals.lean).
  GIVEN WITH THE SEED: the statements are not yours to turn. If you find one false, say at which input.
  Laid BY PROGRAM, IN A SANDBOX (cutbox-rows.mjs): the forced cells as the released guide's own fill.sh prints them over the translation a8f981d7a332d0ee… (all of the seat's roots in one cut). By AI agents, Wed Nov 11 2026. No macro, syntax, notation, axiom, sorry.
-/
import Derived.Test.YtcdfjaldnelfjaaChecked
import GoSem.Claim
import GoSem.ClaimJoined
import GoSem.ClaimMapViews
import Derived.JoinedTies
import Derived.KernelRfl
namespace Go.Proofs.Ytcdfjaldnelfjaa
/- THE CELL 'sum', in the pinned program and in every row, IS THE sha256 OF THE DUMP (.gsa) THAT YtcdfjaldnelfjaaProg.lean LOADS. Nothing in Lean hashes anything: it is a label: what it is worth is what the hold of that sum in a sandbox is worth. -/
noncomputable def Try.pinned : Pinned := { name := "ytcdfjaldnelfjaa", sum := "a8f981d7a332d0ee0d0045cd0b4a04dbbb2927af43fd375207bfd515b72dffdd", checked := Try.checked }
namespace Rows
def none {H : Type} : Left H := { results := [], args := [] }

/-- 'tailracelaw11.CellFinds': WHATEVER THE INPUT: true; the input reads as it did. -/
def cellFindsSpec : ChangeSpec := { name := "cellFinds", fn := fun _ => fun
  | [d1, d2] => { results := [.lit (.bool true)], args := [d1, d2] }
  | _ => none }
def cellFindsRow : OpenClaim := { program := "ytcdfjaldnelfjaa", sum := "a8f981d7a332d0ee0d0045cd0b4a04dbbb2927af43fd375207bfd515b72dffdd", func := "tailrace/tailracelaw11.CellFinds", spec := "cellFinds", unfollowed := true, recurses := true, apart := false }
def CellFindsSaid : Prop := cellFindsRow.holds Try.pinned (OpenSpec.ofChange cellFindsSpec)

/-- ITS FALSE NEIGHBOUR: 'it returns false'. Refute it at one input. -/
def cellFindsWrong : ChangeSpec := { name := "cellFinds", fn := fun _ => fun
  | [d1, d2] => { results := [.lit (.bool false)], args := [d1, d2] }
  | _ => none }
def CellFindsWrongFalsely : Prop := cellFindsRow.holds Try.pinned (OpenSpec.ofChange cellFindsWrong)

/-- 'tailracelaw11.CellPuts': WHATEVER THE INPUT: true; the input reads as it did. -/
def cellPutsSpec : ChangeSpec := { name := "cellPuts", fn := fun _ => fun
  | [d1, d2, d3] => { results := [.lit (.bool true)], args := [d1, d2, d3] }
  | _ => none }
def cellPutsRow : OpenClaim := { program := "ytcdfjaldnelfjaa", sum := "a8f981d7a332d0ee0d0045cd0b4a04dbbb2927af43fd375207bfd515b72dffdd", func := "tailrace/tailracelaw11.CellPuts", spec := "cellPuts", unfollowed := true, recurses := true, apart := false }
def CellPutsSaid : Prop := cellPutsRow.holds Try.pinned (OpenSpec.ofChange cellPutsSpec)

/-- ITS FALSE NEIGHBOUR: 'it returns false'. Refute it at one input. -/
def cellPutsWrong : ChangeSpec := { name := "cellPuts", fn := fun _ => fun
  | [d1, d2, d3] => { results := [.lit (.bool false)], args := [d1, d2, d3] }
  | _ => none }
def CellPutsWrongFalsely : Prop := cellPutsRow.holds Try.pinned (OpenSpec.ofChange cellPutsWrong)

/-- 'tailracelaw11.CellSplits': WHATEVER THE INPUT: true; the input reads as it did. -/
def cellSplitsSpec : ChangeSpec := { name := "cellSplits", fn := fun _ => fun
  | [d] => { results := [.lit (.bool true)], args := [d] }
  | _ => none }
def cellSplitsRow : OpenClaim := { program := "ytcdfjaldnelfjaa", sum := "a8f981d7a332d0ee0d0045cd0b4a04dbbb2927af43fd375207bfd515b72dffdd", func := "tailrace/tailracelaw11.CellSplits", spec := "cellSplits", unfollowed := true, recurses := true, apart := false }
def CellSplitsSaid : Prop := cellSplitsRow.holds Try.pinned (OpenSpec.ofChange cellSplitsSpec)

/-- ITS FALSE NEIGHBOUR: 'it returns false'. Refute it at one input. -/
def cellSplitsWrong : ChangeSpec := { name := "cellSplits", fn := fun _ => fun
  | [d] => { results := [.lit (.bool false)], args := [d] }
  | _ => none }
def CellSplitsWrongFalsely : Prop := cellSplitsRow.holds Try.pinned (OpenSpec.ofChange cellSplitsWrong)

/-- 'tailracelaw11.CellReplaces': WHATEVER THE INPUT: true; the input reads as it did. -/
def cellReplacesSpec : ChangeSpec := { name := "cellReplaces", fn := fun _ => fun
  | [d1, d2, d3, d4, d5, d6] => { results := [.lit (.bool true)], args := [d1, d2, d3, d4, d5, d6] }
  | _ => none }
def cellReplacesRow : OpenClaim := { program := "ytcdfjaldnelfjaa", sum := "a8f981d7a332d0ee0d0045cd0b4a04dbbb2927af43fd375207bfd515b72dffdd", func := "tailrace/tailracelaw11.CellReplaces", spec := "cellReplaces", unfollowed := true, recurses := true, apart := false }
def CellReplacesSaid : Prop := cellReplacesRow.holds Try.pinned (OpenSpec.ofChange cellReplacesSpec)

/-- ITS FALSE NEIGHBOUR: 'it returns false'. Refute it at one input. -/
def cellReplacesWrong : ChangeSpec := { name := "cellReplaces", fn := fun _ => fun
  | [d1, d2, d3, d4, d5, d6] => { results := [.lit (.bool false)], args := [d1, d2, d3, d4, d5, d6] }
  | _ => none }
def CellReplacesWrongFalsely : Prop := cellReplacesRow.holds Try.pinned (OpenSpec.ofChange cellReplacesWrong)

/-- 'tailracelaw11.CellBack': WHATEVER THE INPUT: true; the input reads as it did. -/
def cellBackSpec : ChangeSpec := { name := "cellBack", fn := fun _ => fun
  | [d] => { results := [.lit (.bool true)], args := [d] }
  | _ => none }
def cellBackRow : OpenClaim := { program := "ytcdfjaldnelfjaa", sum := "a8f981d7a332d0ee0d0045cd0b4a04dbbb2927af43fd375207bfd515b72dffdd", func := "tailrace/tailracelaw11.CellBack", spec := "cellBack", unfollowed := true, recurses := true, apart := false }
def CellBackSaid : Prop := cellBackRow.holds Try.pinned (OpenSpec.ofChange cellBackSpec)

/-- ITS FALSE NEIGHBOUR: 'it returns false'. Refute it at one input. -/
def cellBackWrong : ChangeSpec := { name := "cellBack", fn := fun _ => fun
  | [d] => { results := [.lit (.bool false)], args := [d] }
  | _ => none }
def CellBackWrongFalsely : Prop := cellBackRow.holds Try.pinned (OpenSpec.ofChange cellBackWrong)

/-- 'tailracelaw11.CellHalves': WHATEVER THE INPUT: true; the input reads as it did. -/
def cellHalvesSpec : ChangeSpec := { name := "cellHalves", fn := fun _ => fun
  | [d1, d2, d3] => { results := [.lit (.bool true)], args := [d1, d2, d3] }
  | _ => none }
def cellHalvesRow : OpenClaim := { program := "ytcdfjaldnelfjaa", sum := "a8f981d7a332d0ee0d0045cd0b4a04dbbb2927af43fd375207bfd515b72dffdd", func := "tailrace/tailracelaw11.CellHalves", spec := "cellHalves", unfollowed := true, recurses := true, apart := false }
def CellHalvesSaid : Prop := cellHalvesRow.holds Try.pinned (OpenSpec.ofChange cellHalvesSpec)

/-- ITS FALSE NEIGHBOUR: 'it returns false'. Refute it at one input. -/
def cellHalvesWrong : ChangeSpec := { name := "cellHalves", fn := fun _ => fun
  | [d1, d2, d3] => { results := [.lit (.bool false)], args := [d1, d2, d3] }
  | _ => none }
def CellHalvesWrongFalsely : Prop := cellHalvesRow.holds Try.pinned (OpenSpec.ofChange cellHalvesWrong)

/-- 'tailracelaw11.CellKeeps': WHATEVER THE INPUT: true; the input reads as it did. -/
def cellKeepsSpec : ChangeSpec := { name := "cellKeeps", fn := fun _ => fun
  | [d1, d2, d3, d4] => { results := [.lit (.bool true)], args := [d1, d2, d3, d4] }
  | _ => none }
def cellKeepsRow : OpenClaim := { program := "ytcdfjaldnelfjaa", sum := "a8f981d7a332d0ee0d0045cd0b4a04dbbb2927af43fd375207bfd515b72dffdd", func := "tailrace/tailracelaw11.CellKeeps", spec := "cellKeeps", unfollowed := true, recurses := true, apart := false }
def CellKeepsSaid : Prop := cellKeepsRow.holds Try.pinned (OpenSpec.ofChange cellKeepsSpec)

/-- ITS FALSE NEIGHBOUR: 'it returns false'. Refute it at one input. -/
def cellKeepsWrong : ChangeSpec := { name := "cellKeeps", fn := fun _ => fun
  | [d1, d2, d3, d4] => { results := [.lit (.bool false)], args := [d1, d2, d3, d4] }
  | _ => none }
def CellKeepsWrongFalsely : Prop := cellKeepsRow.holds Try.pinned (OpenSpec.ofChange cellKeepsWrong)

/-- 'tailracelaw11.CellLeads': WHATEVER THE INPUT: true; the input reads as it did. -/
def cellLeadsSpec : ChangeSpec := { name := "cellLeads", fn := fun _ => fun
  | [d1, d2] => { results := [.lit (.bool true)], args := [d1, d2] }
  | _ => none }
def cellLeadsRow : OpenClaim := { program := "ytcdfjaldnelfjaa", sum := "a8f981d7a332d0ee0d0045cd0b4a04dbbb2927af43fd375207bfd515b72dffdd", func := "tailrace/tailracelaw11.CellLeads", spec := "cellLeads", unfollowed := true, recurses := true, apart := false }
def CellLeadsSaid : Prop := cellLeadsRow.holds Try.pinned (OpenSpec.ofChange cellLeadsSpec)

/-- ITS FALSE NEIGHBOUR: 'it returns false'. Refute it at one input. -/
def cellLeadsWrong : ChangeSpec := { name := "cellLeads", fn := fun _ => fun
  | [d1, d2] => { results := [.lit (.bool false)], args := [d1, d2] }
  | _ => none }
def CellLeadsWrongFalsely : Prop := cellLeadsRow.holds Try.pinned (OpenSpec.ofChange cellLeadsWrong)

/- THE SECOND FORM. 'bulk': how many values and letters a reading holds, each counted each time it is reached (what is shared counts as often as it is met; a slice's spare places count too). A statement '..UptoSaid' is the law's where the arguments, and the package variables that the reading takes, are together of bulk at most 1048576: NARROWER than '..Said'. Prove '..Said' where nothing that the law and all that it calls make is longer than what came in: it says more and counts as full. Else prove '..UptoSaid'. A law counts once. -/
mutual
def uptoBulk {H : Type} : DataW H → Nat
  | .lit (.string bytes) => bytes.length + 1
  | .lit _ => 1
  | .nil => 1
  | .ptr d => uptoBulk d + 1
  | .slice elems spare => uptoBulkAll elems + uptoBulkAll spare + 1
  | .agg parts => uptoBulkAll parts + 1
  | .iface _ d => uptoBulk d + 1
  | .map entries => uptoBulkEntries entries + 1
  | .held _ => 1
def uptoBulkAll {H : Type} : List (DataW H) → Nat
  | [] => 0
  | d :: r => uptoBulk d + uptoBulkAll r
def uptoBulkEntries {H : Type} : List (Lit × DataW H) → Nat
  | [] => 0
  | x :: r => uptoBulkEntry x + uptoBulkEntries r
def uptoBulkEntry {H : Type} : Lit × DataW H → Nat
  | (.string bytes, d) => bytes.length + uptoBulk d + 1
  | (_, d) => uptoBulk d + 1
 end
def uptoSmall : (H : Type) → List (DataW H) → Bool := fun _ ds => decide (uptoBulkAll ds ≤ 1048576)
def OpenSpec.upto (s : _root_.Go.ChangeSpec) : _root_.Go.OpenSpec := { _root_.Go.OpenSpec.ofChange s with cond := some uptoSmall }

/-- 'tailracelaw11.CellFinds', WHERE WHAT IT READS IS OF BULK AT MOST 1048576: true; the input reads as it did. -/
def cellFindsUptoRow : OpenClaim := { program := "ytcdfjaldnelfjaa", sum := "a8f981d7a332d0ee0d0045cd0b4a04dbbb2927af43fd375207bfd515b72dffdd", func := "tailrace/tailracelaw11.CellFinds", spec := "cellFinds", unfollowed := true, recurses := true, apart := false, narrowed := true }
def CellFindsUptoSaid : Prop := cellFindsUptoRow.holds Try.pinned (OpenSpec.upto cellFindsSpec)

/-- 'tailracelaw11.CellPuts', WHERE WHAT IT READS IS OF BULK AT MOST 1048576: true; the input reads as it did. -/
def cellPutsUptoRow : OpenClaim := { program := "ytcdfjaldnelfjaa", sum := "a8f981d7a332d0ee0d0045cd0b4a04dbbb2927af43fd375207bfd515b72dffdd", func := "tailrace/tailracelaw11.CellPuts", spec := "cellPuts", unfollowed := true, recurses := true, apart := false, narrowed := true }
def CellPutsUptoSaid : Prop := cellPutsUptoRow.holds Try.pinned (OpenSpec.upto cellPutsSpec)

/-- 'tailracelaw11.CellSplits', WHERE WHAT IT READS IS OF BULK AT MOST 1048576: true; the input reads as it did. -/
def cellSplitsUptoRow : OpenClaim := { program := "ytcdfjaldnelfjaa", sum := "a8f981d7a332d0ee0d0045cd0b4a04dbbb2927af43fd375207bfd515b72dffdd", func := "tailrace/tailracelaw11.CellSplits", spec := "cellSplits", unfollowed := true, recurses := true, apart := false, narrowed := true }
def CellSplitsUptoSaid : Prop := cellSplitsUptoRow.holds Try.pinned (OpenSpec.upto cellSplitsSpec)

/-- 'tailracelaw11.CellReplaces', WHERE WHAT IT READS IS OF BULK AT MOST 1048576: true; the input reads as it did. -/
def cellReplacesUptoRow : OpenClaim := { program := "ytcdfjaldnelfjaa", sum := "a8f981d7a332d0ee0d0045cd0b4a04dbbb2927af43fd375207bfd515b72dffdd", func := "tailrace/tailracelaw11.CellReplaces", spec := "cellReplaces", unfollowed := true, recurses := true, apart := false, narrowed := true }
def CellReplacesUptoSaid : Prop := cellReplacesUptoRow.holds Try.pinned (OpenSpec.upto cellReplacesSpec)

/-- 'tailracelaw11.CellBack', WHERE WHAT IT READS IS OF BULK AT MOST 1048576: true; the input reads as it did. -/
def cellBackUptoRow : OpenClaim := { program := "ytcdfjaldnelfjaa", sum := "a8f981d7a332d0ee0d0045cd0b4a04dbbb2927af43fd375207bfd515b72dffdd", func := "tailrace/tailracelaw11.CellBack", spec := "cellBack", unfollowed := true, recurses := true, apart := false, narrowed := true }
def CellBackUptoSaid : Prop := cellBackUptoRow.holds Try.pinned (OpenSpec.upto cellBackSpec)

/-- 'tailracelaw11.CellHalves', WHERE WHAT IT READS IS OF BULK AT MOST 1048576: true; the input reads as it did. -/
def cellHalvesUptoRow : OpenClaim := { program := "ytcdfjaldnelfjaa", sum := "a8f981d7a332d0ee0d0045cd0b4a04dbbb2927af43fd375207bfd515b72dffdd", func := "tailrace/tailracelaw11.CellHalves", spec := "cellHalves", unfollowed := true, recurses := true, apart := false, narrowed := true }
def CellHalvesUptoSaid : Prop := cellHalvesUptoRow.holds Try.pinned (OpenSpec.upto cellHalvesSpec)

/-- 'tailracelaw11.CellKeeps', WHERE WHAT IT READS IS OF BULK AT MOST 1048576: true; the input reads as it did. -/
def cellKeepsUptoRow : OpenClaim := { program := "ytcdfjaldnelfjaa", sum := "a8f981d7a332d0ee0d0045cd0b4a04dbbb2927af43fd375207bfd515b72dffdd", func := "tailrace/tailracelaw11.CellKeeps", spec := "cellKeeps", unfollowed := true, recurses := true, apart := false, narrowed := true }
def CellKeepsUptoSaid : Prop := cellKeepsUptoRow.holds Try.pinned (OpenSpec.upto cellKeepsSpec)

/-- 'tailracelaw11.CellLeads', WHERE WHAT IT READS IS OF BULK AT MOST 1048576: true; the input reads as it did. -/
def cellLeadsUptoRow : OpenClaim := { program := "ytcdfjaldnelfjaa", sum := "a8f981d7a332d0ee0d0045cd0b4a04dbbb2927af43fd375207bfd515b72dffdd", func := "tailrace/tailracelaw11.CellLeads", spec := "cellLeads", unfollowed := true, recurses := true, apart := false, narrowed := true }
def CellLeadsUptoSaid : Prop := cellLeadsUptoRow.holds Try.pinned (OpenSpec.upto cellLeadsSpec)

end Rows
end Go.Proofs.Ytcdfjaldnelfjaa
