/-
  No cell of these rows narrows 'for every input' (looked for: loops, veiled, ifaces, maps, wideKeys, modest, calm, conditions, laid).
  DERIVED. THE GIVEN ROWS OF THIS SEAT. 4 by the template 'for every input the law returns true; each argument reads behind the call as it read before'; 0 by the template 'total and deterministic' (their statements: YtbopijlacdkpeaaTotals.lean).
  GIVEN WITH THE SEED: the statements are not yours to turn. If you find one false, say at which input.
  Laid BY PROGRAM, IN A SANDBOX (cutbox-rows.mjs): the forced cells as the released guide's own fill.sh prints them over the translation 9ad0d66ab391f1ab… (all of the seat's roots in one cut). By AI agents, Wed Nov 11 2026. No macro, syntax, notation, axiom, sorry.
-/
import Derived.Test.YtbopijlacdkpeaaChecked
import GoSem.Claim
import GoSem.ClaimJoined
import GoSem.ClaimMapViews
import Derived.JoinedTies
import Derived.KernelRfl
namespace Go.Proofs.Ytbopijlacdkpeaa
/- THE CELL 'sum', in the pinned program and in every row, IS THE sha256 OF THE DUMP (.gsa) THAT YtbopijlacdkpeaaProg.lean LOADS. Nothing in Lean hashes anything: it is a label: what it is worth is what the hold of that sum in a sandbox is worth. -/
noncomputable def Try.pinned : Pinned := { name := "ytbopijlacdkpeaa", sum := "9ad0d66ab391f1ab65b2d4af1efe7312b635d5bbd1a6f4a1edb0af6abc9655ac", checked := Try.checked }
namespace Rows
def none {H : Type} : Left H := { results := [], args := [] }

/-- 'mutoscopelaw02.CoderWrites': WHATEVER THE INPUT: true; the input reads as it did. -/
def coderWritesSpec : ChangeSpec := { name := "coderWrites", fn := fun _ => fun
  | [d] => { results := [.lit (.bool true)], args := [d] }
  | _ => none }
def coderWritesRow : OpenClaim := { program := "ytbopijlacdkpeaa", sum := "9ad0d66ab391f1ab65b2d4af1efe7312b635d5bbd1a6f4a1edb0af6abc9655ac", func := "mutoscope/mutoscopelaw02.CoderWrites", spec := "coderWrites", recurses := true, apart := false }
def CoderWritesSaid : Prop := coderWritesRow.holds Try.pinned (OpenSpec.ofChange coderWritesSpec)

/-- ITS FALSE NEIGHBOUR: 'it returns false'. Refute it at one input. -/
def coderWritesWrong : ChangeSpec := { name := "coderWrites", fn := fun _ => fun
  | [d] => { results := [.lit (.bool false)], args := [d] }
  | _ => none }
def CoderWritesWrongFalsely : Prop := coderWritesRow.holds Try.pinned (OpenSpec.ofChange coderWritesWrong)

/-- 'mutoscopelaw02.CoderReads': WHATEVER THE INPUT: true; the input reads as it did. -/
def coderReadsSpec : ChangeSpec := { name := "coderReads", fn := fun _ => fun
  | [d1, d2] => { results := [.lit (.bool true)], args := [d1, d2] }
  | _ => none }
def coderReadsRow : OpenClaim := { program := "ytbopijlacdkpeaa", sum := "9ad0d66ab391f1ab65b2d4af1efe7312b635d5bbd1a6f4a1edb0af6abc9655ac", func := "mutoscope/mutoscopelaw02.CoderReads", spec := "coderReads", apart := false }
def CoderReadsSaid : Prop := coderReadsRow.holds Try.pinned (OpenSpec.ofChange coderReadsSpec)

/-- ITS FALSE NEIGHBOUR: 'it returns false'. Refute it at one input. -/
def coderReadsWrong : ChangeSpec := { name := "coderReads", fn := fun _ => fun
  | [d1, d2] => { results := [.lit (.bool false)], args := [d1, d2] }
  | _ => none }
def CoderReadsWrongFalsely : Prop := coderReadsRow.holds Try.pinned (OpenSpec.ofChange coderReadsWrong)

/-- 'mutoscopelaw02.CoderOne': WHATEVER THE INPUT: true; the input reads as it did. -/
def coderOneSpec : ChangeSpec := { name := "coderOne", fn := fun _ => fun
  | [d] => { results := [.lit (.bool true)], args := [d] }
  | _ => none }
def coderOneRow : OpenClaim := { program := "ytbopijlacdkpeaa", sum := "9ad0d66ab391f1ab65b2d4af1efe7312b635d5bbd1a6f4a1edb0af6abc9655ac", func := "mutoscope/mutoscopelaw02.CoderOne", spec := "coderOne", apart := false }
def CoderOneSaid : Prop := coderOneRow.holds Try.pinned (OpenSpec.ofChange coderOneSpec)

/-- ITS FALSE NEIGHBOUR: 'it returns false'. Refute it at one input. -/
def coderOneWrong : ChangeSpec := { name := "coderOne", fn := fun _ => fun
  | [d] => { results := [.lit (.bool false)], args := [d] }
  | _ => none }
def CoderOneWrongFalsely : Prop := coderOneRow.holds Try.pinned (OpenSpec.ofChange coderOneWrong)

/-- 'mutoscopelaw02.CoderMany': WHATEVER THE INPUT: true; the input reads as it did. -/
def coderManySpec : ChangeSpec := { name := "coderMany", fn := fun _ => fun
  | [d1, d2, d3] => { results := [.lit (.bool true)], args := [d1, d2, d3] }
  | _ => none }
def coderManyRow : OpenClaim := { program := "ytbopijlacdkpeaa", sum := "9ad0d66ab391f1ab65b2d4af1efe7312b635d5bbd1a6f4a1edb0af6abc9655ac", func := "mutoscope/mutoscopelaw02.CoderMany", spec := "coderMany", apart := false }
def CoderManySaid : Prop := coderManyRow.holds Try.pinned (OpenSpec.ofChange coderManySpec)

/-- ITS FALSE NEIGHBOUR: 'it returns false'. Refute it at one input. -/
def coderManyWrong : ChangeSpec := { name := "coderMany", fn := fun _ => fun
  | [d1, d2, d3] => { results := [.lit (.bool false)], args := [d1, d2, d3] }
  | _ => none }
def CoderManyWrongFalsely : Prop := coderManyRow.holds Try.pinned (OpenSpec.ofChange coderManyWrong)

/- THE SECOND FORM. 'bulk': how many values and letters a reading holds, each counted each time it is reached (what is shared counts as often as it is met; a slice's spare places count too). A statement '..UptoSaid' is the law's where the arguments, and the package variables that the reading takes, are together of bulk at most 1048576: NARROWER than '..Said'. Prove '..Said' where nothing that the law and all that it calls make is longer than what came in: it says more and counts as full. Else prove '..UptoSaid'. A law counts once. -/
mutual
def uptoBulk {H : Type} : DataW H → Nat
  | .lit (.string bytes) => bytes.length + 1
  | .lit _ => 1
  | .nil => 1
  | .ptr d => uptoBulk d + 1
  | .slice elems spare => uptoBulkAll elems + uptoBulkAll spare + 1
  | .agg parts => uptoBulkAll parts + 1
  | .iface _ d => uptoBulk d + 1
  | .map entries => uptoBulkEntries entries + 1
  | .held _ => 1
def uptoBulkAll {H : Type} : List (DataW H) → Nat
  | [] => 0
  | d :: r => uptoBulk d + uptoBulkAll r
def uptoBulkEntries {H : Type} : List (Lit × DataW H) → Nat
  | [] => 0
  | x :: r => uptoBulkEntry x + uptoBulkEntries r
def uptoBulkEntry {H : Type} : Lit × DataW H → Nat
  | (.string bytes, d) => bytes.length + uptoBulk d + 1
  | (_, d) => uptoBulk d + 1
 end
def uptoSmall : (H : Type) → List (DataW H) → Bool := fun _ ds => decide (uptoBulkAll ds ≤ 1048576)
def OpenSpec.upto (s : _root_.Go.ChangeSpec) : _root_.Go.OpenSpec := { _root_.Go.OpenSpec.ofChange s with cond := some uptoSmall }

/-- 'mutoscopelaw02.CoderWrites', WHERE WHAT IT READS IS OF BULK AT MOST 1048576: true; the input reads as it did. -/
def coderWritesUptoRow : OpenClaim := { program := "ytbopijlacdkpeaa", sum := "9ad0d66ab391f1ab65b2d4af1efe7312b635d5bbd1a6f4a1edb0af6abc9655ac", func := "mutoscope/mutoscopelaw02.CoderWrites", spec := "coderWrites", recurses := true, apart := false, narrowed := true }
def CoderWritesUptoSaid : Prop := coderWritesUptoRow.holds Try.pinned (OpenSpec.upto coderWritesSpec)

/-- 'mutoscopelaw02.CoderReads', WHERE WHAT IT READS IS OF BULK AT MOST 1048576: true; the input reads as it did. -/
def coderReadsUptoRow : OpenClaim := { program := "ytbopijlacdkpeaa", sum := "9ad0d66ab391f1ab65b2d4af1efe7312b635d5bbd1a6f4a1edb0af6abc9655ac", func := "mutoscope/mutoscopelaw02.CoderReads", spec := "coderReads", apart := false, narrowed := true }
def CoderReadsUptoSaid : Prop := coderReadsUptoRow.holds Try.pinned (OpenSpec.upto coderReadsSpec)

/-- 'mutoscopelaw02.CoderOne', WHERE WHAT IT READS IS OF BULK AT MOST 1048576: true; the input reads as it did. -/
def coderOneUptoRow : OpenClaim := { program := "ytbopijlacdkpeaa", sum := "9ad0d66ab391f1ab65b2d4af1efe7312b635d5bbd1a6f4a1edb0af6abc9655ac", func := "mutoscope/mutoscopelaw02.CoderOne", spec := "coderOne", apart := false, narrowed := true }
def CoderOneUptoSaid : Prop := coderOneUptoRow.holds Try.pinned (OpenSpec.upto coderOneSpec)

/-- 'mutoscopelaw02.CoderMany', WHERE WHAT IT READS IS OF BULK AT MOST 1048576: true; the input reads as it did. -/
def coderManyUptoRow : OpenClaim := { program := "ytbopijlacdkpeaa", sum := "9ad0d66ab391f1ab65b2d4af1efe7312b635d5bbd1a6f4a1edb0af6abc9655ac", func := "mutoscope/mutoscopelaw02.CoderMany", spec := "coderMany", apart := false, narrowed := true }
def CoderManyUptoSaid : Prop := coderManyUptoRow.holds Try.pinned (OpenSpec.upto coderManySpec)

end Rows
end Go.Proofs.Ytbopijlacdkpeaa
