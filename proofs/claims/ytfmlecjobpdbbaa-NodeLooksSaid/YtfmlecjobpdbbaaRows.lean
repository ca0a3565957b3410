/-
  No cell of these rows narrows 'for every input' (looked for: loops, veiled, ifaces, maps, wideKeys, modest, calm, conditions, laid).
  DERIVED. THE GIVEN ROWS OF THIS SEAT. 3 by the template 'for every input the law returns true; each argument reads behind the call as it read before'; 0 by the template 'total and deterministic' (their statements: YtfmlecjobpdbbaaTotals.lean).
  GIVEN WITH THE SEED: the statements are not yours to turn. If you find one false, say at which input.
  Laid BY PROGRAM, IN A SANDBOX (cutbox-rows.mjs): the forced cells as the released guide's own fill.sh prints them over the translation bdf5168ca6d786cb… (all of the seat's roots in one cut). By AI agents, Wed Nov 11 2026. No macro, syntax, notation, axiom, sorry.
-/
import Derived.Test.YtfmlecjobpdbbaaChecked
import GoSem.Claim
import GoSem.ClaimJoined
import GoSem.ClaimMapViews
import Derived.JoinedTies
import Derived.KernelRfl
namespace Go.Proofs.Ytfmlecjobpdbbaa
/- THE CELL 'sum', in the pinned program and in every row, IS THE sha256 OF THE DUMP (.gsa) THAT YtfmlecjobpdbbaaProg.lean LOADS. Nothing in Lean hashes anything: it is a label: what it is worth is what the hold of that sum in a sandbox is worth. -/
noncomputable def Try.pinned : Pinned := { name := "ytfmlecjobpdbbaa", sum := "bdf5168ca6d786cb356340b64ecd6f57ca28e4aebb7c819613930f9effa78269", checked := Try.checked }
namespace Rows
def none {H : Type} : Left H := { results := [], args := [] }

/-- 'mutoscopelaw11.NodeChecks': WHATEVER THE INPUT: true; the input reads as it did. -/
def nodeChecksSpec : ChangeSpec := { name := "nodeChecks", fn := fun _ => fun
  | [d] => { results := [.lit (.bool true)], args := [d] }
  | _ => none }
def nodeChecksRow : OpenClaim := { program := "ytfmlecjobpdbbaa", sum := "bdf5168ca6d786cb356340b64ecd6f57ca28e4aebb7c819613930f9effa78269", func := "mutoscope/mutoscopelaw11.NodeChecks", spec := "nodeChecks", apart := false }
def NodeChecksSaid : Prop := nodeChecksRow.holds Try.pinned (OpenSpec.ofChange nodeChecksSpec)

/-- ITS FALSE NEIGHBOUR: 'it returns false'. Refute it at one input. -/
def nodeChecksWrong : ChangeSpec := { name := "nodeChecks", fn := fun _ => fun
  | [d] => { results := [.lit (.bool false)], args := [d] }
  | _ => none }
def NodeChecksWrongFalsely : Prop := nodeChecksRow.holds Try.pinned (OpenSpec.ofChange nodeChecksWrong)

/-- 'mutoscopelaw11.NodeLooks': WHATEVER THE INPUT: true; the input reads as it did. -/
def nodeLooksSpec : ChangeSpec := { name := "nodeLooks", fn := fun _ => fun
  | [d1, d2, d3] => { results := [.lit (.bool true)], args := [d1, d2, d3] }
  | _ => none }
def nodeLooksRow : OpenClaim := { program := "ytfmlecjobpdbbaa", sum := "bdf5168ca6d786cb356340b64ecd6f57ca28e4aebb7c819613930f9effa78269", func := "mutoscope/mutoscopelaw11.NodeLooks", spec := "nodeLooks", apart := false }
def NodeLooksSaid : Prop := nodeLooksRow.holds Try.pinned (OpenSpec.ofChange nodeLooksSpec)

/-- ITS FALSE NEIGHBOUR: 'it returns false'. Refute it at one input. -/
def nodeLooksWrong : ChangeSpec := { name := "nodeLooks", fn := fun _ => fun
  | [d1, d2, d3] => { results := [.lit (.bool false)], args := [d1, d2, d3] }
  | _ => none }
def NodeLooksWrongFalsely : Prop := nodeLooksRow.holds Try.pinned (OpenSpec.ofChange nodeLooksWrong)

/-- 'mutoscopelaw11.NodeClips': WHATEVER THE INPUT: true; the input reads as it did. -/
def nodeClipsSpec : ChangeSpec := { name := "nodeClips", fn := fun _ => fun
  | [d1, d2] => { results := [.lit (.bool true)], args := [d1, d2] }
  | _ => none }
def nodeClipsRow : OpenClaim := { program := "ytfmlecjobpdbbaa", sum := "bdf5168ca6d786cb356340b64ecd6f57ca28e4aebb7c819613930f9effa78269", func := "mutoscope/mutoscopelaw11.NodeClips", spec := "nodeClips", apart := false }
def NodeClipsSaid : Prop := nodeClipsRow.holds Try.pinned (OpenSpec.ofChange nodeClipsSpec)

/-- ITS FALSE NEIGHBOUR: 'it returns false'. Refute it at one input. -/
def nodeClipsWrong : ChangeSpec := { name := "nodeClips", fn := fun _ => fun
  | [d1, d2] => { results := [.lit (.bool false)], args := [d1, d2] }
  | _ => none }
def NodeClipsWrongFalsely : Prop := nodeClipsRow.holds Try.pinned (OpenSpec.ofChange nodeClipsWrong)

/- THE SECOND FORM. 'bulk': how many values and letters a reading holds, each counted each time it is reached (what is shared counts as often as it is met; a slice's spare places count too). A statement '..UptoSaid' is the law's where the arguments, and the package variables that the reading takes, are together of bulk at most 1048576: NARROWER than '..Said'. Prove '..Said' where nothing that the law and all that it calls make is longer than what came in: it says more and counts as full. Else prove '..UptoSaid'. A law counts once. -/
mutual
def uptoBulk {H : Type} : DataW H → Nat
  | .lit (.string bytes) => bytes.length + 1
  | .lit _ => 1
  | .nil => 1
  | .ptr d => uptoBulk d + 1
  | .slice elems spare => uptoBulkAll elems + uptoBulkAll spare + 1
  | .agg parts => uptoBulkAll parts + 1
  | .iface _ d => uptoBulk d + 1
  | .map entries => uptoBulkEntries entries + 1
  | .held _ => 1
def uptoBulkAll {H : Type} : List (DataW H) → Nat
  | [] => 0
  | d :: r => uptoBulk d + uptoBulkAll r
def uptoBulkEntries {H : Type} : List (Lit × DataW H) → Nat
  | [] => 0
  | x :: r => uptoBulkEntry x + uptoBulkEntries r
def uptoBulkEntry {H : Type} : Lit × DataW H → Nat
  | (.string bytes, d) => bytes.length + uptoBulk d + 1
  | (_, d) => uptoBulk d + 1
 end
def uptoSmall : (H : Type) → List (DataW H) → Bool := fun _ ds => decide (uptoBulkAll ds ≤ 1048576)
def OpenSpec.upto (s : _root_.Go.ChangeSpec) : _root_.Go.OpenSpec := { _root_.Go.OpenSpec.ofChange s with cond := some uptoSmall }

/-- 'mutoscopelaw11.NodeChecks', WHERE WHAT IT READS IS OF BULK AT MOST 1048576: true; the input reads as it did. -/
def nodeChecksUptoRow : OpenClaim := { program := "ytfmlecjobpdbbaa", sum := "bdf5168ca6d786cb356340b64ecd6f57ca28e4aebb7c819613930f9effa78269", func := "mutoscope/mutoscopelaw11.NodeChecks", spec := "nodeChecks", apart := false, narrowed := true }
def NodeChecksUptoSaid : Prop := nodeChecksUptoRow.holds Try.pinned (OpenSpec.upto nodeChecksSpec)

/-- 'mutoscopelaw11.NodeLooks', WHERE WHAT IT READS IS OF BULK AT MOST 1048576: true; the input reads as it did. -/
def nodeLooksUptoRow : OpenClaim := { program := "ytfmlecjobpdbbaa", sum := "bdf5168ca6d786cb356340b64ecd6f57ca28e4aebb7c819613930f9effa78269", func := "mutoscope/mutoscopelaw11.NodeLooks", spec := "nodeLooks", apart := false, narrowed := true }
def NodeLooksUptoSaid : Prop := nodeLooksUptoRow.holds Try.pinned (OpenSpec.upto nodeLooksSpec)

/-- 'mutoscopelaw11.NodeClips', WHERE WHAT IT READS IS OF BULK AT MOST 1048576: true; the input reads as it did. -/
def nodeClipsUptoRow : OpenClaim := { program := "ytfmlecjobpdbbaa", sum := "bdf5168ca6d786cb356340b64ecd6f57ca28e4aebb7c819613930f9effa78269", func := "mutoscope/mutoscopelaw11.NodeClips", spec := "nodeClips", apart := false, narrowed := true }
def NodeClipsUptoSaid : Prop := nodeClipsUptoRow.holds Try.pinned (OpenSpec.upto nodeClipsSpec)

end Rows
end Go.Proofs.Ytfmlecjobpdbbaa
