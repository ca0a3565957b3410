/-
  No cell of these rows narrows 'for every input' (looked for: loops, veiled, ifaces, maps, wideKeys, modest, calm, conditions, laid).
  DERIVED. THE GIVEN ROWS OF THIS SEAT. 5 by the template 'for every input the law returns true; each argument reads behind the call as it read before'; 0 by the template 'total and deterministic' (their statements: YtolekbgbcahfgaaTotals.lean).
  GIVEN WITH THE SEED: the statements are not yours to turn. If you find one false, say at which input.
  Laid BY PROGRAM, IN A SANDBOX (cutbox-rows.mjs): the forced cells as the released guide's own fill.sh prints them over the translation 4dc8e960ff1302cd… (all of the seat's roots in one cut). By AI agents, Wed Nov 11 2026. No macro, syntax, notation, axiom, sorry.
-/
import Derived.Test.YtolekbgbcahfgaaChecked
import GoSem.Claim
import GoSem.ClaimJoined
import GoSem.ClaimMapViews
import Derived.JoinedTies
import Derived.KernelRfl
namespace Go.Proofs.Ytolekbgbcahfgaa
/- THE CELL 'sum', in the pinned program and in every row, IS THE sha256 OF THE DUMP (.gsa) THAT YtolekbgbcahfgaaProg.lean LOADS. Nothing in Lean hashes anything: it is a label: what it is worth is what the hold of that sum in a sandbox is worth. -/
noncomputable def Try.pinned : Pinned := { name := "ytolekbgbcahfgaa", sum := "4dc8e960ff1302cd84b0def2d28accbac448c4739a2462c53f784f332d4ddbff", checked := Try.checked }
namespace Rows
def none {H : Type} : Left H := { results := [], args := [] }

/-- 'mutoscopelaw09.PixelParts': WHATEVER THE INPUT: true; the input reads as it did. -/
def pixelPartsSpec : ChangeSpec := { name := "pixelParts", fn := fun _ => fun
  | [d1, d2] => { results := [.lit (.bool true)], args := [d1, d2] }
  | _ => none }
def pixelPartsRow : OpenClaim := { program := "ytolekbgbcahfgaa", sum := "4dc8e960ff1302cd84b0def2d28accbac448c4739a2462c53f784f332d4ddbff", func := "mutoscope/mutoscopelaw09.PixelParts", spec := "pixelParts", unfollowed := true, recurses := true, apart := false }
def PixelPartsSaid : Prop := pixelPartsRow.holds Try.pinned (OpenSpec.ofChange pixelPartsSpec)

/-- ITS FALSE NEIGHBOUR: 'it returns false'. Refute it at one input. -/
def pixelPartsWrong : ChangeSpec := { name := "pixelParts", fn := fun _ => fun
  | [d1, d2] => { results := [.lit (.bool false)], args := [d1, d2] }
  | _ => none }
def PixelPartsWrongFalsely : Prop := pixelPartsRow.holds Try.pinned (OpenSpec.ofChange pixelPartsWrong)

/-- 'mutoscopelaw09.PixelBys': WHATEVER THE INPUT: true; the input reads as it did. -/
def pixelBysSpec : ChangeSpec := { name := "pixelBys", fn := fun _ => fun
  | [d1, d2] => { results := [.lit (.bool true)], args := [d1, d2] }
  | _ => none }
def pixelBysRow : OpenClaim := { program := "ytolekbgbcahfgaa", sum := "4dc8e960ff1302cd84b0def2d28accbac448c4739a2462c53f784f332d4ddbff", func := "mutoscope/mutoscopelaw09.PixelBys", spec := "pixelBys", unfollowed := true, recurses := true, apart := false }
def PixelBysSaid : Prop := pixelBysRow.holds Try.pinned (OpenSpec.ofChange pixelBysSpec)

/-- ITS FALSE NEIGHBOUR: 'it returns false'. Refute it at one input. -/
def pixelBysWrong : ChangeSpec := { name := "pixelBys", fn := fun _ => fun
  | [d1, d2] => { results := [.lit (.bool false)], args := [d1, d2] }
  | _ => none }
def PixelBysWrongFalsely : Prop := pixelBysRow.holds Try.pinned (OpenSpec.ofChange pixelBysWrong)

/-- 'mutoscopelaw09.PixelOvers': WHATEVER THE INPUT: true; the input reads as it did. -/
def pixelOversSpec : ChangeSpec := { name := "pixelOvers", fn := fun _ => fun
  | [d1, d2] => { results := [.lit (.bool true)], args := [d1, d2] }
  | _ => none }
def pixelOversRow : OpenClaim := { program := "ytolekbgbcahfgaa", sum := "4dc8e960ff1302cd84b0def2d28accbac448c4739a2462c53f784f332d4ddbff", func := "mutoscope/mutoscopelaw09.PixelOvers", spec := "pixelOvers", unfollowed := true, recurses := true, apart := false }
def PixelOversSaid : Prop := pixelOversRow.holds Try.pinned (OpenSpec.ofChange pixelOversSpec)

/-- ITS FALSE NEIGHBOUR: 'it returns false'. Refute it at one input. -/
def pixelOversWrong : ChangeSpec := { name := "pixelOvers", fn := fun _ => fun
  | [d1, d2] => { results := [.lit (.bool false)], args := [d1, d2] }
  | _ => none }
def PixelOversWrongFalsely : Prop := pixelOversRow.holds Try.pinned (OpenSpec.ofChange pixelOversWrong)

/-- 'mutoscopelaw09.PixelTimes': WHATEVER THE INPUT: true; the input reads as it did. -/
def pixelTimesSpec : ChangeSpec := { name := "pixelTimes", fn := fun _ => fun
  | [d1, d2] => { results := [.lit (.bool true)], args := [d1, d2] }
  | _ => none }
def pixelTimesRow : OpenClaim := { program := "ytolekbgbcahfgaa", sum := "4dc8e960ff1302cd84b0def2d28accbac448c4739a2462c53f784f332d4ddbff", func := "mutoscope/mutoscopelaw09.PixelTimes", spec := "pixelTimes", unfollowed := true, recurses := true, apart := false }
def PixelTimesSaid : Prop := pixelTimesRow.holds Try.pinned (OpenSpec.ofChange pixelTimesSpec)

/-- ITS FALSE NEIGHBOUR: 'it returns false'. Refute it at one input. -/
def pixelTimesWrong : ChangeSpec := { name := "pixelTimes", fn := fun _ => fun
  | [d1, d2] => { results := [.lit (.bool false)], args := [d1, d2] }
  | _ => none }
def PixelTimesWrongFalsely : Prop := pixelTimesRow.holds Try.pinned (OpenSpec.ofChange pixelTimesWrong)

/-- 'mutoscopelaw09.PixelEnds': WHATEVER THE INPUT: true; the input reads as it did. -/
def pixelEndsSpec : ChangeSpec := { name := "pixelEnds", fn := fun _ => fun
  | [d1, d2, d3] => { results := [.lit (.bool true)], args := [d1, d2, d3] }
  | _ => none }
def pixelEndsRow : OpenClaim := { program := "ytolekbgbcahfgaa", sum := "4dc8e960ff1302cd84b0def2d28accbac448c4739a2462c53f784f332d4ddbff", func := "mutoscope/mutoscopelaw09.PixelEnds", spec := "pixelEnds", unfollowed := true, recurses := true, apart := false }
def PixelEndsSaid : Prop := pixelEndsRow.holds Try.pinned (OpenSpec.ofChange pixelEndsSpec)

/-- ITS FALSE NEIGHBOUR: 'it returns false'. Refute it at one input. -/
def pixelEndsWrong : ChangeSpec := { name := "pixelEnds", fn := fun _ => fun
  | [d1, d2, d3] => { results := [.lit (.bool false)], args := [d1, d2, d3] }
  | _ => none }
def PixelEndsWrongFalsely : Prop := pixelEndsRow.holds Try.pinned (OpenSpec.ofChange pixelEndsWrong)

/- THE SECOND FORM. 'bulk': how many values and letters a reading holds, each counted each time it is reached (what is shared counts as often as it is met; a slice's spare places count too). A statement '..UptoSaid' is the law's where the arguments, and the package variables that the reading takes, are together of bulk at most 1048576: NARROWER than '..Said'. Prove '..Said' where nothing that the law and all that it calls make is longer than what came in: it says more and counts as full. Else prove '..UptoSaid'. A law counts once. -/
mutual
def uptoBulk {H : Type} : DataW H → Nat
  | .lit (.string bytes) => bytes.length + 1
  | .lit _ => 1
  | .nil => 1
  | .ptr d => uptoBulk d + 1
  | .slice elems spare => uptoBulkAll elems + uptoBulkAll spare + 1
  | .agg parts => uptoBulkAll parts + 1
  | .iface _ d => uptoBulk d + 1
  | .map entries => uptoBulkEntries entries + 1
  | .held _ => 1
def uptoBulkAll {H : Type} : List (DataW H) → Nat
  | [] => 0
  | d :: r => uptoBulk d + uptoBulkAll r
def uptoBulkEntries {H : Type} : List (Lit × DataW H) → Nat
  | [] => 0
  | x :: r => uptoBulkEntry x + uptoBulkEntries r
def uptoBulkEntry {H : Type} : Lit × DataW H → Nat
  | (.string bytes, d) => bytes.length + uptoBulk d + 1
  | (_, d) => uptoBulk d + 1
 end
def uptoSmall : (H : Type) → List (DataW H) → Bool := fun _ ds => decide (uptoBulkAll ds ≤ 1048576)
def OpenSpec.upto (s : _root_.Go.ChangeSpec) : _root_.Go.OpenSpec := { _root_.Go.OpenSpec.ofChange s with cond := some uptoSmall }

/-- 'mutoscopelaw09.PixelParts', WHERE WHAT IT READS IS OF BULK AT MOST 1048576: true; the input reads as it did. -/
def pixelPartsUptoRow : OpenClaim := { program := "ytolekbgbcahfgaa", sum := "4dc8e960ff1302cd84b0def2d28accbac448c4739a2462c53f784f332d4ddbff", func := "mutoscope/mutoscopelaw09.PixelParts", spec := "pixelParts", unfollowed := true, recurses := true, apart := false, narrowed := true }
def PixelPartsUptoSaid : Prop := pixelPartsUptoRow.holds Try.pinned (OpenSpec.upto pixelPartsSpec)

/-- 'mutoscopelaw09.PixelBys', WHERE WHAT IT READS IS OF BULK AT MOST 1048576: true; the input reads as it did. -/
def pixelBysUptoRow : OpenClaim := { program := "ytolekbgbcahfgaa", sum := "4dc8e960ff1302cd84b0def2d28accbac448c4739a2462c53f784f332d4ddbff", func := "mutoscope/mutoscopelaw09.PixelBys", spec := "pixelBys", unfollowed := true, recurses := true, apart := false, narrowed := true }
def PixelBysUptoSaid : Prop := pixelBysUptoRow.holds Try.pinned (OpenSpec.upto pixelBysSpec)

/-- 'mutoscopelaw09.PixelOvers', WHERE WHAT IT READS IS OF BULK AT MOST 1048576: true; the input reads as it did. -/
def pixelOversUptoRow : OpenClaim := { program := "ytolekbgbcahfgaa", sum := "4dc8e960ff1302cd84b0def2d28accbac448c4739a2462c53f784f332d4ddbff", func := "mutoscope/mutoscopelaw09.PixelOvers", spec := "pixelOvers", unfollowed := true, recurses := true, apart := false, narrowed := true }
def PixelOversUptoSaid : Prop := pixelOversUptoRow.holds Try.pinned (OpenSpec.upto pixelOversSpec)

/-- 'mutoscopelaw09.PixelTimes', WHERE WHAT IT READS IS OF BULK AT MOST 1048576: true; the input reads as it did. -/
def pixelTimesUptoRow : OpenClaim := { program := "ytolekbgbcahfgaa", sum := "4dc8e960ff1302cd84b0def2d28accbac448c4739a2462c53f784f332d4ddbff", func := "mutoscope/mutoscopelaw09.PixelTimes", spec := "pixelTimes", unfollowed := true, recurses := true, apart := false, narrowed := true }
def PixelTimesUptoSaid : Prop := pixelTimesUptoRow.holds Try.pinned (OpenSpec.upto pixelTimesSpec)

/-- 'mutoscopelaw09.PixelEnds', WHERE WHAT IT READS IS OF BULK AT MOST 1048576: true; the input reads as it did. -/
def pixelEndsUptoRow : OpenClaim := { program := "ytolekbgbcahfgaa", sum := "4dc8e960ff1302cd84b0def2d28accbac448c4739a2462c53f784f332d4ddbff", func := "mutoscope/mutoscopelaw09.PixelEnds", spec := "pixelEnds", unfollowed := true, recurses := true, apart := false, narrowed := true }
def PixelEndsUptoSaid : Prop := pixelEndsUptoRow.holds Try.pinned (OpenSpec.upto pixelEndsSpec)

end Rows
end Go.Proofs.Ytolekbgbcahfgaa
