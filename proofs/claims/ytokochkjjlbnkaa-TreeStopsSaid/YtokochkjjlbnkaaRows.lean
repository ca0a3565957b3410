/-
  No cell of these rows narrows 'for every input' (looked for: loops, veiled, ifaces, maps, wideKeys, modest, calm, conditions, laid).
  DERIVED. THE GIVEN ROWS OF THIS SEAT. 6 by the template 'for every input the law returns true; each argument reads behind the call as it read before'; 0 by the template 'total and deterministic' (their statements: YtokochkjjlbnkaaTotals.lean).
  GIVEN WITH THE SEED: the statements are not yours to turn. If you find one false, say at which input.
  Laid BY PROGRAM, IN A SANDBOX (cutbox-rows.mjs): the forced cells as the released guide's own fill.sh prints them over the translation 393fc5744e854689… (all of the seat's roots in one cut). By AI agents, Wed Nov 11 2026. No macro, syntax, notation, axiom, sorry.
-/
import Derived.Test.YtokochkjjlbnkaaChecked
import GoSem.Claim
import GoSem.ClaimJoined
import GoSem.ClaimMapViews
import Derived.JoinedTies
import Derived.KernelRfl
namespace Go.Proofs.Ytokochkjjlbnkaa
/- THE CELL 'sum', in the pinned program and in every row, IS THE sha256 OF THE DUMP (.gsa) THAT YtokochkjjlbnkaaProg.lean LOADS. Nothing in Lean hashes anything: it is a label: what it is worth is what the hold of that sum in a sandbox is worth. -/
noncomputable def Try.pinned : Pinned := { name := "ytokochkjjlbnkaa", sum := "393fc5744e854689d9c92bde324d26046b59076a9d5619bc8276232e869f163e", checked := Try.checked }
namespace Rows
def none {H : Type} : Left H := { results := [], args := [] }

/-- 'mutoscopelaw12.TreePlays': WHATEVER THE INPUT: true; the input reads as it did. -/
def treePlaysSpec : ChangeSpec := { name := "treePlays", fn := fun _ => fun
  | [d] => { results := [.lit (.bool true)], args := [d] }
  | _ => none }
def treePlaysRow : OpenClaim := { program := "ytokochkjjlbnkaa", sum := "393fc5744e854689d9c92bde324d26046b59076a9d5619bc8276232e869f163e", func := "mutoscope/mutoscopelaw12.TreePlays", spec := "treePlays", inPlace := ["slices.overlaps[*mutoscope/tree.node]"], unfollowed := true, recurses := true, apart := false }
def TreePlaysSaid : Prop := treePlaysRow.holds Try.pinned (OpenSpec.ofChange treePlaysSpec)

/-- ITS FALSE NEIGHBOUR: 'it returns false'. Refute it at one input. -/
def treePlaysWrong : ChangeSpec := { name := "treePlays", fn := fun _ => fun
  | [d] => { results := [.lit (.bool false)], args := [d] }
  | _ => none }
def TreePlaysWrongFalsely : Prop := treePlaysRow.holds Try.pinned (OpenSpec.ofChange treePlaysWrong)

/-- 'mutoscopelaw12.TreeWithin': WHATEVER THE INPUT: true; the input reads as it did. -/
def treeWithinSpec : ChangeSpec := { name := "treeWithin", fn := fun _ => fun
  | [d1, d2, d3] => { results := [.lit (.bool true)], args := [d1, d2, d3] }
  | _ => none }
def treeWithinRow : OpenClaim := { program := "ytokochkjjlbnkaa", sum := "393fc5744e854689d9c92bde324d26046b59076a9d5619bc8276232e869f163e", func := "mutoscope/mutoscopelaw12.TreeWithin", spec := "treeWithin", inPlace := ["slices.overlaps[*mutoscope/tree.node]"], unfollowed := true, recurses := true, apart := false }
def TreeWithinSaid : Prop := treeWithinRow.holds Try.pinned (OpenSpec.ofChange treeWithinSpec)

/-- ITS FALSE NEIGHBOUR: 'it returns false'. Refute it at one input. -/
def treeWithinWrong : ChangeSpec := { name := "treeWithin", fn := fun _ => fun
  | [d1, d2, d3] => { results := [.lit (.bool false)], args := [d1, d2, d3] }
  | _ => none }
def TreeWithinWrongFalsely : Prop := treeWithinRow.holds Try.pinned (OpenSpec.ofChange treeWithinWrong)

/-- 'mutoscopelaw12.TreeClones': WHATEVER THE INPUT: true; the input reads as it did. -/
def treeClonesSpec : ChangeSpec := { name := "treeClones", fn := fun _ => fun
  | [d1, d2, d3] => { results := [.lit (.bool true)], args := [d1, d2, d3] }
  | _ => none }
def treeClonesRow : OpenClaim := { program := "ytokochkjjlbnkaa", sum := "393fc5744e854689d9c92bde324d26046b59076a9d5619bc8276232e869f163e", func := "mutoscope/mutoscopelaw12.TreeClones", spec := "treeClones", inPlace := ["slices.overlaps[*mutoscope/tree.node]"], unfollowed := true, recurses := true, apart := false }
def TreeClonesSaid : Prop := treeClonesRow.holds Try.pinned (OpenSpec.ofChange treeClonesSpec)

/-- ITS FALSE NEIGHBOUR: 'it returns false'. Refute it at one input. -/
def treeClonesWrong : ChangeSpec := { name := "treeClones", fn := fun _ => fun
  | [d1, d2, d3] => { results := [.lit (.bool false)], args := [d1, d2, d3] }
  | _ => none }
def TreeClonesWrongFalsely : Prop := treeClonesRow.holds Try.pinned (OpenSpec.ofChange treeClonesWrong)

/-- 'mutoscopelaw12.TreeStops': WHATEVER THE INPUT: true; the input reads as it did. -/
def treeStopsSpec : ChangeSpec := { name := "treeStops", fn := fun _ => fun
  | [d1, d2] => { results := [.lit (.bool true)], args := [d1, d2] }
  | _ => none }
def treeStopsRow : OpenClaim := { program := "ytokochkjjlbnkaa", sum := "393fc5744e854689d9c92bde324d26046b59076a9d5619bc8276232e869f163e", func := "mutoscope/mutoscopelaw12.TreeStops", spec := "treeStops", inPlace := ["slices.overlaps[*mutoscope/tree.node]"], unfollowed := true, recurses := true, apart := false }
def TreeStopsSaid : Prop := treeStopsRow.holds Try.pinned (OpenSpec.ofChange treeStopsSpec)

/-- ITS FALSE NEIGHBOUR: 'it returns false'. Refute it at one input. -/
def treeStopsWrong : ChangeSpec := { name := "treeStops", fn := fun _ => fun
  | [d1, d2] => { results := [.lit (.bool false)], args := [d1, d2] }
  | _ => none }
def TreeStopsWrongFalsely : Prop := treeStopsRow.holds Try.pinned (OpenSpec.ofChange treeStopsWrong)

/-- 'mutoscopelaw12.TreeBack': WHATEVER THE INPUT: true; the input reads as it did. -/
def treeBackSpec : ChangeSpec := { name := "treeBack", fn := fun _ => fun
  | [d1, d2] => { results := [.lit (.bool true)], args := [d1, d2] }
  | _ => none }
def treeBackRow : OpenClaim := { program := "ytokochkjjlbnkaa", sum := "393fc5744e854689d9c92bde324d26046b59076a9d5619bc8276232e869f163e", func := "mutoscope/mutoscopelaw12.TreeBack", spec := "treeBack", inPlace := ["slices.overlaps[*mutoscope/tree.node]"], unfollowed := true, recurses := true, apart := false }
def TreeBackSaid : Prop := treeBackRow.holds Try.pinned (OpenSpec.ofChange treeBackSpec)

/-- ITS FALSE NEIGHBOUR: 'it returns false'. Refute it at one input. -/
def treeBackWrong : ChangeSpec := { name := "treeBack", fn := fun _ => fun
  | [d1, d2] => { results := [.lit (.bool false)], args := [d1, d2] }
  | _ => none }
def TreeBackWrongFalsely : Prop := treeBackRow.holds Try.pinned (OpenSpec.ofChange treeBackWrong)

/-- 'mutoscopelaw13.SceneMany': WHATEVER THE INPUT: true; the input reads as it did. -/
def sceneManySpec : ChangeSpec := { name := "sceneMany", fn := fun _ => fun
  | [d] => { results := [.lit (.bool true)], args := [d] }
  | _ => none }
def sceneManyRow : OpenClaim := { program := "ytokochkjjlbnkaa", sum := "393fc5744e854689d9c92bde324d26046b59076a9d5619bc8276232e869f163e", func := "mutoscope/mutoscopelaw13.SceneMany", spec := "sceneMany", inPlace := ["slices.overlaps[*mutoscope/tree.node]", "maps.clone"], unfollowed := true, recurses := true, apart := false }
def SceneManySaid : Prop := sceneManyRow.holds Try.pinned (OpenSpec.ofChange sceneManySpec)

/-- ITS FALSE NEIGHBOUR: 'it returns false'. Refute it at one input. -/
def sceneManyWrong : ChangeSpec := { name := "sceneMany", fn := fun _ => fun
  | [d] => { results := [.lit (.bool false)], args := [d] }
  | _ => none }
def SceneManyWrongFalsely : Prop := sceneManyRow.holds Try.pinned (OpenSpec.ofChange sceneManyWrong)

/- THE SECOND FORM. 'bulk': how many values and letters a reading holds, each counted each time it is reached (what is shared counts as often as it is met; a slice's spare places count too). A statement '..UptoSaid' is the law's where the arguments, and the package variables that the reading takes, are together of bulk at most 1048576: NARROWER than '..Said'. Prove '..Said' where nothing that the law and all that it calls make is longer than what came in: it says more and counts as full. Else prove '..UptoSaid'. A law counts once. -/
mutual
def uptoBulk {H : Type} : DataW H → Nat
  | .lit (.string bytes) => bytes.length + 1
  | .lit _ => 1
  | .nil => 1
  | .ptr d => uptoBulk d + 1
  | .slice elems spare => uptoBulkAll elems + uptoBulkAll spare + 1
  | .agg parts => uptoBulkAll parts + 1
  | .iface _ d => uptoBulk d + 1
  | .map entries => uptoBulkEntries entries + 1
  | .held _ => 1
def uptoBulkAll {H : Type} : List (DataW H) → Nat
  | [] => 0
  | d :: r => uptoBulk d + uptoBulkAll r
def uptoBulkEntries {H : Type} : List (Lit × DataW H) → Nat
  | [] => 0
  | x :: r => uptoBulkEntry x + uptoBulkEntries r
def uptoBulkEntry {H : Type} : Lit × DataW H → Nat
  | (.string bytes, d) => bytes.length + uptoBulk d + 1
  | (_, d) => uptoBulk d + 1
 end
def uptoSmall : (H : Type) → List (DataW H) → Bool := fun _ ds => decide (uptoBulkAll ds ≤ 1048576)
def OpenSpec.upto (s : _root_.Go.ChangeSpec) : _root_.Go.OpenSpec := { _root_.Go.OpenSpec.ofChange s with cond := some uptoSmall }

/-- 'mutoscopelaw12.TreePlays', WHERE WHAT IT READS IS OF BULK AT MOST 1048576: true; the input reads as it did. -/
def treePlaysUptoRow : OpenClaim := { program := "ytokochkjjlbnkaa", sum := "393fc5744e854689d9c92bde324d26046b59076a9d5619bc8276232e869f163e", func := "mutoscope/mutoscopelaw12.TreePlays", spec := "treePlays", inPlace := ["slices.overlaps[*mutoscope/tree.node]"], unfollowed := true, recurses := true, apart := false, narrowed := true }
def TreePlaysUptoSaid : Prop := treePlaysUptoRow.holds Try.pinned (OpenSpec.upto treePlaysSpec)

/-- 'mutoscopelaw12.TreeWithin', WHERE WHAT IT READS IS OF BULK AT MOST 1048576: true; the input reads as it did. -/
def treeWithinUptoRow : OpenClaim := { program := "ytokochkjjlbnkaa", sum := "393fc5744e854689d9c92bde324d26046b59076a9d5619bc8276232e869f163e", func := "mutoscope/mutoscopelaw12.TreeWithin", spec := "treeWithin", inPlace := ["slices.overlaps[*mutoscope/tree.node]"], unfollowed := true, recurses := true, apart := false, narrowed := true }
def TreeWithinUptoSaid : Prop := treeWithinUptoRow.holds Try.pinned (OpenSpec.upto treeWithinSpec)

/-- 'mutoscopelaw12.TreeClones', WHERE WHAT IT READS IS OF BULK AT MOST 1048576: true; the input reads as it did. -/
def treeClonesUptoRow : OpenClaim := { program := "ytokochkjjlbnkaa", sum := "393fc5744e854689d9c92bde324d26046b59076a9d5619bc8276232e869f163e", func := "mutoscope/mutoscopelaw12.TreeClones", spec := "treeClones", inPlace := ["slices.overlaps[*mutoscope/tree.node]"], unfollowed := true, recurses := true, apart := false, narrowed := true }
def TreeClonesUptoSaid : Prop := treeClonesUptoRow.holds Try.pinned (OpenSpec.upto treeClonesSpec)

/-- 'mutoscopelaw12.TreeStops', WHERE WHAT IT READS IS OF BULK AT MOST 1048576: true; the input reads as it did. -/
def treeStopsUptoRow : OpenClaim := { program := "ytokochkjjlbnkaa", sum := "393fc5744e854689d9c92bde324d26046b59076a9d5619bc8276232e869f163e", func := "mutoscope/mutoscopelaw12.TreeStops", spec := "treeStops", inPlace := ["slices.overlaps[*mutoscope/tree.node]"], unfollowed := true, recurses := true, apart := false, narrowed := true }
def TreeStopsUptoSaid : Prop := treeStopsUptoRow.holds Try.pinned (OpenSpec.upto treeStopsSpec)

/-- 'mutoscopelaw12.TreeBack', WHERE WHAT IT READS IS OF BULK AT MOST 1048576: true; the input reads as it did. -/
def treeBackUptoRow : OpenClaim := { program := "ytokochkjjlbnkaa", sum := "393fc5744e854689d9c92bde324d26046b59076a9d5619bc8276232e869f163e", func := "mutoscope/mutoscopelaw12.TreeBack", spec := "treeBack", inPlace := ["slices.overlaps[*mutoscope/tree.node]"], unfollowed := true, recurses := true, apart := false, narrowed := true }
def TreeBackUptoSaid : Prop := treeBackUptoRow.holds Try.pinned (OpenSpec.upto treeBackSpec)

/-- 'mutoscopelaw13.SceneMany', WHERE WHAT IT READS IS OF BULK AT MOST 1048576: true; the input reads as it did. -/
def sceneManyUptoRow : OpenClaim := { program := "ytokochkjjlbnkaa", sum := "393fc5744e854689d9c92bde324d26046b59076a9d5619bc8276232e869f163e", func := "mutoscope/mutoscopelaw13.SceneMany", spec := "sceneMany", inPlace := ["slices.overlaps[*mutoscope/tree.node]", "maps.clone"], unfollowed := true, recurses := true, apart := false, narrowed := true }
def SceneManyUptoSaid : Prop := sceneManyUptoRow.holds Try.pinned (OpenSpec.upto sceneManySpec)

end Rows
end Go.Proofs.Ytokochkjjlbnkaa
