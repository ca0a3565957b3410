/-
  No cell of these rows narrows 'for every input' (looked for: loops, veiled, ifaces, maps, wideKeys, modest, calm, conditions, laid).
  DERIVED. THE GIVEN ROWS OF THIS SEAT. 11 by the template 'for every input the law returns true; each argument reads behind the call as it read before'; 0 by the template 'total and deterministic' (their statements: YthpifjcddgmjnaaGreatTotals.lean).
  GIVEN WITH THE SEED: the statements are not yours to turn. If you find one false, say at which input.
  Laid BY PROGRAM, IN A SANDBOX (cutbox-rows.mjs): the forced cells as the released guide's own fill.sh prints them over the translation a6cbc6849567cfd7… (all of the seat's roots in one cut). By AI agents, Wed Nov 11 2026. No macro, syntax, notation, axiom, sorry.
-/
import Derived.Test.YthpifjcddgmjnaaGreatChecked
import GoSem.Claim
import GoSem.ClaimJoined
import GoSem.ClaimMapViews
import Derived.JoinedTies
import Derived.KernelRfl
namespace Go.Proofs.YthpifjcddgmjnaaGreat
/- THE CELL 'sum', in the pinned program and in every row, IS THE sha256 OF THE DUMP (.gsa) THAT YthpifjcddgmjnaaGreatProg.lean LOADS. Nothing in Lean hashes anything: it is a label: what it is worth is what the hold of that sum in a sandbox is worth. -/
noncomputable def Tryz.pinned : Pinned := { name := "ythpifjcddgmjnaagreat", sum := "a6cbc6849567cfd76af8a41946b25e318ea63e94870413dd676d6de7c6c18b4a", checked := Tryz.checked }
namespace Rows
def none {H : Type} : Left H := { results := [], args := [] }

/-- 'mutoscopelaw13.ScenePlays': WHATEVER THE INPUT: true; the input reads as it did. -/
def scenePlaysSpec : ChangeSpec := { name := "scenePlays", fn := fun _ => fun
  | [d1, d2] => { results := [.lit (.bool true)], args := [d1, d2] }
  | _ => none }
def scenePlaysRow : OpenClaim := { program := "ythpifjcddgmjnaagreat", sum := "a6cbc6849567cfd76af8a41946b25e318ea63e94870413dd676d6de7c6c18b4a", func := "mutoscope/mutoscopelaw13.ScenePlays", spec := "scenePlays", inPlace := ["slices.overlaps[*mutoscope/tree.node]", "maps.clone"], unfollowed := true, recurses := true, apart := false }
def ScenePlaysSaid : Prop := scenePlaysRow.holds Tryz.pinned (OpenSpec.ofChange scenePlaysSpec)

/-- ITS FALSE NEIGHBOUR: 'it returns false'. Refute it at one input. -/
def scenePlaysWrong : ChangeSpec := { name := "scenePlays", fn := fun _ => fun
  | [d1, d2] => { results := [.lit (.bool false)], args := [d1, d2] }
  | _ => none }
def ScenePlaysWrongFalsely : Prop := scenePlaysRow.holds Tryz.pinned (OpenSpec.ofChange scenePlaysWrong)

/-- 'mutoscopelaw13.SceneNews': WHATEVER THE INPUT: true; the input reads as it did. -/
def sceneNewsSpec : ChangeSpec := { name := "sceneNews", fn := fun _ => fun
  | [d1, d2, d3] => { results := [.lit (.bool true)], args := [d1, d2, d3] }
  | _ => none }
def sceneNewsRow : OpenClaim := { program := "ythpifjcddgmjnaagreat", sum := "a6cbc6849567cfd76af8a41946b25e318ea63e94870413dd676d6de7c6c18b4a", func := "mutoscope/mutoscopelaw13.SceneNews", spec := "sceneNews", inPlace := ["slices.overlaps[*mutoscope/tree.node]", "maps.clone"], unfollowed := true, recurses := true, apart := false }
def SceneNewsSaid : Prop := sceneNewsRow.holds Tryz.pinned (OpenSpec.ofChange sceneNewsSpec)

/-- ITS FALSE NEIGHBOUR: 'it returns false'. Refute it at one input. -/
def sceneNewsWrong : ChangeSpec := { name := "sceneNews", fn := fun _ => fun
  | [d1, d2, d3] => { results := [.lit (.bool false)], args := [d1, d2, d3] }
  | _ => none }
def SceneNewsWrongFalsely : Prop := sceneNewsRow.holds Tryz.pinned (OpenSpec.ofChange sceneNewsWrong)

/-- 'mutoscopelaw13.SceneCopies': WHATEVER THE INPUT: true; the input reads as it did. -/
def sceneCopiesSpec : ChangeSpec := { name := "sceneCopies", fn := fun _ => fun
  | [d1, d2] => { results := [.lit (.bool true)], args := [d1, d2] }
  | _ => none }
def sceneCopiesRow : OpenClaim := { program := "ythpifjcddgmjnaagreat", sum := "a6cbc6849567cfd76af8a41946b25e318ea63e94870413dd676d6de7c6c18b4a", func := "mutoscope/mutoscopelaw13.SceneCopies", spec := "sceneCopies", inPlace := ["slices.overlaps[*mutoscope/tree.node]", "maps.clone"], unfollowed := true, recurses := true, apart := false }
def SceneCopiesSaid : Prop := sceneCopiesRow.holds Tryz.pinned (OpenSpec.ofChange sceneCopiesSpec)

/-- ITS FALSE NEIGHBOUR: 'it returns false'. Refute it at one input. -/
def sceneCopiesWrong : ChangeSpec := { name := "sceneCopies", fn := fun _ => fun
  | [d1, d2] => { results := [.lit (.bool false)], args := [d1, d2] }
  | _ => none }
def SceneCopiesWrongFalsely : Prop := sceneCopiesRow.holds Tryz.pinned (OpenSpec.ofChange sceneCopiesWrong)

/-- 'mutoscopelaw13.SceneKeeps': WHATEVER THE INPUT: true; the input reads as it did. -/
def sceneKeepsSpec : ChangeSpec := { name := "sceneKeeps", fn := fun _ => fun
  | [d1, d2] => { results := [.lit (.bool true)], args := [d1, d2] }
  | _ => none }
def sceneKeepsRow : OpenClaim := { program := "ythpifjcddgmjnaagreat", sum := "a6cbc6849567cfd76af8a41946b25e318ea63e94870413dd676d6de7c6c18b4a", func := "mutoscope/mutoscopelaw13.SceneKeeps", spec := "sceneKeeps", inPlace := ["slices.overlaps[*mutoscope/tree.node]", "maps.clone"], unfollowed := true, recurses := true, apart := false }
def SceneKeepsSaid : Prop := sceneKeepsRow.holds Tryz.pinned (OpenSpec.ofChange sceneKeepsSpec)

/-- ITS FALSE NEIGHBOUR: 'it returns false'. Refute it at one input. -/
def sceneKeepsWrong : ChangeSpec := { name := "sceneKeeps", fn := fun _ => fun
  | [d1, d2] => { results := [.lit (.bool false)], args := [d1, d2] }
  | _ => none }
def SceneKeepsWrongFalsely : Prop := sceneKeepsRow.holds Tryz.pinned (OpenSpec.ofChange sceneKeepsWrong)

/-- 'mutoscopelaw13.SceneSplits': WHATEVER THE INPUT: true; the input reads as it did. -/
def sceneSplitsSpec : ChangeSpec := { name := "sceneSplits", fn := fun _ => fun
  | [d1, d2, d3] => { results := [.lit (.bool true)], args := [d1, d2, d3] }
  | _ => none }
def sceneSplitsRow : OpenClaim := { program := "ythpifjcddgmjnaagreat", sum := "a6cbc6849567cfd76af8a41946b25e318ea63e94870413dd676d6de7c6c18b4a", func := "mutoscope/mutoscopelaw13.SceneSplits", spec := "sceneSplits", inPlace := ["slices.overlaps[*mutoscope/tree.node]", "maps.clone"], unfollowed := true, recurses := true, apart := false }
def SceneSplitsSaid : Prop := sceneSplitsRow.holds Tryz.pinned (OpenSpec.ofChange sceneSplitsSpec)

/-- ITS FALSE NEIGHBOUR: 'it returns false'. Refute it at one input. -/
def sceneSplitsWrong : ChangeSpec := { name := "sceneSplits", fn := fun _ => fun
  | [d1, d2, d3] => { results := [.lit (.bool false)], args := [d1, d2, d3] }
  | _ => none }
def SceneSplitsWrongFalsely : Prop := sceneSplitsRow.holds Tryz.pinned (OpenSpec.ofChange sceneSplitsWrong)

/-- 'mutoscopelaw14.FlatLists': WHATEVER THE INPUT: true; the input reads as it did. -/
def flatListsSpec : ChangeSpec := { name := "flatLists", fn := fun _ => fun
  | [d] => { results := [.lit (.bool true)], args := [d] }
  | _ => none }
def flatListsRow : OpenClaim := { program := "ythpifjcddgmjnaagreat", sum := "a6cbc6849567cfd76af8a41946b25e318ea63e94870413dd676d6de7c6c18b4a", func := "mutoscope/mutoscopelaw14.FlatLists", spec := "flatLists", inPlace := ["slices.overlaps[*mutoscope/tree.node]"], unfollowed := true, recurses := true, apart := false }
def FlatListsSaid : Prop := flatListsRow.holds Tryz.pinned (OpenSpec.ofChange flatListsSpec)

/-- ITS FALSE NEIGHBOUR: 'it returns false'. Refute it at one input. -/
def flatListsWrong : ChangeSpec := { name := "flatLists", fn := fun _ => fun
  | [d] => { results := [.lit (.bool false)], args := [d] }
  | _ => none }
def FlatListsWrongFalsely : Prop := flatListsRow.holds Tryz.pinned (OpenSpec.ofChange flatListsWrong)

/-- 'mutoscopelaw14.FlatColors': WHATEVER THE INPUT: true; the input reads as it did. -/
def flatColorsSpec : ChangeSpec := { name := "flatColors", fn := fun _ => fun
  | [d1, d2, d3] => { results := [.lit (.bool true)], args := [d1, d2, d3] }
  | _ => none }
def flatColorsRow : OpenClaim := { program := "ythpifjcddgmjnaagreat", sum := "a6cbc6849567cfd76af8a41946b25e318ea63e94870413dd676d6de7c6c18b4a", func := "mutoscope/mutoscopelaw14.FlatColors", spec := "flatColors", inPlace := ["slices.overlaps[*mutoscope/tree.node]"], unfollowed := true, recurses := true, apart := false }
def FlatColorsSaid : Prop := flatColorsRow.holds Tryz.pinned (OpenSpec.ofChange flatColorsSpec)

/-- ITS FALSE NEIGHBOUR: 'it returns false'. Refute it at one input. -/
def flatColorsWrong : ChangeSpec := { name := "flatColors", fn := fun _ => fun
  | [d1, d2, d3] => { results := [.lit (.bool false)], args := [d1, d2, d3] }
  | _ => none }
def FlatColorsWrongFalsely : Prop := flatColorsRow.holds Tryz.pinned (OpenSpec.ofChange flatColorsWrong)

/-- 'mutoscopelaw14.FlatHides': WHATEVER THE INPUT: true; the input reads as it did. -/
def flatHidesSpec : ChangeSpec := { name := "flatHides", fn := fun _ => fun
  | [d1, d2] => { results := [.lit (.bool true)], args := [d1, d2] }
  | _ => none }
def flatHidesRow : OpenClaim := { program := "ythpifjcddgmjnaagreat", sum := "a6cbc6849567cfd76af8a41946b25e318ea63e94870413dd676d6de7c6c18b4a", func := "mutoscope/mutoscopelaw14.FlatHides", spec := "flatHides", inPlace := ["slices.overlaps[*mutoscope/tree.node]"], unfollowed := true, recurses := true, apart := false }
def FlatHidesSaid : Prop := flatHidesRow.holds Tryz.pinned (OpenSpec.ofChange flatHidesSpec)

/-- ITS FALSE NEIGHBOUR: 'it returns false'. Refute it at one input. -/
def flatHidesWrong : ChangeSpec := { name := "flatHides", fn := fun _ => fun
  | [d1, d2] => { results := [.lit (.bool false)], args := [d1, d2] }
  | _ => none }
def FlatHidesWrongFalsely : Prop := flatHidesRow.holds Tryz.pinned (OpenSpec.ofChange flatHidesWrong)

/-- 'mutoscopelaw14.FlatShifts': WHATEVER THE INPUT: true; the input reads as it did. -/
def flatShiftsSpec : ChangeSpec := { name := "flatShifts", fn := fun _ => fun
  | [d1, d2, d3] => { results := [.lit (.bool true)], args := [d1, d2, d3] }
  | _ => none }
def flatShiftsRow : OpenClaim := { program := "ythpifjcddgmjnaagreat", sum := "a6cbc6849567cfd76af8a41946b25e318ea63e94870413dd676d6de7c6c18b4a", func := "mutoscope/mutoscopelaw14.FlatShifts", spec := "flatShifts", inPlace := ["slices.overlaps[*mutoscope/tree.node]"], unfollowed := true, recurses := true, apart := false }
def FlatShiftsSaid : Prop := flatShiftsRow.holds Tryz.pinned (OpenSpec.ofChange flatShiftsSpec)

/-- ITS FALSE NEIGHBOUR: 'it returns false'. Refute it at one input. -/
def flatShiftsWrong : ChangeSpec := { name := "flatShifts", fn := fun _ => fun
  | [d1, d2, d3] => { results := [.lit (.bool false)], args := [d1, d2, d3] }
  | _ => none }
def FlatShiftsWrongFalsely : Prop := flatShiftsRow.holds Tryz.pinned (OpenSpec.ofChange flatShiftsWrong)

/-- 'mutoscopelaw15.RasterPix': WHATEVER THE INPUT: true; the input reads as it did. -/
def rasterPixSpec : ChangeSpec := { name := "rasterPix", fn := fun _ => fun
  | [d1, d2, d3] => { results := [.lit (.bool true)], args := [d1, d2, d3] }
  | _ => none }
def rasterPixRow : OpenClaim := { program := "ythpifjcddgmjnaagreat", sum := "a6cbc6849567cfd76af8a41946b25e318ea63e94870413dd676d6de7c6c18b4a", func := "mutoscope/mutoscopelaw15.RasterPix", spec := "rasterPix", inPlace := ["slices.overlaps[*mutoscope/tree.node]"], unfollowed := true, recurses := true, apart := false }
def RasterPixSaid : Prop := rasterPixRow.holds Tryz.pinned (OpenSpec.ofChange rasterPixSpec)

/-- ITS FALSE NEIGHBOUR: 'it returns false'. Refute it at one input. -/
def rasterPixWrong : ChangeSpec := { name := "rasterPix", fn := fun _ => fun
  | [d1, d2, d3] => { results := [.lit (.bool false)], args := [d1, d2, d3] }
  | _ => none }
def RasterPixWrongFalsely : Prop := rasterPixRow.holds Tryz.pinned (OpenSpec.ofChange rasterPixWrong)

/-- 'mutoscopelaw15.RasterPaints': WHATEVER THE INPUT: true; the input reads as it did. -/
def rasterPaintsSpec : ChangeSpec := { name := "rasterPaints", fn := fun _ => fun
  | [d1, d2, d3] => { results := [.lit (.bool true)], args := [d1, d2, d3] }
  | _ => none }
def rasterPaintsRow : OpenClaim := { program := "ythpifjcddgmjnaagreat", sum := "a6cbc6849567cfd76af8a41946b25e318ea63e94870413dd676d6de7c6c18b4a", func := "mutoscope/mutoscopelaw15.RasterPaints", spec := "rasterPaints", inPlace := ["slices.overlaps[*mutoscope/tree.node]"], unfollowed := true, recurses := true, apart := false }
def RasterPaintsSaid : Prop := rasterPaintsRow.holds Tryz.pinned (OpenSpec.ofChange rasterPaintsSpec)

/-- ITS FALSE NEIGHBOUR: 'it returns false'. Refute it at one input. -/
def rasterPaintsWrong : ChangeSpec := { name := "rasterPaints", fn := fun _ => fun
  | [d1, d2, d3] => { results := [.lit (.bool false)], args := [d1, d2, d3] }
  | _ => none }
def RasterPaintsWrongFalsely : Prop := rasterPaintsRow.holds Tryz.pinned (OpenSpec.ofChange rasterPaintsWrong)

/- THE SECOND FORM. 'bulk': how many values and letters a reading holds, each counted each time it is reached (what is shared counts as often as it is met; a slice's spare places count too). A statement '..UptoSaid' is the law's where the arguments, and the package variables that the reading takes, are together of bulk at most 1048576: NARROWER than '..Said'. Prove '..Said' where nothing that the law and all that it calls make is longer than what came in: it says more and counts as full. Else prove '..UptoSaid'. A law counts once. -/
mutual
def uptoBulk {H : Type} : DataW H → Nat
  | .lit (.string bytes) => bytes.length + 1
  | .lit _ => 1
  | .nil => 1
  | .ptr d => uptoBulk d + 1
  | .slice elems spare => uptoBulkAll elems + uptoBulkAll spare + 1
  | .agg parts => uptoBulkAll parts + 1
  | .iface _ d => uptoBulk d + 1
  | .map entries => uptoBulkEntries entries + 1
  | .held _ => 1
def uptoBulkAll {H : Type} : List (DataW H) → Nat
  | [] => 0
  | d :: r => uptoBulk d + uptoBulkAll r
def uptoBulkEntries {H : Type} : List (Lit × DataW H) → Nat
  | [] => 0
  | x :: r => uptoBulkEntry x + uptoBulkEntries r
def uptoBulkEntry {H : Type} : Lit × DataW H → Nat
  | (.string bytes, d) => bytes.length + uptoBulk d + 1
  | (_, d) => uptoBulk d + 1
 end
def uptoSmall : (H : Type) → List (DataW H) → Bool := fun _ ds => decide (uptoBulkAll ds ≤ 1048576)
def OpenSpec.upto (s : _root_.Go.ChangeSpec) : _root_.Go.OpenSpec := { _root_.Go.OpenSpec.ofChange s with cond := some uptoSmall }

/-- 'mutoscopelaw13.ScenePlays', WHERE WHAT IT READS IS OF BULK AT MOST 1048576: true; the input reads as it did. -/
def scenePlaysUptoRow : OpenClaim := { program := "ythpifjcddgmjnaagreat", sum := "a6cbc6849567cfd76af8a41946b25e318ea63e94870413dd676d6de7c6c18b4a", func := "mutoscope/mutoscopelaw13.ScenePlays", spec := "scenePlays", inPlace := ["slices.overlaps[*mutoscope/tree.node]", "maps.clone"], unfollowed := true, recurses := true, apart := false, narrowed := true }
def ScenePlaysUptoSaid : Prop := scenePlaysUptoRow.holds Tryz.pinned (OpenSpec.upto scenePlaysSpec)

/-- 'mutoscopelaw13.SceneNews', WHERE WHAT IT READS IS OF BULK AT MOST 1048576: true; the input reads as it did. -/
def sceneNewsUptoRow : OpenClaim := { program := "ythpifjcddgmjnaagreat", sum := "a6cbc6849567cfd76af8a41946b25e318ea63e94870413dd676d6de7c6c18b4a", func := "mutoscope/mutoscopelaw13.SceneNews", spec := "sceneNews", inPlace := ["slices.overlaps[*mutoscope/tree.node]", "maps.clone"], unfollowed := true, recurses := true, apart := false, narrowed := true }
def SceneNewsUptoSaid : Prop := sceneNewsUptoRow.holds Tryz.pinned (OpenSpec.upto sceneNewsSpec)

/-- 'mutoscopelaw13.SceneCopies', WHERE WHAT IT READS IS OF BULK AT MOST 1048576: true; the input reads as it did. -/
def sceneCopiesUptoRow : OpenClaim := { program := "ythpifjcddgmjnaagreat", sum := "a6cbc6849567cfd76af8a41946b25e318ea63e94870413dd676d6de7c6c18b4a", func := "mutoscope/mutoscopelaw13.SceneCopies", spec := "sceneCopies", inPlace := ["slices.overlaps[*mutoscope/tree.node]", "maps.clone"], unfollowed := true, recurses := true, apart := false, narrowed := true }
def SceneCopiesUptoSaid : Prop := sceneCopiesUptoRow.holds Tryz.pinned (OpenSpec.upto sceneCopiesSpec)

/-- 'mutoscopelaw13.SceneKeeps', WHERE WHAT IT READS IS OF BULK AT MOST 1048576: true; the input reads as it did. -/
def sceneKeepsUptoRow : OpenClaim := { program := "ythpifjcddgmjnaagreat", sum := "a6cbc6849567cfd76af8a41946b25e318ea63e94870413dd676d6de7c6c18b4a", func := "mutoscope/mutoscopelaw13.SceneKeeps", spec := "sceneKeeps", inPlace := ["slices.overlaps[*mutoscope/tree.node]", "maps.clone"], unfollowed := true, recurses := true, apart := false, narrowed := true }
def SceneKeepsUptoSaid : Prop := sceneKeepsUptoRow.holds Tryz.pinned (OpenSpec.upto sceneKeepsSpec)

/-- 'mutoscopelaw13.SceneSplits', WHERE WHAT IT READS IS OF BULK AT MOST 1048576: true; the input reads as it did. -/
def sceneSplitsUptoRow : OpenClaim := { program := "ythpifjcddgmjnaagreat", sum := "a6cbc6849567cfd76af8a41946b25e318ea63e94870413dd676d6de7c6c18b4a", func := "mutoscope/mutoscopelaw13.SceneSplits", spec := "sceneSplits", inPlace := ["slices.overlaps[*mutoscope/tree.node]", "maps.clone"], unfollowed := true, recurses := true, apart := false, narrowed := true }
def SceneSplitsUptoSaid : Prop := sceneSplitsUptoRow.holds Tryz.pinned (OpenSpec.upto sceneSplitsSpec)

/-- 'mutoscopelaw14.FlatLists', WHERE WHAT IT READS IS OF BULK AT MOST 1048576: true; the input reads as it did. -/
def flatListsUptoRow : OpenClaim := { program := "ythpifjcddgmjnaagreat", sum := "a6cbc6849567cfd76af8a41946b25e318ea63e94870413dd676d6de7c6c18b4a", func := "mutoscope/mutoscopelaw14.FlatLists", spec := "flatLists", inPlace := ["slices.overlaps[*mutoscope/tree.node]"], unfollowed := true, recurses := true, apart := false, narrowed := true }
def FlatListsUptoSaid : Prop := flatListsUptoRow.holds Tryz.pinned (OpenSpec.upto flatListsSpec)

/-- 'mutoscopelaw14.FlatColors', WHERE WHAT IT READS IS OF BULK AT MOST 1048576: true; the input reads as it did. -/
def flatColorsUptoRow : OpenClaim := { program := "ythpifjcddgmjnaagreat", sum := "a6cbc6849567cfd76af8a41946b25e318ea63e94870413dd676d6de7c6c18b4a", func := "mutoscope/mutoscopelaw14.FlatColors", spec := "flatColors", inPlace := ["slices.overlaps[*mutoscope/tree.node]"], unfollowed := true, recurses := true, apart := false, narrowed := true }
def FlatColorsUptoSaid : Prop := flatColorsUptoRow.holds Tryz.pinned (OpenSpec.upto flatColorsSpec)

/-- 'mutoscopelaw14.FlatHides', WHERE WHAT IT READS IS OF BULK AT MOST 1048576: true; the input reads as it did. -/
def flatHidesUptoRow : OpenClaim := { program := "ythpifjcddgmjnaagreat", sum := "a6cbc6849567cfd76af8a41946b25e318ea63e94870413dd676d6de7c6c18b4a", func := "mutoscope/mutoscopelaw14.FlatHides", spec := "flatHides", inPlace := ["slices.overlaps[*mutoscope/tree.node]"], unfollowed := true, recurses := true, apart := false, narrowed := true }
def FlatHidesUptoSaid : Prop := flatHidesUptoRow.holds Tryz.pinned (OpenSpec.upto flatHidesSpec)

/-- 'mutoscopelaw14.FlatShifts', WHERE WHAT IT READS IS OF BULK AT MOST 1048576: true; the input reads as it did. -/
def flatShiftsUptoRow : OpenClaim := { program := "ythpifjcddgmjnaagreat", sum := "a6cbc6849567cfd76af8a41946b25e318ea63e94870413dd676d6de7c6c18b4a", func := "mutoscope/mutoscopelaw14.FlatShifts", spec := "flatShifts", inPlace := ["slices.overlaps[*mutoscope/tree.node]"], unfollowed := true, recurses := true, apart := false, narrowed := true }
def FlatShiftsUptoSaid : Prop := flatShiftsUptoRow.holds Tryz.pinned (OpenSpec.upto flatShiftsSpec)

/-- 'mutoscopelaw15.RasterPix', WHERE WHAT IT READS IS OF BULK AT MOST 1048576: true; the input reads as it did. -/
def rasterPixUptoRow : OpenClaim := { program := "ythpifjcddgmjnaagreat", sum := "a6cbc6849567cfd76af8a41946b25e318ea63e94870413dd676d6de7c6c18b4a", func := "mutoscope/mutoscopelaw15.RasterPix", spec := "rasterPix", inPlace := ["slices.overlaps[*mutoscope/tree.node]"], unfollowed := true, recurses := true, apart := false, narrowed := true }
def RasterPixUptoSaid : Prop := rasterPixUptoRow.holds Tryz.pinned (OpenSpec.upto rasterPixSpec)

/-- 'mutoscopelaw15.RasterPaints', WHERE WHAT IT READS IS OF BULK AT MOST 1048576: true; the input reads as it did. -/
def rasterPaintsUptoRow : OpenClaim := { program := "ythpifjcddgmjnaagreat", sum := "a6cbc6849567cfd76af8a41946b25e318ea63e94870413dd676d6de7c6c18b4a", func := "mutoscope/mutoscopelaw15.RasterPaints", spec := "rasterPaints", inPlace := ["slices.overlaps[*mutoscope/tree.node]"], unfollowed := true, recurses := true, apart := false, narrowed := true }
def RasterPaintsUptoSaid : Prop := rasterPaintsUptoRow.holds Tryz.pinned (OpenSpec.upto rasterPaintsSpec)

end Rows
end Go.Proofs.YthpifjcddgmjnaaGreat
