/-
  No cell of these rows narrows 'for every input' (looked for: loops, veiled, ifaces, maps, wideKeys, modest, calm, conditions, laid).
  DERIVED. THE GIVEN ROWS OF THIS SEAT. 4 by the template 'for every input the law returns true; each argument reads behind the call as it read before'; 0 by the template 'total and deterministic' (their statements: YthmegninhpihkaaGreatTotals.lean).
  GIVEN WITH THE SEED: the statements are not yours to turn. If you find one false, say at which input.
  Laid BY PROGRAM, IN A SANDBOX (cutbox-rows.mjs): the forced cells as the released guide's own fill.sh prints them over the translation aaff16bafaedf577… (all of the seat's roots in one cut). By AI agents, Wed Nov 11 2026. No macro, syntax, notation, axiom, sorry.
-/
import Derived.Test.YthmegninhpihkaaGreatChecked
import GoSem.Claim
import GoSem.ClaimJoined
import GoSem.ClaimMapViews
import Derived.JoinedTies
import Derived.KernelRfl
namespace Go.Proofs.YthmegninhpihkaaGreat
/- THE CELL 'sum', in the pinned program and in every row, IS THE sha256 OF THE DUMP (.gsa) THAT YthmegninhpihkaaGreatProg.lean LOADS. Nothing in Lean hashes anything: it is a label: what it is worth is what the hold of that sum in a sandbox is worth. -/
noncomputable def Tryz.pinned : Pinned := { name := "ythmegninhpihkaagreat", sum := "aaff16bafaedf577622a8769d16a2e2c5123f4cddfd25bbb0880767d7641d47f", checked := Tryz.checked }
namespace Rows
def none {H : Type} : Left H := { results := [], args := [] }

/-- 'mutoscopelaw18.HitAt': WHATEVER THE INPUT: true; the input reads as it did. -/
def hitAtSpec : ChangeSpec := { name := "hitAt", fn := fun _ => fun
  | [d1, d2, d3] => { results := [.lit (.bool true)], args := [d1, d2, d3] }
  | _ => none }
def hitAtRow : OpenClaim := { program := "ythmegninhpihkaagreat", sum := "aaff16bafaedf577622a8769d16a2e2c5123f4cddfd25bbb0880767d7641d47f", func := "mutoscope/mutoscopelaw18.HitAt", spec := "hitAt", inPlace := ["slices.overlaps[*mutoscope/tree.node]"], unfollowed := true, recurses := true, apart := false }
def HitAtSaid : Prop := hitAtRow.holds Tryz.pinned (OpenSpec.ofChange hitAtSpec)

/-- ITS FALSE NEIGHBOUR: 'it returns false'. Refute it at one input. -/
def hitAtWrong : ChangeSpec := { name := "hitAt", fn := fun _ => fun
  | [d1, d2, d3] => { results := [.lit (.bool false)], args := [d1, d2, d3] }
  | _ => none }
def HitAtWrongFalsely : Prop := hitAtRow.holds Tryz.pinned (OpenSpec.ofChange hitAtWrong)

/-- 'mutoscopelaw18.HitLocal': WHATEVER THE INPUT: true; the input reads as it did. -/
def hitLocalSpec : ChangeSpec := { name := "hitLocal", fn := fun _ => fun
  | [d1, d2, d3] => { results := [.lit (.bool true)], args := [d1, d2, d3] }
  | _ => none }
def hitLocalRow : OpenClaim := { program := "ythmegninhpihkaagreat", sum := "aaff16bafaedf577622a8769d16a2e2c5123f4cddfd25bbb0880767d7641d47f", func := "mutoscope/mutoscopelaw18.HitLocal", spec := "hitLocal", inPlace := ["slices.overlaps[*mutoscope/tree.node]"], unfollowed := true, recurses := true, apart := false }
def HitLocalSaid : Prop := hitLocalRow.holds Tryz.pinned (OpenSpec.ofChange hitLocalSpec)

/-- ITS FALSE NEIGHBOUR: 'it returns false'. Refute it at one input. -/
def hitLocalWrong : ChangeSpec := { name := "hitLocal", fn := fun _ => fun
  | [d1, d2, d3] => { results := [.lit (.bool false)], args := [d1, d2, d3] }
  | _ => none }
def HitLocalWrongFalsely : Prop := hitLocalRow.holds Tryz.pinned (OpenSpec.ofChange hitLocalWrong)

/-- 'mutoscopelaw18.HitHides': WHATEVER THE INPUT: true; the input reads as it did. -/
def hitHidesSpec : ChangeSpec := { name := "hitHides", fn := fun _ => fun
  | [d1, d2, d3] => { results := [.lit (.bool true)], args := [d1, d2, d3] }
  | _ => none }
def hitHidesRow : OpenClaim := { program := "ythmegninhpihkaagreat", sum := "aaff16bafaedf577622a8769d16a2e2c5123f4cddfd25bbb0880767d7641d47f", func := "mutoscope/mutoscopelaw18.HitHides", spec := "hitHides", inPlace := ["slices.overlaps[*mutoscope/tree.node]"], unfollowed := true, recurses := true, apart := false }
def HitHidesSaid : Prop := hitHidesRow.holds Tryz.pinned (OpenSpec.ofChange hitHidesSpec)

/-- ITS FALSE NEIGHBOUR: 'it returns false'. Refute it at one input. -/
def hitHidesWrong : ChangeSpec := { name := "hitHides", fn := fun _ => fun
  | [d1, d2, d3] => { results := [.lit (.bool false)], args := [d1, d2, d3] }
  | _ => none }
def HitHidesWrongFalsely : Prop := hitHidesRow.holds Tryz.pinned (OpenSpec.ofChange hitHidesWrong)

/-- 'mutoscopelaw18.HitOrder': WHATEVER THE INPUT: true; the input reads as it did. -/
def hitOrderSpec : ChangeSpec := { name := "hitOrder", fn := fun _ => fun
  | [d1, d2] => { results := [.lit (.bool true)], args := [d1, d2] }
  | _ => none }
def hitOrderRow : OpenClaim := { program := "ythmegninhpihkaagreat", sum := "aaff16bafaedf577622a8769d16a2e2c5123f4cddfd25bbb0880767d7641d47f", func := "mutoscope/mutoscopelaw18.HitOrder", spec := "hitOrder", inPlace := ["slices.overlaps[*mutoscope/tree.node]"], unfollowed := true, recurses := true, apart := false }
def HitOrderSaid : Prop := hitOrderRow.holds Tryz.pinned (OpenSpec.ofChange hitOrderSpec)

/-- ITS FALSE NEIGHBOUR: 'it returns false'. Refute it at one input. -/
def hitOrderWrong : ChangeSpec := { name := "hitOrder", fn := fun _ => fun
  | [d1, d2] => { results := [.lit (.bool false)], args := [d1, d2] }
  | _ => none }
def HitOrderWrongFalsely : Prop := hitOrderRow.holds Tryz.pinned (OpenSpec.ofChange hitOrderWrong)

/- THE SECOND FORM. 'bulk': how many values and letters a reading holds, each counted each time it is reached (what is shared counts as often as it is met; a slice's spare places count too). A statement '..UptoSaid' is the law's where the arguments, and the package variables that the reading takes, are together of bulk at most 1048576: NARROWER than '..Said'. Prove '..Said' where nothing that the law and all that it calls make is longer than what came in: it says more and counts as full. Else prove '..UptoSaid'. A law counts once. -/
mutual
def uptoBulk {H : Type} : DataW H → Nat
  | .lit (.string bytes) => bytes.length + 1
  | .lit _ => 1
  | .nil => 1
  | .ptr d => uptoBulk d + 1
  | .slice elems spare => uptoBulkAll elems + uptoBulkAll spare + 1
  | .agg parts => uptoBulkAll parts + 1
  | .iface _ d => uptoBulk d + 1
  | .map entries => uptoBulkEntries entries + 1
  | .held _ => 1
def uptoBulkAll {H : Type} : List (DataW H) → Nat
  | [] => 0
  | d :: r => uptoBulk d + uptoBulkAll r
def uptoBulkEntries {H : Type} : List (Lit × DataW H) → Nat
  | [] => 0
  | x :: r => uptoBulkEntry x + uptoBulkEntries r
def uptoBulkEntry {H : Type} : Lit × DataW H → Nat
  | (.string bytes, d) => bytes.length + uptoBulk d + 1
  | (_, d) => uptoBulk d + 1
 end
def uptoSmall : (H : Type) → List (DataW H) → Bool := fun _ ds => decide (uptoBulkAll ds ≤ 1048576)
def OpenSpec.upto (s : _root_.Go.ChangeSpec) : _root_.Go.OpenSpec := { _root_.Go.OpenSpec.ofChange s with cond := some uptoSmall }

/-- 'mutoscopelaw18.HitAt', WHERE WHAT IT READS IS OF BULK AT MOST 1048576: true; the input reads as it did. -/
def hitAtUptoRow : OpenClaim := { program := "ythmegninhpihkaagreat", sum := "aaff16bafaedf577622a8769d16a2e2c5123f4cddfd25bbb0880767d7641d47f", func := "mutoscope/mutoscopelaw18.HitAt", spec := "hitAt", inPlace := ["slices.overlaps[*mutoscope/tree.node]"], unfollowed := true, recurses := true, apart := false, narrowed := true }
def HitAtUptoSaid : Prop := hitAtUptoRow.holds Tryz.pinned (OpenSpec.upto hitAtSpec)

/-- 'mutoscopelaw18.HitLocal', WHERE WHAT IT READS IS OF BULK AT MOST 1048576: true; the input reads as it did. -/
def hitLocalUptoRow : OpenClaim := { program := "ythmegninhpihkaagreat", sum := "aaff16bafaedf577622a8769d16a2e2c5123f4cddfd25bbb0880767d7641d47f", func := "mutoscope/mutoscopelaw18.HitLocal", spec := "hitLocal", inPlace := ["slices.overlaps[*mutoscope/tree.node]"], unfollowed := true, recurses := true, apart := false, narrowed := true }
def HitLocalUptoSaid : Prop := hitLocalUptoRow.holds Tryz.pinned (OpenSpec.upto hitLocalSpec)

/-- 'mutoscopelaw18.HitHides', WHERE WHAT IT READS IS OF BULK AT MOST 1048576: true; the input reads as it did. -/
def hitHidesUptoRow : OpenClaim := { program := "ythmegninhpihkaagreat", sum := "aaff16bafaedf577622a8769d16a2e2c5123f4cddfd25bbb0880767d7641d47f", func := "mutoscope/mutoscopelaw18.HitHides", spec := "hitHides", inPlace := ["slices.overlaps[*mutoscope/tree.node]"], unfollowed := true, recurses := true, apart := false, narrowed := true }
def HitHidesUptoSaid : Prop := hitHidesUptoRow.holds Tryz.pinned (OpenSpec.upto hitHidesSpec)

/-- 'mutoscopelaw18.HitOrder', WHERE WHAT IT READS IS OF BULK AT MOST 1048576: true; the input reads as it did. -/
def hitOrderUptoRow : OpenClaim := { program := "ythmegninhpihkaagreat", sum := "aaff16bafaedf577622a8769d16a2e2c5123f4cddfd25bbb0880767d7641d47f", func := "mutoscope/mutoscopelaw18.HitOrder", spec := "hitOrder", inPlace := ["slices.overlaps[*mutoscope/tree.node]"], unfollowed := true, recurses := true, apart := false, narrowed := true }
def HitOrderUptoSaid : Prop := hitOrderUptoRow.holds Tryz.pinned (OpenSpec.upto hitOrderSpec)

end Rows
end Go.Proofs.YthmegninhpihkaaGreat
