/-
  No cell of these rows narrows 'for every input' (looked for: loops, veiled, ifaces, maps, wideKeys, modest, calm, conditions, laid).
  DERIVED. THE GIVEN ROWS OF THIS SEAT. 3 by the template 'for every input the law returns true; each argument reads behind the call as it read before'; 0 by the template 'total and deterministic' (their statements: YtgadheamldianaaTotals.lean).
  GIVEN WITH THE SEED: the statements are not yours to turn. If you find one false, say at which input.
  Laid BY PROGRAM, IN A SANDBOX (cutbox-rows.mjs): the forced cells as the released guide's own fill.sh prints them over the translation 3bea4085f0d7076d… (all of the seat's roots in one cut). By AI agents, Wed Nov 11 2026. No macro, syntax, notation, axiom, sorry.
-/
import Derived.Test.YtgadheamldianaaChecked
import GoSem.Claim
import GoSem.ClaimJoined
import GoSem.ClaimMapViews
import Derived.JoinedTies
import Derived.KernelRfl
namespace Go.Proofs.Ytgadheamldianaa
/- THE CELL 'sum', in the pinned program and in every row, IS THE sha256 OF THE DUMP (.gsa) THAT YtgadheamldianaaProg.lean LOADS. Nothing in Lean hashes anything: it is a label: what it is worth is what the hold of that sum in a sandbox is worth. -/
noncomputable def Try.pinned : Pinned := { name := "ytgadheamldianaa", sum := "3bea4085f0d7076d692586c728a3ae314bccbfad84fd06de116bd1f8d32a3e25", checked := Try.checked }
namespace Rows
def none {H : Type} : Left H := { results := [], args := [] }

/-- 'mutoscopelaw19.EventPlain': WHATEVER THE INPUT: true; the input reads as it did. -/
def eventPlainSpec : ChangeSpec := { name := "eventPlain", fn := fun _ => fun
  | [d] => { results := [.lit (.bool true)], args := [d] }
  | _ => none }
def eventPlainRow : OpenClaim := { program := "ytgadheamldianaa", sum := "3bea4085f0d7076d692586c728a3ae314bccbfad84fd06de116bd1f8d32a3e25", func := "mutoscope/mutoscopelaw19.EventPlain", spec := "eventPlain", unfollowed := true, recurses := true, apart := false }
def EventPlainSaid : Prop := eventPlainRow.holds Try.pinned (OpenSpec.ofChange eventPlainSpec)

/-- ITS FALSE NEIGHBOUR: 'it returns false'. Refute it at one input. -/
def eventPlainWrong : ChangeSpec := { name := "eventPlain", fn := fun _ => fun
  | [d] => { results := [.lit (.bool false)], args := [d] }
  | _ => none }
def EventPlainWrongFalsely : Prop := eventPlainRow.holds Try.pinned (OpenSpec.ofChange eventPlainWrong)

/-- 'mutoscopelaw19.EventMakes': WHATEVER THE INPUT: true; the input reads as it did. -/
def eventMakesSpec : ChangeSpec := { name := "eventMakes", fn := fun _ => fun
  | [d1, d2, d3] => { results := [.lit (.bool true)], args := [d1, d2, d3] }
  | _ => none }
def eventMakesRow : OpenClaim := { program := "ytgadheamldianaa", sum := "3bea4085f0d7076d692586c728a3ae314bccbfad84fd06de116bd1f8d32a3e25", func := "mutoscope/mutoscopelaw19.EventMakes", spec := "eventMakes", unfollowed := true, recurses := true, apart := false }
def EventMakesSaid : Prop := eventMakesRow.holds Try.pinned (OpenSpec.ofChange eventMakesSpec)

/-- ITS FALSE NEIGHBOUR: 'it returns false'. Refute it at one input. -/
def eventMakesWrong : ChangeSpec := { name := "eventMakes", fn := fun _ => fun
  | [d1, d2, d3] => { results := [.lit (.bool false)], args := [d1, d2, d3] }
  | _ => none }
def EventMakesWrongFalsely : Prop := eventMakesRow.holds Try.pinned (OpenSpec.ofChange eventMakesWrong)

/-- 'mutoscopelaw19.EventEquals': WHATEVER THE INPUT: true; the input reads as it did. -/
def eventEqualsSpec : ChangeSpec := { name := "eventEquals", fn := fun _ => fun
  | [d1, d2] => { results := [.lit (.bool true)], args := [d1, d2] }
  | _ => none }
def eventEqualsRow : OpenClaim := { program := "ytgadheamldianaa", sum := "3bea4085f0d7076d692586c728a3ae314bccbfad84fd06de116bd1f8d32a3e25", func := "mutoscope/mutoscopelaw19.EventEquals", spec := "eventEquals", unfollowed := true, recurses := true, apart := false }
def EventEqualsSaid : Prop := eventEqualsRow.holds Try.pinned (OpenSpec.ofChange eventEqualsSpec)

/-- ITS FALSE NEIGHBOUR: 'it returns false'. Refute it at one input. -/
def eventEqualsWrong : ChangeSpec := { name := "eventEquals", fn := fun _ => fun
  | [d1, d2] => { results := [.lit (.bool false)], args := [d1, d2] }
  | _ => none }
def EventEqualsWrongFalsely : Prop := eventEqualsRow.holds Try.pinned (OpenSpec.ofChange eventEqualsWrong)

/- THE SECOND FORM. 'bulk': how many values and letters a reading holds, each counted each time it is reached (what is shared counts as often as it is met; a slice's spare places count too). A statement '..UptoSaid' is the law's where the arguments, and the package variables that the reading takes, are together of bulk at most 1048576: NARROWER than '..Said'. Prove '..Said' where nothing that the law and all that it calls make is longer than what came in: it says more and counts as full. Else prove '..UptoSaid'. A law counts once. -/
mutual
def uptoBulk {H : Type} : DataW H → Nat
  | .lit (.string bytes) => bytes.length + 1
  | .lit _ => 1
  | .nil => 1
  | .ptr d => uptoBulk d + 1
  | .slice elems spare => uptoBulkAll elems + uptoBulkAll spare + 1
  | .agg parts => uptoBulkAll parts + 1
  | .iface _ d => uptoBulk d + 1
  | .map entries => uptoBulkEntries entries + 1
  | .held _ => 1
def uptoBulkAll {H : Type} : List (DataW H) → Nat
  | [] => 0
  | d :: r => uptoBulk d + uptoBulkAll r
def uptoBulkEntries {H : Type} : List (Lit × DataW H) → Nat
  | [] => 0
  | x :: r => uptoBulkEntry x + uptoBulkEntries r
def uptoBulkEntry {H : Type} : Lit × DataW H → Nat
  | (.string bytes, d) => bytes.length + uptoBulk d + 1
  | (_, d) => uptoBulk d + 1
 end
def uptoSmall : (H : Type) → List (DataW H) → Bool := fun _ ds => decide (uptoBulkAll ds ≤ 1048576)
def OpenSpec.upto (s : _root_.Go.ChangeSpec) : _root_.Go.OpenSpec := { _root_.Go.OpenSpec.ofChange s with cond := some uptoSmall }

/-- 'mutoscopelaw19.EventPlain', WHERE WHAT IT READS IS OF BULK AT MOST 1048576: true; the input reads as it did. -/
def eventPlainUptoRow : OpenClaim := { program := "ytgadheamldianaa", sum := "3bea4085f0d7076d692586c728a3ae314bccbfad84fd06de116bd1f8d32a3e25", func := "mutoscope/mutoscopelaw19.EventPlain", spec := "eventPlain", unfollowed := true, recurses := true, apart := false, narrowed := true }
def EventPlainUptoSaid : Prop := eventPlainUptoRow.holds Try.pinned (OpenSpec.upto eventPlainSpec)

/-- 'mutoscopelaw19.EventMakes', WHERE WHAT IT READS IS OF BULK AT MOST 1048576: true; the input reads as it did. -/
def eventMakesUptoRow : OpenClaim := { program := "ytgadheamldianaa", sum := "3bea4085f0d7076d692586c728a3ae314bccbfad84fd06de116bd1f8d32a3e25", func := "mutoscope/mutoscopelaw19.EventMakes", spec := "eventMakes", unfollowed := true, recurses := true, apart := false, narrowed := true }
def EventMakesUptoSaid : Prop := eventMakesUptoRow.holds Try.pinned (OpenSpec.upto eventMakesSpec)

/-- 'mutoscopelaw19.EventEquals', WHERE WHAT IT READS IS OF BULK AT MOST 1048576: true; the input reads as it did. -/
def eventEqualsUptoRow : OpenClaim := { program := "ytgadheamldianaa", sum := "3bea4085f0d7076d692586c728a3ae314bccbfad84fd06de116bd1f8d32a3e25", func := "mutoscope/mutoscopelaw19.EventEquals", spec := "eventEquals", unfollowed := true, recurses := true, apart := false, narrowed := true }
def EventEqualsUptoSaid : Prop := eventEqualsUptoRow.holds Try.pinned (OpenSpec.upto eventEqualsSpec)

end Rows
end Go.Proofs.Ytgadheamldianaa
