/-
  No cell of these rows narrows 'for every input' (looked for: loops, veiled, ifaces, maps, wideKeys, modest, calm, conditions, laid).
  DERIVED. THE GIVEN ROWS OF THIS SEAT. 4 by the template 'for every input the law returns true; each argument reads behind the call as it read before'; 0 by the template 'total and deterministic' (their statements: YtmbfkaodoankaaaTotals.lean).
  GIVEN WITH THE SEED: the statements are not yours to turn. If you find one false, say at which input.
  Laid BY PROGRAM, IN A SANDBOX (cutbox-rows.mjs): the forced cells as the released guide's own fill.sh prints them over the translation 5f2da08bb0d646f9… (all of the seat's roots in one cut). By AI agents, Wed Nov 11 2026. No macro, syntax, notation, axiom, sorry.
-/
import Derived.Test.YtmbfkaodoankaaaChecked
import GoSem.Claim
import GoSem.ClaimJoined
import GoSem.ClaimMapViews
import Derived.JoinedTies
import Derived.KernelRfl
namespace Go.Proofs.Ytmbfkaodoankaaa
/- THE CELL 'sum', in the pinned program and in every row, IS THE sha256 OF THE DUMP (.gsa) THAT YtmbfkaodoankaaaProg.lean LOADS. Nothing in Lean hashes anything: it is a label: what it is worth is what the hold of that sum in a sandbox is worth. -/
noncomputable def Try.pinned : Pinned := { name := "ytmbfkaodoankaaa", sum := "5f2da08bb0d646f9756c380576168ceacc7bdd7b218fdfcbb7d91d0f3c824572", checked := Try.checked }
namespace Rows
def none {H : Type} : Left H := { results := [], args := [] }

/-- 'mutoscopelaw08.AffineTakes': WHATEVER THE INPUT: true; the input reads as it did. -/
def affineTakesSpec : ChangeSpec := { name := "affineTakes", fn := fun _ => fun
  | [d1, d2] => { results := [.lit (.bool true)], args := [d1, d2] }
  | _ => none }
def affineTakesRow : OpenClaim := { program := "ytmbfkaodoankaaa", sum := "5f2da08bb0d646f9756c380576168ceacc7bdd7b218fdfcbb7d91d0f3c824572", func := "mutoscope/mutoscopelaw08.AffineTakes", spec := "affineTakes", apart := false }
def AffineTakesSaid : Prop := affineTakesRow.holds Try.pinned (OpenSpec.ofChange affineTakesSpec)

/-- ITS FALSE NEIGHBOUR: 'it returns false'. Refute it at one input. -/
def affineTakesWrong : ChangeSpec := { name := "affineTakes", fn := fun _ => fun
  | [d1, d2] => { results := [.lit (.bool false)], args := [d1, d2] }
  | _ => none }
def AffineTakesWrongFalsely : Prop := affineTakesRow.holds Try.pinned (OpenSpec.ofChange affineTakesWrong)

/-- 'mutoscopelaw08.AffineThens': WHATEVER THE INPUT: true; the input reads as it did. -/
def affineThensSpec : ChangeSpec := { name := "affineThens", fn := fun _ => fun
  | [d1, d2] => { results := [.lit (.bool true)], args := [d1, d2] }
  | _ => none }
def affineThensRow : OpenClaim := { program := "ytmbfkaodoankaaa", sum := "5f2da08bb0d646f9756c380576168ceacc7bdd7b218fdfcbb7d91d0f3c824572", func := "mutoscope/mutoscopelaw08.AffineThens", spec := "affineThens", apart := false }
def AffineThensSaid : Prop := affineThensRow.holds Try.pinned (OpenSpec.ofChange affineThensSpec)

/-- ITS FALSE NEIGHBOUR: 'it returns false'. Refute it at one input. -/
def affineThensWrong : ChangeSpec := { name := "affineThens", fn := fun _ => fun
  | [d1, d2] => { results := [.lit (.bool false)], args := [d1, d2] }
  | _ => none }
def AffineThensWrongFalsely : Prop := affineThensRow.holds Try.pinned (OpenSpec.ofChange affineThensWrong)

/-- 'mutoscopelaw08.AffineBacks': WHATEVER THE INPUT: true; the input reads as it did. -/
def affineBacksSpec : ChangeSpec := { name := "affineBacks", fn := fun _ => fun
  | [d1, d2] => { results := [.lit (.bool true)], args := [d1, d2] }
  | _ => none }
def affineBacksRow : OpenClaim := { program := "ytmbfkaodoankaaa", sum := "5f2da08bb0d646f9756c380576168ceacc7bdd7b218fdfcbb7d91d0f3c824572", func := "mutoscope/mutoscopelaw08.AffineBacks", spec := "affineBacks", apart := false }
def AffineBacksSaid : Prop := affineBacksRow.holds Try.pinned (OpenSpec.ofChange affineBacksSpec)

/-- ITS FALSE NEIGHBOUR: 'it returns false'. Refute it at one input. -/
def affineBacksWrong : ChangeSpec := { name := "affineBacks", fn := fun _ => fun
  | [d1, d2] => { results := [.lit (.bool false)], args := [d1, d2] }
  | _ => none }
def AffineBacksWrongFalsely : Prop := affineBacksRow.holds Try.pinned (OpenSpec.ofChange affineBacksWrong)

/-- 'mutoscopelaw08.AffineKinds': WHATEVER THE INPUT: true; the input reads as it did. -/
def affineKindsSpec : ChangeSpec := { name := "affineKinds", fn := fun _ => fun
  | [d1, d2, d3] => { results := [.lit (.bool true)], args := [d1, d2, d3] }
  | _ => none }
def affineKindsRow : OpenClaim := { program := "ytmbfkaodoankaaa", sum := "5f2da08bb0d646f9756c380576168ceacc7bdd7b218fdfcbb7d91d0f3c824572", func := "mutoscope/mutoscopelaw08.AffineKinds", spec := "affineKinds", apart := false }
def AffineKindsSaid : Prop := affineKindsRow.holds Try.pinned (OpenSpec.ofChange affineKindsSpec)

/-- ITS FALSE NEIGHBOUR: 'it returns false'. Refute it at one input. -/
def affineKindsWrong : ChangeSpec := { name := "affineKinds", fn := fun _ => fun
  | [d1, d2, d3] => { results := [.lit (.bool false)], args := [d1, d2, d3] }
  | _ => none }
def AffineKindsWrongFalsely : Prop := affineKindsRow.holds Try.pinned (OpenSpec.ofChange affineKindsWrong)

/- THE SECOND FORM. 'bulk': how many values and letters a reading holds, each counted each time it is reached (what is shared counts as often as it is met; a slice's spare places count too). A statement '..UptoSaid' is the law's where the arguments, and the package variables that the reading takes, are together of bulk at most 1048576: NARROWER than '..Said'. Prove '..Said' where nothing that the law and all that it calls make is longer than what came in: it says more and counts as full. Else prove '..UptoSaid'. A law counts once. -/
mutual
def uptoBulk {H : Type} : DataW H → Nat
  | .lit (.string bytes) => bytes.length + 1
  | .lit _ => 1
  | .nil => 1
  | .ptr d => uptoBulk d + 1
  | .slice elems spare => uptoBulkAll elems + uptoBulkAll spare + 1
  | .agg parts => uptoBulkAll parts + 1
  | .iface _ d => uptoBulk d + 1
  | .map entries => uptoBulkEntries entries + 1
  | .held _ => 1
def uptoBulkAll {H : Type} : List (DataW H) → Nat
  | [] => 0
  | d :: r => uptoBulk d + uptoBulkAll r
def uptoBulkEntries {H : Type} : List (Lit × DataW H) → Nat
  | [] => 0
  | x :: r => uptoBulkEntry x + uptoBulkEntries r
def uptoBulkEntry {H : Type} : Lit × DataW H → Nat
  | (.string bytes, d) => bytes.length + uptoBulk d + 1
  | (_, d) => uptoBulk d + 1
 end
def uptoSmall : (H : Type) → List (DataW H) → Bool := fun _ ds => decide (uptoBulkAll ds ≤ 1048576)
def OpenSpec.upto (s : _root_.Go.ChangeSpec) : _root_.Go.OpenSpec := { _root_.Go.OpenSpec.ofChange s with cond := some uptoSmall }

/-- 'mutoscopelaw08.AffineTakes', WHERE WHAT IT READS IS OF BULK AT MOST 1048576: true; the input reads as it did. -/
def affineTakesUptoRow : OpenClaim := { program := "ytmbfkaodoankaaa", sum := "5f2da08bb0d646f9756c380576168ceacc7bdd7b218fdfcbb7d91d0f3c824572", func := "mutoscope/mutoscopelaw08.AffineTakes", spec := "affineTakes", apart := false, narrowed := true }
def AffineTakesUptoSaid : Prop := affineTakesUptoRow.holds Try.pinned (OpenSpec.upto affineTakesSpec)

/-- 'mutoscopelaw08.AffineThens', WHERE WHAT IT READS IS OF BULK AT MOST 1048576: true; the input reads as it did. -/
def affineThensUptoRow : OpenClaim := { program := "ytmbfkaodoankaaa", sum := "5f2da08bb0d646f9756c380576168ceacc7bdd7b218fdfcbb7d91d0f3c824572", func := "mutoscope/mutoscopelaw08.AffineThens", spec := "affineThens", apart := false, narrowed := true }
def AffineThensUptoSaid : Prop := affineThensUptoRow.holds Try.pinned (OpenSpec.upto affineThensSpec)

/-- 'mutoscopelaw08.AffineBacks', WHERE WHAT IT READS IS OF BULK AT MOST 1048576: true; the input reads as it did. -/
def affineBacksUptoRow : OpenClaim := { program := "ytmbfkaodoankaaa", sum := "5f2da08bb0d646f9756c380576168ceacc7bdd7b218fdfcbb7d91d0f3c824572", func := "mutoscope/mutoscopelaw08.AffineBacks", spec := "affineBacks", apart := false, narrowed := true }
def AffineBacksUptoSaid : Prop := affineBacksUptoRow.holds Try.pinned (OpenSpec.upto affineBacksSpec)

/-- 'mutoscopelaw08.AffineKinds', WHERE WHAT IT READS IS OF BULK AT MOST 1048576: true; the input reads as it did. -/
def affineKindsUptoRow : OpenClaim := { program := "ytmbfkaodoankaaa", sum := "5f2da08bb0d646f9756c380576168ceacc7bdd7b218fdfcbb7d91d0f3c824572", func := "mutoscope/mutoscopelaw08.AffineKinds", spec := "affineKinds", apart := false, narrowed := true }
def AffineKindsUptoSaid : Prop := affineKindsUptoRow.holds Try.pinned (OpenSpec.upto affineKindsSpec)

end Rows
end Go.Proofs.Ytmbfkaodoankaaa
