/-
  No cell of these rows narrows 'for every input' (looked for: loops, veiled, ifaces, maps, wideKeys, modest, calm, conditions, laid).
  DERIVED. THE GIVEN ROWS OF THIS SEAT. 4 by the template 'for every input the law returns true; each argument reads behind the call as it read before'; 0 by the template 'total and deterministic' (their statements: YtjnhjhbhodhfgaaTotals.lean).
  GIVEN WITH THE SEED: the statements are not yours to turn. If you find one false, say at which input.
  Laid BY PROGRAM, IN A SANDBOX (cutbox-rows.mjs): the forced cells as the released guide's own fill.sh prints them over the translation 5f3959d7f8e31ca9… (all of the seat's roots in one cut). By AI agents, Wed Nov 11 2026. No macro, syntax, notation, axiom, sorry.
-/
import Derived.Test.YtjnhjhbhodhfgaaChecked
import GoSem.Claim
import GoSem.ClaimJoined
import GoSem.ClaimMapViews
import Derived.JoinedTies
import Derived.KernelRfl
namespace Go.Proofs.Ytjnhjhbhodhfgaa
/- THE CELL 'sum', in the pinned program and in every row, IS THE sha256 OF THE DUMP (.gsa) THAT YtjnhjhbhodhfgaaProg.lean LOADS. Nothing in Lean hashes anything: it is a label: what it is worth is what the hold of that sum in a sandbox is worth. -/
noncomputable def Try.pinned : Pinned := { name := "ytjnhjhbhodhfgaa", sum := "5f3959d7f8e31ca95fb5001a387cbf47a389103b78cc9e6a30fe4583444d3bcb", checked := Try.checked }
namespace Rows
def none {H : Type} : Left H := { results := [], args := [] }

/-- 'mutoscopelaw06.RectCuts': WHATEVER THE INPUT: true; the input reads as it did. -/
def rectCutsSpec : ChangeSpec := { name := "rectCuts", fn := fun _ => fun
  | [d1, d2, d3] => { results := [.lit (.bool true)], args := [d1, d2, d3] }
  | _ => none }
def rectCutsRow : OpenClaim := { program := "ytjnhjhbhodhfgaa", sum := "5f3959d7f8e31ca95fb5001a387cbf47a389103b78cc9e6a30fe4583444d3bcb", func := "mutoscope/mutoscopelaw06.RectCuts", spec := "rectCuts", apart := false }
def RectCutsSaid : Prop := rectCutsRow.holds Try.pinned (OpenSpec.ofChange rectCutsSpec)

/-- ITS FALSE NEIGHBOUR: 'it returns false'. Refute it at one input. -/
def rectCutsWrong : ChangeSpec := { name := "rectCuts", fn := fun _ => fun
  | [d1, d2, d3] => { results := [.lit (.bool false)], args := [d1, d2, d3] }
  | _ => none }
def RectCutsWrongFalsely : Prop := rectCutsRow.holds Try.pinned (OpenSpec.ofChange rectCutsWrong)

/-- 'mutoscopelaw06.RectForms': WHATEVER THE INPUT: true; the input reads as it did. -/
def rectFormsSpec : ChangeSpec := { name := "rectForms", fn := fun _ => fun
  | [d1, d2] => { results := [.lit (.bool true)], args := [d1, d2] }
  | _ => none }
def rectFormsRow : OpenClaim := { program := "ytjnhjhbhodhfgaa", sum := "5f3959d7f8e31ca95fb5001a387cbf47a389103b78cc9e6a30fe4583444d3bcb", func := "mutoscope/mutoscopelaw06.RectForms", spec := "rectForms", apart := false }
def RectFormsSaid : Prop := rectFormsRow.holds Try.pinned (OpenSpec.ofChange rectFormsSpec)

/-- ITS FALSE NEIGHBOUR: 'it returns false'. Refute it at one input. -/
def rectFormsWrong : ChangeSpec := { name := "rectForms", fn := fun _ => fun
  | [d1, d2] => { results := [.lit (.bool false)], args := [d1, d2] }
  | _ => none }
def RectFormsWrongFalsely : Prop := rectFormsRow.holds Try.pinned (OpenSpec.ofChange rectFormsWrong)

/-- 'mutoscopelaw06.RectGrows': WHATEVER THE INPUT: true; the input reads as it did. -/
def rectGrowsSpec : ChangeSpec := { name := "rectGrows", fn := fun _ => fun
  | [d1, d2] => { results := [.lit (.bool true)], args := [d1, d2] }
  | _ => none }
def rectGrowsRow : OpenClaim := { program := "ytjnhjhbhodhfgaa", sum := "5f3959d7f8e31ca95fb5001a387cbf47a389103b78cc9e6a30fe4583444d3bcb", func := "mutoscope/mutoscopelaw06.RectGrows", spec := "rectGrows", apart := false }
def RectGrowsSaid : Prop := rectGrowsRow.holds Try.pinned (OpenSpec.ofChange rectGrowsSpec)

/-- ITS FALSE NEIGHBOUR: 'it returns false'. Refute it at one input. -/
def rectGrowsWrong : ChangeSpec := { name := "rectGrows", fn := fun _ => fun
  | [d1, d2] => { results := [.lit (.bool false)], args := [d1, d2] }
  | _ => none }
def RectGrowsWrongFalsely : Prop := rectGrowsRow.holds Try.pinned (OpenSpec.ofChange rectGrowsWrong)

/-- 'mutoscopelaw06.RectTogether': WHATEVER THE INPUT: true; the input reads as it did. -/
def rectTogetherSpec : ChangeSpec := { name := "rectTogether", fn := fun _ => fun
  | [d1, d2, d3] => { results := [.lit (.bool true)], args := [d1, d2, d3] }
  | _ => none }
def rectTogetherRow : OpenClaim := { program := "ytjnhjhbhodhfgaa", sum := "5f3959d7f8e31ca95fb5001a387cbf47a389103b78cc9e6a30fe4583444d3bcb", func := "mutoscope/mutoscopelaw06.RectTogether", spec := "rectTogether", apart := false }
def RectTogetherSaid : Prop := rectTogetherRow.holds Try.pinned (OpenSpec.ofChange rectTogetherSpec)

/-- ITS FALSE NEIGHBOUR: 'it returns false'. Refute it at one input. -/
def rectTogetherWrong : ChangeSpec := { name := "rectTogether", fn := fun _ => fun
  | [d1, d2, d3] => { results := [.lit (.bool false)], args := [d1, d2, d3] }
  | _ => none }
def RectTogetherWrongFalsely : Prop := rectTogetherRow.holds Try.pinned (OpenSpec.ofChange rectTogetherWrong)

/- THE SECOND FORM. 'bulk': how many values and letters a reading holds, each counted each time it is reached (what is shared counts as often as it is met; a slice's spare places count too). A statement '..UptoSaid' is the law's where the arguments, and the package variables that the reading takes, are together of bulk at most 1048576: NARROWER than '..Said'. Prove '..Said' where nothing that the law and all that it calls make is longer than what came in: it says more and counts as full. Else prove '..UptoSaid'. A law counts once. -/
mutual
def uptoBulk {H : Type} : DataW H → Nat
  | .lit (.string bytes) => bytes.length + 1
  | .lit _ => 1
  | .nil => 1
  | .ptr d => uptoBulk d + 1
  | .slice elems spare => uptoBulkAll elems + uptoBulkAll spare + 1
  | .agg parts => uptoBulkAll parts + 1
  | .iface _ d => uptoBulk d + 1
  | .map entries => uptoBulkEntries entries + 1
  | .held _ => 1
def uptoBulkAll {H : Type} : List (DataW H) → Nat
  | [] => 0
  | d :: r => uptoBulk d + uptoBulkAll r
def uptoBulkEntries {H : Type} : List (Lit × DataW H) → Nat
  | [] => 0
  | x :: r => uptoBulkEntry x + uptoBulkEntries r
def uptoBulkEntry {H : Type} : Lit × DataW H → Nat
  | (.string bytes, d) => bytes.length + uptoBulk d + 1
  | (_, d) => uptoBulk d + 1
 end
def uptoSmall : (H : Type) → List (DataW H) → Bool := fun _ ds => decide (uptoBulkAll ds ≤ 1048576)
def OpenSpec.upto (s : _root_.Go.ChangeSpec) : _root_.Go.OpenSpec := { _root_.Go.OpenSpec.ofChange s with cond := some uptoSmall }

/-- 'mutoscopelaw06.RectCuts', WHERE WHAT IT READS IS OF BULK AT MOST 1048576: true; the input reads as it did. -/
def rectCutsUptoRow : OpenClaim := { program := "ytjnhjhbhodhfgaa", sum := "5f3959d7f8e31ca95fb5001a387cbf47a389103b78cc9e6a30fe4583444d3bcb", func := "mutoscope/mutoscopelaw06.RectCuts", spec := "rectCuts", apart := false, narrowed := true }
def RectCutsUptoSaid : Prop := rectCutsUptoRow.holds Try.pinned (OpenSpec.upto rectCutsSpec)

/-- 'mutoscopelaw06.RectForms', WHERE WHAT IT READS IS OF BULK AT MOST 1048576: true; the input reads as it did. -/
def rectFormsUptoRow : OpenClaim := { program := "ytjnhjhbhodhfgaa", sum := "5f3959d7f8e31ca95fb5001a387cbf47a389103b78cc9e6a30fe4583444d3bcb", func := "mutoscope/mutoscopelaw06.RectForms", spec := "rectForms", apart := false, narrowed := true }
def RectFormsUptoSaid : Prop := rectFormsUptoRow.holds Try.pinned (OpenSpec.upto rectFormsSpec)

/-- 'mutoscopelaw06.RectGrows', WHERE WHAT IT READS IS OF BULK AT MOST 1048576: true; the input reads as it did. -/
def rectGrowsUptoRow : OpenClaim := { program := "ytjnhjhbhodhfgaa", sum := "5f3959d7f8e31ca95fb5001a387cbf47a389103b78cc9e6a30fe4583444d3bcb", func := "mutoscope/mutoscopelaw06.RectGrows", spec := "rectGrows", apart := false, narrowed := true }
def RectGrowsUptoSaid : Prop := rectGrowsUptoRow.holds Try.pinned (OpenSpec.upto rectGrowsSpec)

/-- 'mutoscopelaw06.RectTogether', WHERE WHAT IT READS IS OF BULK AT MOST 1048576: true; the input reads as it did. -/
def rectTogetherUptoRow : OpenClaim := { program := "ytjnhjhbhodhfgaa", sum := "5f3959d7f8e31ca95fb5001a387cbf47a389103b78cc9e6a30fe4583444d3bcb", func := "mutoscope/mutoscopelaw06.RectTogether", spec := "rectTogether", apart := false, narrowed := true }
def RectTogetherUptoSaid : Prop := rectTogetherUptoRow.holds Try.pinned (OpenSpec.upto rectTogetherSpec)

end Rows
end Go.Proofs.Ytjnhjhbhodhfgaa
