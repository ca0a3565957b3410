/-
  NARROWER THAN 'FOR EVERY INPUT', by the rows' own cells (each row's printed sentence says how): ImageChecks: laid · ImagePlays: laid · ImageSums: laid · ImageFills: laid.
  DERIVED. THE GIVEN ROWS OF THIS SEAT. 4 by the template 'for every input the law returns true; each argument reads behind the call as it read before'; 0 by the template 'total and deterministic' (their statements: YtboelbmpcbeifaaDoorTotals.lean).
  GIVEN WITH THE SEED: the statements are not yours to turn. If you find one false, say at which input.
  Laid BY PROGRAM, IN A SANDBOX (cutbox-rows.mjs): the forced cells as the released guide's own fill.sh prints them over the translation b9807d6291f1d5f5… (all of the seat's roots in one cut). By AI agents, Wed Nov 11 2026. No macro, syntax, notation, axiom, sorry.
-/
import Derived.Test.YtboelbmpcbeifaaDoorChecked
import GoSem.Claim
import GoSem.ClaimJoined
import GoSem.ClaimMapViews
import Derived.JoinedTies
import Derived.KernelRfl
namespace Go.Proofs.YtboelbmpcbeifaaDoor
/- THE CELL 'sum', in the pinned program and in every row, IS THE sha256 OF THE DUMP (.gsa) THAT YtboelbmpcbeifaaDoorProg.lean LOADS. Nothing in Lean hashes anything: it is a label: what it is worth is what the hold of that sum in a sandbox is worth. -/
noncomputable def Tryd.pinned : Pinned := { name := "ytboelbmpcbeifaadoor", sum := "b9807d6291f1d5f58b088884eab932b7856d9b1a8f16941e82c9a7ca13ab9e72", checked := Tryd.checked }
namespace Rows
def none {H : Type} : Left H := { results := [], args := [] }

/- WHAT THE LISTED PACKAGE-LEVEL VARIABLES READ AS WHEN THE CALL BEGINS. Each datum BY PROGRAM (the guide's laid-datum.mjs) off the statement by which the dump's own 'gosem.cut.vars' lays the variable. In a bare row this is a premise. The card (YtboelbmpcbeifaaDoorCards.lean) ties it to the program's text. -/
def laid_mutoscope_crc_table {H : Type} : DataW H := .agg [.agg [.lit (.int .u32 0), .lit (.int .u32 498536548), .lit (.int .u32 997073096), .lit (.int .u32 651767980), .lit (.int .u32 1994146192), .lit (.int .u32 1802195444), .lit (.int .u32 1303535960), .lit (.int .u32 1342533948), .lit (.int .u32 3988292384), .lit (.int .u32 4027552580), .lit (.int .u32 3604390888), .lit (.int .u32 3412177804), .lit (.int .u32 2607071920), .lit (.int .u32 2262029012), .lit (.int .u32 2685067896), .lit (.int .u32 3183342108)], .agg [.lit (.int .u32 0), .lit (.int .u32 1996959894), .lit (.int .u32 3993919788), .lit (.int .u32 2567524794), .lit (.int .u32 124634137), .lit (.int .u32 1886057615), .lit (.int .u32 3915621685), .lit (.int .u32 2657392035), .lit (.int .u32 249268274), .lit (.int .u32 2044508324), .lit (.int .u32 3772115230), .lit (.int .u32 2547177864), .lit (.int .u32 162941995), .lit (.int .u32 2125561021), .lit (.int .u32 3887607047), .lit (.int .u32 2428444049)], .agg [.lit (.int .u32 0), .lit (.int .u32 1254232657), .lit (.int .u32 2508465314), .lit (.int .u32 3745920755), .lit (.int .u32 4034481925), .lit (.int .u32 3132841300), .lit (.int .u32 1711106983), .lit (.int .u32 792689142), .lit (.int .u32 998479947), .lit (.int .u32 1900120602), .lit (.int .u32 2919742697), .lit (.int .u32 3838160568), .lit (.int .u32 3422213966), .lit (.int .u32 2167981343), .lit (.int .u32 1585378284), .lit (.int .u32 347922877)], .agg [.lit (.int .u32 0), .lit (.int .u32 421212481), .lit (.int .u32 842424962), .lit (.int .u32 724390851), .lit (.int .u32 1684849924), .lit (.int .u32 2105013317), .lit (.int .u32 1448781702), .lit (.int .u32 1329698503), .lit (.int .u32 3369699848), .lit (.int .u32 3519200073), .lit (.int .u32 4210026634), .lit (.int .u32 3824474571), .lit (.int .u32 2897563404), .lit (.int .u32 3048111693), .lit (.int .u32 2659397006), .lit (.int .u32 2274893007)], .agg [.lit (.int .u32 0), .lit (.int .u32 472294256), .lit (.int .u32 944588512), .lit (.int .u32 611050896), .lit (.int .u32 1889177024), .lit (.int .u32 1824272048), .lit (.int .u32 1222101792), .lit (.int .u32 1425107024), .lit (.int .u32 3778354048), .lit (.int .u32 4245928176), .lit (.int .u32 3648544096), .lit (.int .u32 3311336976), .lit (.int .u32 2444203584), .lit (.int .u32 2374579504), .lit (.int .u32 2850214048), .lit (.int .u32 3049550800)], .agg [.lit (.int .u32 0), .lit (.int .u32 29518391), .lit (.int .u32 59036782), .lit (.int .u32 38190681), .lit (.int .u32 118073564), .lit (.int .u32 114017003), .lit (.int .u32 76381362), .lit (.int .u32 89069189), .lit (.int .u32 236147128), .lit (.int .u32 265370511), .lit (.int .u32 228034006), .lit (.int .u32 206958561), .lit (.int .u32 152762724), .lit (.int .u32 148411219), .lit (.int .u32 178138378), .lit (.int .u32 190596925)], .agg [.lit (.int .u32 0), .lit (.int .u32 1343838111), .lit (.int .u32 2687676222), .lit (.int .u32 4029413537), .lit (.int .u32 2601801789), .lit (.int .u32 3406630818), .lit (.int .u32 992409347), .lit (.int .u32 1799331996), .lit (.int .u32 3982079547), .lit (.int .u32 3175145892), .lit (.int .u32 1298864389), .lit (.int .u32 494030490), .lit (.int .u32 1984818694), .lit (.int .u32 643086745), .lit (.int .u32 3598663992), .lit (.int .u32 2254837415)], .agg [.lit (.int .u32 0), .lit (.int .u32 3099354981), .lit (.int .u32 2852767883), .lit (.int .u32 313896942), .lit (.int .u32 2405603159), .lit (.int .u32 937357362), .lit (.int .u32 627793884), .lit (.int .u32 2648127673), .lit (.int .u32 3316918511), .lit (.int .u32 2097696650), .lit (.int .u32 1874714724), .lit (.int .u32 3607201537), .lit (.int .u32 1255587768), .lit (.int .u32 4067088605), .lit (.int .u32 3772741427), .lit (.int .u32 1482887254)]]

/-- 'mutoscopelaw10.ImageChecks': WHATEVER THE INPUT: true; the input reads as it did. -/
def imageChecksSpec : ChangeSpec := { name := "imageChecks", fn := fun _ => fun
  | [d1, d2, d3] => { results := [.lit (.bool true)], args := [d1, d2, d3] }
  | _ => none }
def imageChecksRow : OpenClaim := { program := "ytboelbmpcbeifaadoor", sum := "b9807d6291f1d5f58b088884eab932b7856d9b1a8f16941e82c9a7ca13ab9e72", func := "mutoscope/mutoscopelaw10.ImageChecks", spec := "imageChecks", unfollowed := true, recurses := true, named := ["mutoscope/crc.table"], apart := false, laid := [("mutoscope/crc.table", laid_mutoscope_crc_table)] }
def ImageChecksSaid : Prop := imageChecksRow.holds Tryd.pinned (OpenSpec.ofChange imageChecksSpec)

/-- ITS FALSE NEIGHBOUR: 'it returns false'. Refute it at one input. -/
def imageChecksWrong : ChangeSpec := { name := "imageChecks", fn := fun _ => fun
  | [d1, d2, d3] => { results := [.lit (.bool false)], args := [d1, d2, d3] }
  | _ => none }
def ImageChecksWrongFalsely : Prop := imageChecksRow.holds Tryd.pinned (OpenSpec.ofChange imageChecksWrong)

/-- 'mutoscopelaw10.ImagePlays': WHATEVER THE INPUT: true; the input reads as it did. -/
def imagePlaysSpec : ChangeSpec := { name := "imagePlays", fn := fun _ => fun
  | [d1, d2, d3] => { results := [.lit (.bool true)], args := [d1, d2, d3] }
  | _ => none }
def imagePlaysRow : OpenClaim := { program := "ytboelbmpcbeifaadoor", sum := "b9807d6291f1d5f58b088884eab932b7856d9b1a8f16941e82c9a7ca13ab9e72", func := "mutoscope/mutoscopelaw10.ImagePlays", spec := "imagePlays", unfollowed := true, recurses := true, named := ["mutoscope/crc.table"], apart := false, laid := [("mutoscope/crc.table", laid_mutoscope_crc_table)] }
def ImagePlaysSaid : Prop := imagePlaysRow.holds Tryd.pinned (OpenSpec.ofChange imagePlaysSpec)

/-- ITS FALSE NEIGHBOUR: 'it returns false'. Refute it at one input. -/
def imagePlaysWrong : ChangeSpec := { name := "imagePlays", fn := fun _ => fun
  | [d1, d2, d3] => { results := [.lit (.bool false)], args := [d1, d2, d3] }
  | _ => none }
def ImagePlaysWrongFalsely : Prop := imagePlaysRow.holds Tryd.pinned (OpenSpec.ofChange imagePlaysWrong)

/-- 'mutoscopelaw10.ImageSums': WHATEVER THE INPUT: true; the input reads as it did. -/
def imageSumsSpec : ChangeSpec := { name := "imageSums", fn := fun _ => fun
  | [d1, d2, d3] => { results := [.lit (.bool true)], args := [d1, d2, d3] }
  | _ => none }
def imageSumsRow : OpenClaim := { program := "ytboelbmpcbeifaadoor", sum := "b9807d6291f1d5f58b088884eab932b7856d9b1a8f16941e82c9a7ca13ab9e72", func := "mutoscope/mutoscopelaw10.ImageSums", spec := "imageSums", unfollowed := true, recurses := true, named := ["mutoscope/crc.table"], apart := false, laid := [("mutoscope/crc.table", laid_mutoscope_crc_table)] }
def ImageSumsSaid : Prop := imageSumsRow.holds Tryd.pinned (OpenSpec.ofChange imageSumsSpec)

/-- ITS FALSE NEIGHBOUR: 'it returns false'. Refute it at one input. -/
def imageSumsWrong : ChangeSpec := { name := "imageSums", fn := fun _ => fun
  | [d1, d2, d3] => { results := [.lit (.bool false)], args := [d1, d2, d3] }
  | _ => none }
def ImageSumsWrongFalsely : Prop := imageSumsRow.holds Tryd.pinned (OpenSpec.ofChange imageSumsWrong)

/-- 'mutoscopelaw10.ImageFills': WHATEVER THE INPUT: true; the input reads as it did. -/
def imageFillsSpec : ChangeSpec := { name := "imageFills", fn := fun _ => fun
  | [d1, d2, d3] => { results := [.lit (.bool true)], args := [d1, d2, d3] }
  | _ => none }
def imageFillsRow : OpenClaim := { program := "ytboelbmpcbeifaadoor", sum := "b9807d6291f1d5f58b088884eab932b7856d9b1a8f16941e82c9a7ca13ab9e72", func := "mutoscope/mutoscopelaw10.ImageFills", spec := "imageFills", unfollowed := true, recurses := true, named := ["mutoscope/crc.table"], apart := false, laid := [("mutoscope/crc.table", laid_mutoscope_crc_table)] }
def ImageFillsSaid : Prop := imageFillsRow.holds Tryd.pinned (OpenSpec.ofChange imageFillsSpec)

/-- ITS FALSE NEIGHBOUR: 'it returns false'. Refute it at one input. -/
def imageFillsWrong : ChangeSpec := { name := "imageFills", fn := fun _ => fun
  | [d1, d2, d3] => { results := [.lit (.bool false)], args := [d1, d2, d3] }
  | _ => none }
def ImageFillsWrongFalsely : Prop := imageFillsRow.holds Tryd.pinned (OpenSpec.ofChange imageFillsWrong)

/- THE SECOND FORM. 'bulk': how many values and letters a reading holds, each counted each time it is reached (what is shared counts as often as it is met; a slice's spare places count too). A statement '..UptoSaid' is the law's where the arguments, and the package variables that the reading takes, are together of bulk at most 1048576: NARROWER than '..Said'. Prove '..Said' where nothing that the law and all that it calls make is longer than what came in: it says more and counts as full. Else prove '..UptoSaid'. A law counts once. -/
mutual
def uptoBulk {H : Type} : DataW H → Nat
  | .lit (.string bytes) => bytes.length + 1
  | .lit _ => 1
  | .nil => 1
  | .ptr d => uptoBulk d + 1
  | .slice elems spare => uptoBulkAll elems + uptoBulkAll spare + 1
  | .agg parts => uptoBulkAll parts + 1
  | .iface _ d => uptoBulk d + 1
  | .map entries => uptoBulkEntries entries + 1
  | .held _ => 1
def uptoBulkAll {H : Type} : List (DataW H) → Nat
  | [] => 0
  | d :: r => uptoBulk d + uptoBulkAll r
def uptoBulkEntries {H : Type} : List (Lit × DataW H) → Nat
  | [] => 0
  | x :: r => uptoBulkEntry x + uptoBulkEntries r
def uptoBulkEntry {H : Type} : Lit × DataW H → Nat
  | (.string bytes, d) => bytes.length + uptoBulk d + 1
  | (_, d) => uptoBulk d + 1
 end
def uptoSmall : (H : Type) → List (DataW H) → Bool := fun _ ds => decide (uptoBulkAll ds ≤ 1048576)
def OpenSpec.upto (s : _root_.Go.ChangeSpec) : _root_.Go.OpenSpec := { _root_.Go.OpenSpec.ofChange s with cond := some uptoSmall }

/-- 'mutoscopelaw10.ImageChecks', WHERE WHAT IT READS IS OF BULK AT MOST 1048576: true; the input reads as it did. -/
def imageChecksUptoRow : OpenClaim := { program := "ytboelbmpcbeifaadoor", sum := "b9807d6291f1d5f58b088884eab932b7856d9b1a8f16941e82c9a7ca13ab9e72", func := "mutoscope/mutoscopelaw10.ImageChecks", spec := "imageChecks", unfollowed := true, recurses := true, named := ["mutoscope/crc.table"], apart := false, laid := [("mutoscope/crc.table", laid_mutoscope_crc_table)], narrowed := true }
def ImageChecksUptoSaid : Prop := imageChecksUptoRow.holds Tryd.pinned (OpenSpec.upto imageChecksSpec)

/-- 'mutoscopelaw10.ImagePlays', WHERE WHAT IT READS IS OF BULK AT MOST 1048576: true; the input reads as it did. -/
def imagePlaysUptoRow : OpenClaim := { program := "ytboelbmpcbeifaadoor", sum := "b9807d6291f1d5f58b088884eab932b7856d9b1a8f16941e82c9a7ca13ab9e72", func := "mutoscope/mutoscopelaw10.ImagePlays", spec := "imagePlays", unfollowed := true, recurses := true, named := ["mutoscope/crc.table"], apart := false, laid := [("mutoscope/crc.table", laid_mutoscope_crc_table)], narrowed := true }
def ImagePlaysUptoSaid : Prop := imagePlaysUptoRow.holds Tryd.pinned (OpenSpec.upto imagePlaysSpec)

/-- 'mutoscopelaw10.ImageSums', WHERE WHAT IT READS IS OF BULK AT MOST 1048576: true; the input reads as it did. -/
def imageSumsUptoRow : OpenClaim := { program := "ytboelbmpcbeifaadoor", sum := "b9807d6291f1d5f58b088884eab932b7856d9b1a8f16941e82c9a7ca13ab9e72", func := "mutoscope/mutoscopelaw10.ImageSums", spec := "imageSums", unfollowed := true, recurses := true, named := ["mutoscope/crc.table"], apart := false, laid := [("mutoscope/crc.table", laid_mutoscope_crc_table)], narrowed := true }
def ImageSumsUptoSaid : Prop := imageSumsUptoRow.holds Tryd.pinned (OpenSpec.upto imageSumsSpec)

/-- 'mutoscopelaw10.ImageFills', WHERE WHAT IT READS IS OF BULK AT MOST 1048576: true; the input reads as it did. -/
def imageFillsUptoRow : OpenClaim := { program := "ytboelbmpcbeifaadoor", sum := "b9807d6291f1d5f58b088884eab932b7856d9b1a8f16941e82c9a7ca13ab9e72", func := "mutoscope/mutoscopelaw10.ImageFills", spec := "imageFills", unfollowed := true, recurses := true, named := ["mutoscope/crc.table"], apart := false, laid := [("mutoscope/crc.table", laid_mutoscope_crc_table)], narrowed := true }
def ImageFillsUptoSaid : Prop := imageFillsUptoRow.holds Tryd.pinned (OpenSpec.upto imageFillsSpec)

end Rows
end Go.Proofs.YtboelbmpcbeifaaDoor
