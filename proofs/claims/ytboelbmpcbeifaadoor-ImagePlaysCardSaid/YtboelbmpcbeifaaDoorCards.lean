/-
  DERIVED. GIVEN WITH THE SEED: THE CARDS: each row of YtboelbmpcbeifaaDoorRows.lean that lists a variable, with what it lists TIED to the program's text (the seventh form; the later family's looks); each row that meets fmt, with fmt's text TOLD by the authors' own Lean function (tested against real Go, not proved from fmt's source: count such statements apart). THE CARD IS WHAT COUNTS. Prove the row's statement (the work); the ties are given (YtboelbmpcbeifaaDoorTie.lean); close each card by the builder's one call (the guide's Derived/Test/ToyasCard.lean, 'card_holds'). Laid BY PROGRAM, IN A SANDBOX (cutbox-door.mjs). By AI agents, Wed Nov 11 2026. No macro, syntax, notation, axiom, sorry.
-/
import Derived.Test.YtboelbmpcbeifaaDoorRows
import GoSem.ClaimSeven
namespace Go.Proofs.YtboelbmpcbeifaaDoor
namespace Rows

/-- THE TIED CARD OF 'mutoscopelaw10.ImageChecks'. -/
def imageChecksCard : Claim7 := { stood := { row := imageChecksRow, standIns := [], harness := (true, "0c6c46536e315b377ee7ff593a0497e78c5b325d5f23d52dc718453766fd011e"), looks := false }, kinds := [], alts := [], laidByText := true, laidKinds := [.data], laidTests := true, laidLooks := .later }
def ImageChecksCardSaid : Prop := Claim7.holds Tryd.pinned (.plain (OpenSpec.ofChange imageChecksSpec)) imageChecksCard

/-- THE TIED CARD OF 'mutoscopelaw10.ImagePlays'. -/
def imagePlaysCard : Claim7 := { stood := { row := imagePlaysRow, standIns := [], harness := (true, "0c6c46536e315b377ee7ff593a0497e78c5b325d5f23d52dc718453766fd011e"), looks := false }, kinds := [], alts := [], laidByText := true, laidKinds := [.data], laidTests := true, laidLooks := .later }
def ImagePlaysCardSaid : Prop := Claim7.holds Tryd.pinned (.plain (OpenSpec.ofChange imagePlaysSpec)) imagePlaysCard

/-- THE TIED CARD OF 'mutoscopelaw10.ImageSums'. -/
def imageSumsCard : Claim7 := { stood := { row := imageSumsRow, standIns := [], harness := (true, "0c6c46536e315b377ee7ff593a0497e78c5b325d5f23d52dc718453766fd011e"), looks := false }, kinds := [], alts := [], laidByText := true, laidKinds := [.data], laidTests := true, laidLooks := .later }
def ImageSumsCardSaid : Prop := Claim7.holds Tryd.pinned (.plain (OpenSpec.ofChange imageSumsSpec)) imageSumsCard

/-- THE TIED CARD OF 'mutoscopelaw10.ImageFills'. -/
def imageFillsCard : Claim7 := { stood := { row := imageFillsRow, standIns := [], harness := (true, "0c6c46536e315b377ee7ff593a0497e78c5b325d5f23d52dc718453766fd011e"), looks := false }, kinds := [], alts := [], laidByText := true, laidKinds := [.data], laidTests := true, laidLooks := .later }
def ImageFillsCardSaid : Prop := Claim7.holds Tryd.pinned (.plain (OpenSpec.ofChange imageFillsSpec)) imageFillsCard

/-- THE SECOND FORM's CARD OF 'mutoscopelaw10.ImageChecks'. -/
def imageChecksUptoCard : Claim7 := { stood := { row := imageChecksUptoRow, standIns := [], harness := (true, "0c6c46536e315b377ee7ff593a0497e78c5b325d5f23d52dc718453766fd011e"), looks := false }, kinds := [], alts := [], laidByText := true, laidKinds := [.data], laidTests := true, laidLooks := .later }
def ImageChecksUptoCardSaid : Prop := Claim7.holds Tryd.pinned (.plain (OpenSpec.upto imageChecksSpec)) imageChecksUptoCard

/-- THE SECOND FORM's CARD OF 'mutoscopelaw10.ImagePlays'. -/
def imagePlaysUptoCard : Claim7 := { stood := { row := imagePlaysUptoRow, standIns := [], harness := (true, "0c6c46536e315b377ee7ff593a0497e78c5b325d5f23d52dc718453766fd011e"), looks := false }, kinds := [], alts := [], laidByText := true, laidKinds := [.data], laidTests := true, laidLooks := .later }
def ImagePlaysUptoCardSaid : Prop := Claim7.holds Tryd.pinned (.plain (OpenSpec.upto imagePlaysSpec)) imagePlaysUptoCard

/-- THE SECOND FORM's CARD OF 'mutoscopelaw10.ImageSums'. -/
def imageSumsUptoCard : Claim7 := { stood := { row := imageSumsUptoRow, standIns := [], harness := (true, "0c6c46536e315b377ee7ff593a0497e78c5b325d5f23d52dc718453766fd011e"), looks := false }, kinds := [], alts := [], laidByText := true, laidKinds := [.data], laidTests := true, laidLooks := .later }
def ImageSumsUptoCardSaid : Prop := Claim7.holds Tryd.pinned (.plain (OpenSpec.upto imageSumsSpec)) imageSumsUptoCard

/-- THE SECOND FORM's CARD OF 'mutoscopelaw10.ImageFills'. -/
def imageFillsUptoCard : Claim7 := { stood := { row := imageFillsUptoRow, standIns := [], harness := (true, "0c6c46536e315b377ee7ff593a0497e78c5b325d5f23d52dc718453766fd011e"), looks := false }, kinds := [], alts := [], laidByText := true, laidKinds := [.data], laidTests := true, laidLooks := .later }
def ImageFillsUptoCardSaid : Prop := Claim7.holds Tryd.pinned (.plain (OpenSpec.upto imageFillsSpec)) imageFillsUptoCard
end Rows
end Go.Proofs.YtboelbmpcbeifaaDoor
