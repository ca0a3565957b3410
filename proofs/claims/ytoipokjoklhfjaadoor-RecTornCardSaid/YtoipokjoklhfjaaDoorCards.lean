/-
  DERIVED. GIVEN WITH THE SEED: THE CARDS: each row of YtoipokjoklhfjaaDoorRows.lean that lists a variable, with what it lists TIED to the program's text (the seventh form; the later family's looks); each row that meets fmt, with fmt's text TOLD by the authors' own Lean function (tested against real Go, not proved from fmt's source: count such statements apart). THE CARD IS WHAT COUNTS. Prove the row's statement (the work); the ties are given (YtoipokjoklhfjaaDoorTie.lean); close each card by the builder's one call (the guide's Derived/Test/ToyasCard.lean, 'card_holds'). Laid BY PROGRAM, IN A SANDBOX (cutbox-door.mjs). By AI agents, Wed Nov 11 2026. No macro, syntax, notation, axiom, sorry.
-/
import Derived.Test.YtoipokjoklhfjaaDoorRows
import GoSem.ClaimSeven
namespace Go.Proofs.YtoipokjoklhfjaaDoor
namespace Rows

/-- THE TIED CARD OF 'mutoscopelaw04.RecBytes'. -/
def recBytesCard : Claim7 := { stood := { row := recBytesRow, standIns := [], harness := (true, "278d2f25456fe42bb4334746e8594484070ede49d0daec718164cf8286eb12b8"), looks := false }, kinds := [], alts := [], laidByText := true, laidKinds := [.data], laidTests := true, laidLooks := .later }
def RecBytesCardSaid : Prop := Claim7.holds Tryd.pinned (.plain (OpenSpec.ofChange recBytesSpec)) recBytesCard

/-- THE TIED CARD OF 'mutoscopelaw04.RecNext'. -/
def recNextCard : Claim7 := { stood := { row := recNextRow, standIns := [], harness := (true, "278d2f25456fe42bb4334746e8594484070ede49d0daec718164cf8286eb12b8"), looks := false }, kinds := [], alts := [], laidByText := true, laidKinds := [.data], laidTests := true, laidLooks := .later }
def RecNextCardSaid : Prop := Claim7.holds Tryd.pinned (.plain (OpenSpec.ofChange recNextSpec)) recNextCard

/-- THE TIED CARD OF 'mutoscopelaw04.RecAll'. -/
def recAllCard : Claim7 := { stood := { row := recAllRow, standIns := [], harness := (true, "278d2f25456fe42bb4334746e8594484070ede49d0daec718164cf8286eb12b8"), looks := false }, kinds := [], alts := [], laidByText := true, laidKinds := [.data], laidTests := true, laidLooks := .later }
def RecAllCardSaid : Prop := Claim7.holds Tryd.pinned (.plain (OpenSpec.ofChange recAllSpec)) recAllCard

/-- THE TIED CARD OF 'mutoscopelaw04.RecTorn'. -/
def recTornCard : Claim7 := { stood := { row := recTornRow, standIns := [], harness := (true, "278d2f25456fe42bb4334746e8594484070ede49d0daec718164cf8286eb12b8"), looks := false }, kinds := [], alts := [], laidByText := true, laidKinds := [.data], laidTests := true, laidLooks := .later }
def RecTornCardSaid : Prop := Claim7.holds Tryd.pinned (.plain (OpenSpec.ofChange recTornSpec)) recTornCard

/-- THE TIED CARD OF 'mutoscopelaw04.RecSizes'. -/
def recSizesCard : Claim7 := { stood := { row := recSizesRow, standIns := [], harness := (true, "278d2f25456fe42bb4334746e8594484070ede49d0daec718164cf8286eb12b8"), looks := false }, kinds := [], alts := [], laidByText := true, laidKinds := [.data], laidTests := true, laidLooks := .later }
def RecSizesCardSaid : Prop := Claim7.holds Tryd.pinned (.plain (OpenSpec.ofChange recSizesSpec)) recSizesCard

/-- THE SECOND FORM's CARD OF 'mutoscopelaw04.RecBytes'. -/
def recBytesUptoCard : Claim7 := { stood := { row := recBytesUptoRow, standIns := [], harness := (true, "278d2f25456fe42bb4334746e8594484070ede49d0daec718164cf8286eb12b8"), looks := false }, kinds := [], alts := [], laidByText := true, laidKinds := [.data], laidTests := true, laidLooks := .later }
def RecBytesUptoCardSaid : Prop := Claim7.holds Tryd.pinned (.plain (OpenSpec.upto recBytesSpec)) recBytesUptoCard

/-- THE SECOND FORM's CARD OF 'mutoscopelaw04.RecNext'. -/
def recNextUptoCard : Claim7 := { stood := { row := recNextUptoRow, standIns := [], harness := (true, "278d2f25456fe42bb4334746e8594484070ede49d0daec718164cf8286eb12b8"), looks := false }, kinds := [], alts := [], laidByText := true, laidKinds := [.data], laidTests := true, laidLooks := .later }
def RecNextUptoCardSaid : Prop := Claim7.holds Tryd.pinned (.plain (OpenSpec.upto recNextSpec)) recNextUptoCard

/-- THE SECOND FORM's CARD OF 'mutoscopelaw04.RecAll'. -/
def recAllUptoCard : Claim7 := { stood := { row := recAllUptoRow, standIns := [], harness := (true, "278d2f25456fe42bb4334746e8594484070ede49d0daec718164cf8286eb12b8"), looks := false }, kinds := [], alts := [], laidByText := true, laidKinds := [.data], laidTests := true, laidLooks := .later }
def RecAllUptoCardSaid : Prop := Claim7.holds Tryd.pinned (.plain (OpenSpec.upto recAllSpec)) recAllUptoCard

/-- THE SECOND FORM's CARD OF 'mutoscopelaw04.RecTorn'. -/
def recTornUptoCard : Claim7 := { stood := { row := recTornUptoRow, standIns := [], harness := (true, "278d2f25456fe42bb4334746e8594484070ede49d0daec718164cf8286eb12b8"), looks := false }, kinds := [], alts := [], laidByText := true, laidKinds := [.data], laidTests := true, laidLooks := .later }
def RecTornUptoCardSaid : Prop := Claim7.holds Tryd.pinned (.plain (OpenSpec.upto recTornSpec)) recTornUptoCard

/-- THE SECOND FORM's CARD OF 'mutoscopelaw04.RecSizes'. -/
def recSizesUptoCard : Claim7 := { stood := { row := recSizesUptoRow, standIns := [], harness := (true, "278d2f25456fe42bb4334746e8594484070ede49d0daec718164cf8286eb12b8"), looks := false }, kinds := [], alts := [], laidByText := true, laidKinds := [.data], laidTests := true, laidLooks := .later }
def RecSizesUptoCardSaid : Prop := Claim7.holds Tryd.pinned (.plain (OpenSpec.upto recSizesSpec)) recSizesUptoCard
end Rows
end Go.Proofs.YtoipokjoklhfjaaDoor
