/-
  DERIVED. GIVEN WITH THE SEED: THE CARDS: each row of YtmogbmgambmaoaaDoorRows.lean that lists a variable, with what it lists TIED to the program's text (the seventh form; the later family's looks); each row that meets fmt, with fmt's text TOLD by the authors' own Lean function (tested against real Go, not proved from fmt's source: count such statements apart). THE CARD IS WHAT COUNTS. Prove the row's statement (the work); the ties are given (YtmogbmgambmaoaaDoorTie.lean); close each card by the builder's one call (the guide's Derived/Test/ToyasCard.lean, 'card_holds'). Laid BY PROGRAM, IN A SANDBOX (cutbox-door.mjs). By AI agents, Wed Nov 11 2026. No macro, syntax, notation, axiom, sorry.
-/
import Derived.Test.YtmogbmgambmaoaaDoorRows
import GoSem.ClaimSeven
namespace Go.Proofs.YtmogbmgambmaoaaDoor
namespace Rows

/-- THE TIED CARD OF 'mutoscopelaw01.CrcSums'. -/
def crcSumsCard : Claim7 := { stood := { row := crcSumsRow, standIns := [], harness := (true, "ea3505676f494fd680bb5f8036b0d033bc1559c0a20b997e5dd5f21f87fd72e9"), looks := false }, kinds := [], alts := [], laidByText := true, laidKinds := [.data], laidTests := true, laidLooks := .later }
def CrcSumsCardSaid : Prop := Claim7.holds Tryd.pinned (.plain (OpenSpec.ofChange crcSumsSpec)) crcSumsCard

/-- THE TIED CARD OF 'mutoscopelaw01.CrcNext'. -/
def crcNextCard : Claim7 := { stood := { row := crcNextRow, standIns := [], harness := (true, "ea3505676f494fd680bb5f8036b0d033bc1559c0a20b997e5dd5f21f87fd72e9"), looks := false }, kinds := [], alts := [], laidByText := true, laidKinds := [.data], laidTests := true, laidLooks := .later }
def CrcNextCardSaid : Prop := Claim7.holds Tryd.pinned (.plain (OpenSpec.ofChange crcNextSpec)) crcNextCard

/-- THE TIED CARD OF 'mutoscopelaw01.CrcBurst'. -/
def crcBurstCard : Claim7 := { stood := { row := crcBurstRow, standIns := [], harness := (true, "ea3505676f494fd680bb5f8036b0d033bc1559c0a20b997e5dd5f21f87fd72e9"), looks := false }, kinds := [], alts := [], laidByText := true, laidKinds := [.data], laidTests := true, laidLooks := .later }
def CrcBurstCardSaid : Prop := Claim7.holds Tryd.pinned (.plain (OpenSpec.ofChange crcBurstSpec)) crcBurstCard

/-- THE TIED CARD OF 'mutoscopelaw01.CrcLinear'. -/
def crcLinearCard : Claim7 := { stood := { row := crcLinearRow, standIns := [], harness := (true, "ea3505676f494fd680bb5f8036b0d033bc1559c0a20b997e5dd5f21f87fd72e9"), looks := false }, kinds := [], alts := [], laidByText := true, laidKinds := [.data], laidTests := true, laidLooks := .later }
def CrcLinearCardSaid : Prop := Claim7.holds Tryd.pinned (.plain (OpenSpec.ofChange crcLinearSpec)) crcLinearCard

/-- THE SECOND FORM's CARD OF 'mutoscopelaw01.CrcSums'. -/
def crcSumsUptoCard : Claim7 := { stood := { row := crcSumsUptoRow, standIns := [], harness := (true, "ea3505676f494fd680bb5f8036b0d033bc1559c0a20b997e5dd5f21f87fd72e9"), looks := false }, kinds := [], alts := [], laidByText := true, laidKinds := [.data], laidTests := true, laidLooks := .later }
def CrcSumsUptoCardSaid : Prop := Claim7.holds Tryd.pinned (.plain (OpenSpec.upto crcSumsSpec)) crcSumsUptoCard

/-- THE SECOND FORM's CARD OF 'mutoscopelaw01.CrcNext'. -/
def crcNextUptoCard : Claim7 := { stood := { row := crcNextUptoRow, standIns := [], harness := (true, "ea3505676f494fd680bb5f8036b0d033bc1559c0a20b997e5dd5f21f87fd72e9"), looks := false }, kinds := [], alts := [], laidByText := true, laidKinds := [.data], laidTests := true, laidLooks := .later }
def CrcNextUptoCardSaid : Prop := Claim7.holds Tryd.pinned (.plain (OpenSpec.upto crcNextSpec)) crcNextUptoCard

/-- THE SECOND FORM's CARD OF 'mutoscopelaw01.CrcBurst'. -/
def crcBurstUptoCard : Claim7 := { stood := { row := crcBurstUptoRow, standIns := [], harness := (true, "ea3505676f494fd680bb5f8036b0d033bc1559c0a20b997e5dd5f21f87fd72e9"), looks := false }, kinds := [], alts := [], laidByText := true, laidKinds := [.data], laidTests := true, laidLooks := .later }
def CrcBurstUptoCardSaid : Prop := Claim7.holds Tryd.pinned (.plain (OpenSpec.upto crcBurstSpec)) crcBurstUptoCard

/-- THE SECOND FORM's CARD OF 'mutoscopelaw01.CrcLinear'. -/
def crcLinearUptoCard : Claim7 := { stood := { row := crcLinearUptoRow, standIns := [], harness := (true, "ea3505676f494fd680bb5f8036b0d033bc1559c0a20b997e5dd5f21f87fd72e9"), looks := false }, kinds := [], alts := [], laidByText := true, laidKinds := [.data], laidTests := true, laidLooks := .later }
def CrcLinearUptoCardSaid : Prop := Claim7.holds Tryd.pinned (.plain (OpenSpec.upto crcLinearSpec)) crcLinearUptoCard
end Rows
end Go.Proofs.YtmogbmgambmaoaaDoor
