/-
  Short words for a region's steps: what an operand holds.
-/
import Derived.Test.YtpnhgongjfknbaaRegv
namespace Go.Proofs.Ytpnhgongjfknbaa
open Go.RowKit

section
variable {R : World → World → Prop} {J : (Nat → Bool) → World → Prop} {l : List Oper} {a0 a : Act} {w0 w : World} {F : Nat → Value → World → Prop} {i : Nat} {o : Oper} {L : Nat → Bool}
theorem regs.Hand.v (hh : regs.Hand R J l a0 w0 F i o L a w) (k : Nat) (d : Tmp) {v0 : Value} (hF : F k = (regs.Say.val R v0).p) (h1 : regs.waits o k = true) (h2 : regs.slotOf l k = some d) : a.tmps[d]?.getD undef = v0 := by
  have h := hh.dep k d h1 h2
  rw [hF, Array.getD_eq_getD_getElem?] at h
  exact h
theorem regs.Hand.kp (hh : regs.Hand R J l a0 w0 F i o L a w) (s : Tmp) {v0 : Value} (h : regs.kept l s = true) (h0 : a0.tmps.getD s undef = v0) : a.tmps[s]?.getD undef = v0 := by
  rw [← Array.getD_eq_getD_getElem?]
  exact (hh.old s h).trans h0
end
section
variable {R : World → World → Prop} {J : (Nat → Bool) → (Tmp → Value) → World → Prop} {l : List Oper} {a0 a : Act} {w0 w : World} {F : Nat → Value → World → Prop} {i : Nat} {o : Oper} {L : Nat → Bool}
theorem regv.Hand.v (hh : regv.Hand R J l a0 w0 F i o L a w) (k : Nat) (d : Tmp) {v0 : Value} (hF : F k = (regs.Say.val R v0).p) (h1 : regs.waits o k = true) (h2 : regs.slotOf l k = some d) : a.tmps[d]?.getD undef = v0 := by
  have h := hh.dep k d h1 h2
  rw [hF, Array.getD_eq_getD_getElem?] at h
  exact h
theorem regv.Hand.kp (hh : regv.Hand R J l a0 w0 F i o L a w) (s : Tmp) {v0 : Value} (h : regs.kept l s = true) (h0 : a0.tmps.getD s undef = v0) : a.tmps[s]?.getD undef = v0 := by
  rw [← Array.getD_eq_getD_getElem?]
  exact (hh.old s h).trans h0
end
end Go.Proofs.Ytpnhgongjfknbaa
