/-
  A disk and the document's beside it: what is told, and how a disk and the document's stand.
-/
import Derived.Test.YtpnhgongjfknbaaRfI
import Derived.Test.YtpnhgongjfknbaaDkS
import Derived.StillTailTactics
namespace Go.Proofs.Ytpnhgongjfknbaa
open Go.RowKit omap

/-- what lets commands be told to a disk -/
structure Fine (d : Dk) : Prop where
  few : d.fs.length < 900000
  cap : d.cap ≤ 67108864
  steps : d.p.steps ≤ 4611686018427387904
  left : d.p.left ≤ 9223372036854775807
  names : ∀ y ∈ d.fs, y.1.length ≤ 1000
theorem PlayAt.files {w : World} {pb b : Nat} {S : List Nat} {x : Rf} (h : PlayAt w pb b S x) : ∀ y ∈ x.d.fs, AreBytes y.2.l ∧ y.2.l.length ≤ 67108864 ∧ y.2.s ≤ y.2.l.length := fun y hy => by
  have hroom := h.disk.room
  have hfew := h.disk.few
  have hr := h.disk.rises
  have hk := Rises.look_of_mem ord hr hy
  have htot := tot_del hr hk
  obtain ⟨m, es, rfl, hraw, hE⟩ := h.disk.at_
  rw [← hE, er_look] at hk
  obtain ⟨e, hke, hef⟩ := Option.map_eq_some_iff.1 hk
  have hf := hraw.file hke
  rw [← hef] at htot ⊢
  exact ⟨hf.bytes, by omega, hf.s_le⟩
/-- how a command is told: a disk is held by the call, what is told lies elsewhere -/
structure Told (w : World) (S : List Nat) (o : Cm) : Prop where
  ok : o.ok w
  small : smallC o = true
  data : Apart S o.data.a o.data.l.length
  more : Apart S o.more.a o.more.l.length
  chs : Apart S o.cA o.cs.length
theorem Turn.cons {S S' : List Nat} {w w' : World} (h : Turn S S' w w') (p : Nat) : Turn (p :: S) (p :: S') w w' :=
  ⟨h.os, h.tape, h.output, h.size, fun k hk hn => by
    have hf := h.far k hk (fun m => hn (List.mem_cons_of_mem _ m))
    exact ⟨fun m => (List.mem_cons.1 m).elim (fun e => hn (e ▸ List.mem_cons_self)) hf.1, hf.2⟩⟩
theorem doS_1 (k j : Nm) (l : List Nat) (d : Dk) : doS 1 k j l d = cmdS (createS k) idS d := by unfold doS leaveS opS; simp only [if_true, show ¬ (1 : Int) = 2 by omega, if_false]
theorem doS_2 (k j : Nm) (l : List Nat) (d : Dk) : doS 2 k j l d = cmdS (writeS d.cap k l) (writeS d.cap k l) d := by unfold doS leaveS opS; simp only [if_true, show ¬ (2 : Int) = 1 by omega, if_false]
theorem doS_3 (k j : Nm) (l : List Nat) (d : Dk) : doS 3 k j l d = cmdS (syncS k) idS d := by unfold doS leaveS opS; simp only [if_true, show ¬ (3 : Int) = 1 by omega, show ¬ (3 : Int) = 2 by omega, if_false]
theorem doS_4 (k j : Nm) (l : List Nat) (d : Dk) : doS 4 k j l d = cmdS (removeS k) idS d := by unfold doS leaveS opS; simp only [if_true, show ¬ (4 : Int) = 1 by omega, show ¬ (4 : Int) = 2 by omega, show ¬ (4 : Int) = 3 by omega, if_false]
theorem doS_5 (k j : Nm) (l : List Nat) (d : Dk) : doS 5 k j l d = cmdS (renameS k j) idS d := by unfold doS leaveS opS; simp only [show ¬ (5 : Int) = 1 by omega, show ¬ (5 : Int) = 2 by omega, show ¬ (5 : Int) = 3 by omega, show ¬ (5 : Int) = 4 by omega, if_false]
end Go.Proofs.Ytpnhgongjfknbaa
