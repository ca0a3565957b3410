/-
  Nodes, as the document has them.
-/
import Derived.Test.YtehmblcbccceaaaScD
import Derived.Deep.Grids
import Derived.Deep.DeepCutAuto
import Derived.Deep.CutBlock
import Derived.Test.YtehmblcbccceaaaScC

set_option maxRecDepth 100000
namespace Go.Proofs.Ytehmblcbccceaaa
open Go.RowKit pxm imm

theorem info_u32 : (Try.prog.info? 32).map (fun i => (i.zero, i.size, i.bytes)) = some (some (.int .u32 0), 1, 4) := by kernel_rfl
abbrev WOwn (w : World) (base : Nat) (v : Value) (l : List Nat) : Prop := SOwn 32 1 eWs w base v l
def RefQ (m : Mp) (op : Int) (hi cl : Bool) (r : Bx) (k W H : Int) (p : Nat) (iw ih : Int) (l : List Nat) (w : World) (e : Ending) (w' : World) : Prop := ∃ A9 cap, e = .returned (ndV m op hi cl r k W H p iw ih A9 l.length cap) ∧ Row eW w' A9 l ∧ l.length ≤ cap ∧ cap ≤ maxLen ∧ Below w.heap.size w w'
end Go.Proofs.Ytehmblcbccceaaa

namespace Go.Proofs.Ytehmblcbccceaaa
open Go.RowKit pxm imm

def frV (z : Nat) : Value := .agg #[.int .i64 ((frm z).r : Nat), .int .i64 ((frm z).g : Nat), .int .i64 ((frm z).b : Nat), .int .i64 ((frm z).a : Nat)]
theorem chk_11 {W H : Int} {l : List Nat} (h : ¬ (1 ≤ W ∧ 1 ≤ H ∧ W ≤ 4096 ∧ H ≤ 4096)) : chk W H l = 11 := by
  unfold chk
  rw [if_neg (fun h2 => h (sidesB_iff.1 h2))]
theorem chk_10 {W H : Int} {l : List Nat} (h : 1 ≤ W ∧ 1 ≤ H ∧ W ≤ 4096 ∧ H ≤ 4096) (hn : ¬ (l.length : Int) = W * H) : chk W H l = 10 := by
  unfold chk
  rw [if_pos (sidesB_iff.2 h), if_neg (fun h2 => hn (whole_iff.1 h2).2)]
theorem chk_in {W H : Int} {l : List Nat} (h : 1 ≤ W ∧ 1 ≤ H ∧ W ≤ 4096 ∧ H ≤ 4096) (hn : (l.length : Int) = W * H) : chk W H l = if l.all rb = true then 0 else 10 := by
  unfold chk
  rw [if_pos (sidesB_iff.2 h), if_pos (whole_iff.2 ⟨sidesB_iff.2 h, hn⟩)]
end Go.Proofs.Ytehmblcbccceaaa

namespace Go.Proofs.Ytehmblcbccceaaa
open Go.RowKit pxm imm

def noneB (iw ih : Int) (l : List Nat) : Bool := (iw == 0) && ((ih == 0) && (((l.length : Nat) : Int) == 0))
theorem noneB_eq (iw ih : Int) (l : List Nat) : hasI iw ih l = !noneB iw ih l := by
  unfold hasI eqB noneB
  rw [Bool.eq_iff_iff]
  simp
def bareB (W H : Int) (p : Nat) : Bool := (W == 0) && ((H == 0) && ((p : Int) == 0))
theorem bareB_eq (W H : Int) (p : Nat) : hasF W H p = !bareB W H p := by
  unfold hasF bareB
  rw [Bool.eq_iff_iff]
  simp
  try omega
end Go.Proofs.Ytehmblcbccceaaa

namespace Go.Proofs.Ytehmblcbccceaaa
open Go.RowKit pxm imm

def dszW (k W iw : Int) : Int := if k = 2 then iw else W
def dAt (k W H : Int) (p : Nat) (iw ih : Int) (l : List Nat) (x y : Int) : Nat := if inB (dszW k W iw) (dszW k H ih) x y = true then (if k = 2 then l.getD (y * iw + x).toNat 0 else p) else 0
end Go.Proofs.Ytehmblcbccceaaa

namespace Go.Proofs.Ytehmblcbccceaaa
open Go.RowKit pxm imm

def okc (x : Int) : Bool := decide (-16384 ≤ x ∧ x ≤ 16384)
def Bx.l (r : Bx) : List Int := [r.a, r.b, r.c, r.d]
theorem clB_all (r : Bx) : clB r = r.l.all okc := by
  unfold clB Bx.l okc
  rw [Bool.eq_iff_iff]
  simp only [List.all_cons, List.all_nil, Bool.and_eq_true, decide_eq_true_eq, Bool.and_true]
  omega
end Go.Proofs.Ytehmblcbccceaaa
