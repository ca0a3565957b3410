/-
  The walk of the law DiskOf.
-/
import Derived.Test.YtpnhgongjfknbaaDiskPlaysW
import Derived.Test.YtpnhgongjfknbaaRfN
import Derived.Test.YtpnhgongjfknbaaDkOf
namespace Go.Proofs.Ytpnhgongjfknbaa
open Go.RowKit omap

set_option maxRecDepth 100000 in
set_option maxHeartbeats 1000000 in
/-- more files than the law asks about -/
theorem of_many (cap : Int) (A : Option Addr) (fl : List FIn) (c : Nat) (w : World) (hl : fl.length ≤ 9223372036854775807) (hm : 1100 < fl.length) :
    Calls Try.prog 4 #[.int .i64 cap, .slice A fl.length c] w fun e w' => e = .returned (.bool true) ∧ Below w.heap.size w w' := by
  have t1 : decide ((1100 : Int) < fl.length) = true := by simp; omega
  clear hm
  go_enter Try.func4, Try.ntmps4
  go_wp2_with (fail)
  refine (awake_any w).mono ?_
  rintro r w2 ⟨rfl, hb2⟩
  have HB2 := Lib.hid hb2
  clear hb2
  go_wp2_with (fail)
  go_ret
  exact ⟨rfl, HB2.out⟩
/-- what loop 1 keeps: the document's disk at its block -/
structure OfAt (w0 w : World) (xb : Nat) (cap : Int) (x : Rf) : Prop where
  blk : Blk w xb [.slice x.A x.d.fs.length x.c, .int .i64 cap, .int .i64 (x.d.p.left : Nat), .int .i64 (x.d.p.steps : Nat), .bool x.d.p.down]
  ok : x.ok w
  below : Below w0.heap.size w0 w
  new : w0.heap.size ≤ xb
  row : 0 < x.d.fs.length → ∀ a, x.A = some a → a.block ≠ xb
theorem OfAt.later {w0 w w' : World} {xb : Nat} {cap : Int} {x : Rf} (h : OfAt w0 w xb cap x) (hb : Below w.heap.size w w') : OfAt w0 w' xb cap x :=
  ⟨h.blk.stays (hb.block _ h.blk.inside), h.ok.below hb, h.below.trans (hb.mono h.below.size), h.new, h.row⟩
def stepG (B : Bool) (q : Int × Fs) (x : FIn) : Int × Fs :=
  if q.1 ≠ 0 then q else if nameB x.k = false then (25, q.2) else if (omap.look q.2 x.k).isSome = true then (15, q.2) else (0, if B = true then putF q.2 x else q.2)
def runG (B : Bool) (q : Int × Fs) (fl : List FIn) : Int × Fs := fl.foldl (stepG B) q
theorem runG_true (q : Int × Fs) (fl : List FIn) : runG true q fl = runF q fl := rfl
theorem runG_next (B : Bool) (q : Int × Fs) {fl : List FIn} {k : Nat} (h : k < fl.length) : runG B q (fl.take (k + 1)) = stepG B (runG B q (fl.take k)) fl[k] := by
  unfold runG
  rw [List.take_succ_eq_append_getElem h, List.foldl_append]
  rfl
theorem sumF_next {fl : List FIn} {k : Nat} (h : k < fl.length) : sumF (fl.take (k + 1)) = sumF (fl.take k) + fl[k].p.l.length := by
  unfold sumF
  rw [List.take_succ_eq_append_getElem h, List.map_append, List.sum_append]
  simp
theorem stepG_length (B : Bool) (q : Int × Fs) (x : FIn) : (stepG B q x).2.length ≤ q.2.length + 1 := by
  unfold stepG
  have := length_put_leF x.k ⟨x.p.l, x.p.l.length⟩ q.2
  by_cases h1 : q.1 ≠ 0
  · rw [if_pos h1]; omega
  · rw [if_neg h1]
    by_cases h2 : nameB x.k = false
    · rw [if_pos h2]; simp
    · rw [if_neg h2]
      by_cases h3 : (omap.look q.2 x.k).isSome = true
      · rw [if_pos h3]; simp
      · rw [if_neg h3]
        cases B with
        | true => simpa [putF] using this
        | false => simp
theorem runG_length (B : Bool) (fl : List FIn) (k : Nat) (h : k ≤ fl.length) : (runG B (0, []) (fl.take k)).2.length ≤ k := by
  induction k with
  | zero => simp [runG]
  | succ k ih =>
    rw [runG_next B _ h]
    have := stepG_length B (runG B (0, []) (fl.take k)) (fl[k]'h)
    have := ih (by omega)
    omega
theorem sumF_le {fl : List FIn} (k : Nat) (h : ∀ j (hj : j < fl.length), j < k → fl[j].p.l.length ≤ 500) (hk : k ≤ fl.length) : sumF (fl.take k) ≤ k * 500 := by
  induction k with
  | zero => simp [sumF]
  | succ k ih =>
    rw [sumF_next hk]
    have := ih (fun j hj hjk => h j hj (by omega)) (by omega)
    have := h k hk (by omega)
    omega
end Go.Proofs.Ytpnhgongjfknbaa
