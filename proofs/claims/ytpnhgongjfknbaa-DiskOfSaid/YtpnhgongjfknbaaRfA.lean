/-
  The document's own disk: a row of files as values; names, places, how much is used.
-/
import Derived.Test.YtpnhgongjfknbaaDkS
namespace Go.Proofs.Ytpnhgongjfknbaa
open Go.RowKit omap

/-- one file's cells -/
def fcells (x : Nm × Fl) : List Value := [.string ⟨x.1.toArray⟩, .string (strOf x.2.l), .int .i64 (x.2.s : Nat)]
/-- files in memory, one behind the other -/
def RfRow (w : World) (A : Option Addr) (fs : Fs) : Prop :=
  0 < fs.length → ∃ b off, A = some ⟨b, off, none⟩ ∧ ∀ j (h : j < fs.length), w.cell? ⟨b, off + j * 3, none⟩ = some (.string ⟨fs[j].1.toArray⟩) ∧ w.cell? ⟨b, off + j * 3 + 1, none⟩ = some (.string (strOf fs[j].2.l)) ∧ w.cell? ⟨b, off + j * 3 + 2, none⟩ = some (.int .i64 (fs[j].2.s : Nat))
theorem RfRow.below {w w' : World} {A : Option Addr} {fs : Fs} (h : RfRow w A fs) (hb : Below w.heap.size w w') : RfRow w' A fs := fun hn => by
  obtain ⟨b, off, e, hc⟩ := h hn
  refine ⟨b, off, e, fun j hj => ?_⟩
  obtain ⟨h0, h1, h2⟩ := hc j hj
  have hl := World.block_lt_of_cell? w _ h0
  have hs := hb.block b hl
  exact ⟨(World.cell?_of_block (a := ⟨b, off + j * 3, none⟩) hs).trans h0, (World.cell?_of_block (a := ⟨b, off + j * 3 + 1, none⟩) hs).trans h1, (World.cell?_of_block (a := ⟨b, off + j * 3 + 2, none⟩) hs).trans h2⟩
/-- the document's disk as a value; armed is what is left -/
structure Rf where
  A : Option Addr
  c : Nat
  d : Dk
def Rf.v (x : Rf) : Value := .agg #[.slice x.A x.d.fs.length x.c, .int .i64 (x.d.cap : Nat), .int .i64 (x.d.p.left : Nat), .int .i64 (x.d.p.steps : Nat), .bool x.d.p.down]
structure Rf.ok (w : World) (x : Rf) : Prop where
  row : RfRow w x.A x.d.fs
  room : x.d.fs.length ≤ x.c
  few : x.d.fs.length ≤ 1000000
theorem Rf.ok.below {w w' : World} {x : Rf} (h : x.ok w) (hb : Below w.heap.size w w') : x.ok w' := ⟨h.row.below hb, h.room, h.few⟩

/-! ### Texts held against each other -/
theorem str_eq (a b : ByteArray) : (a.toList == b.toList) = decide (a.data.toList = b.data.toList) := by
  rw [ByteArray.toList_eq, ByteArray.toList_eq]
  exact Bool.eq_iff_iff.2 (by simp)
theorem bytesLess_eq : ∀ a b : List UInt8, Op.bytesLess a b = bytesBefore a b
  | [], [] => rfl
  | [], _ :: _ => rfl
  | _ :: _, [] => rfl
  | x :: a, y :: b => by
    unfold Op.bytesLess bytesBefore
    rw [bytesLess_eq a b]

def zi' (z : UInt8) : Int := (z.toNat : Int)
/-! ### Name -/
set_option maxRecDepth 100000 in
set_option maxHeartbeats 4000000 in
theorem rname_any (s : ByteArray) (w : World) (hs : s.size ≤ 1000000) : Calls Try.prog 13 #[.string s] w fun e w' => e = .returned (.bool (nameB s.data.toList)) ∧ w = w' := by
  have hsz : s.data.toList.length = s.size := by rw [Array.length_toList]; rfl
  by_cases hok : 1 ≤ s.size ∧ s.size ≤ 64
  · have he : nameB s.data.toList = restB s 0 := by
      unfold nameB restB
      rw [hsz]
      simp [hok.1, hok.2]
    have t1 : decide ((s.size : Int) < 1) = false := by simp; omega
    have t2 : decide ((64 : Int) < (s.size : Int)) = false := by simp; omega
    obtain ⟨ok1, ok2⟩ := hok
    rw [he]
    have hsb : (s.size : Int) ≤ 64 := by omega
    clear he hsz hs ok1
    go_enter Try.func13, Try.ntmps13
    go_wp2_with (fail)
    go_loopw [3] (fun i w' => ∃ k : Nat, k ≤ s.size ∧ i = .int .i64 k ∧ w' = w ∧ Hid (restB s 0 = restB s k)) (fun i _ => s.size - (intOf i).toNat)
    case atStart => exact ⟨0, Nat.zero_le _, rfl, rfl, rfl⟩
    case round =>
      obtain ⟨k, hk, rfl, rfl, hc⟩ := hrel
      by_cases hlt : k < s.size
      · have hst := restB_step hlt
        have HST := Lib.hid hst
        obtain ⟨z, hz⟩ : ∃ z, z = s[k] := ⟨_, rfl⟩
        have HZ : Hid (nameC s[k] = nameC z) := by show _ = _; rw [hz]
        have hzi : ((s[k]'hlt).toNat : Int) = (z.toNat : Int) := by rw [hz]
        have hzb : (z.toNat : Int) ≤ 255 := by have := z.toNat_lt; omega
        clear hst hz
        cases hn : nameC z with
        | true =>
          have hT : (97 ≤ (z.toNat : Int) ∧ (z.toNat : Int) ≤ 122) ∨ (48 ≤ (z.toNat : Int) ∧ (z.toNat : Int) ≤ 57) ∨ (z.toNat : Int) = 46 ∨ (z.toNat : Int) = 45 ∨ (z.toNat : Int) = 95 := by
            rw [← runeB_byte] at hn
            simpa only [runeB, Bool.or_eq_true, Bool.and_eq_true, decide_eq_true_eq, beq_iff_eq, or_assoc] using hn
          have HR : Hid (restB s 0 = restB s (k + 1)) := hc.out.trans (by rw [HST.out, HZ.out, hn, Bool.true_and])
          clear hn
          obtain ⟨zi, hzi2⟩ : ∃ zi : Int, zi = (z.toNat : Int) := ⟨_, rfl⟩
          rw [← hzi2] at hzi hzb hT
          clear hzi2
          rcases hT with ⟨h1, h2⟩ | ⟨h1, h2⟩ | rfl | rfl | rfl
          all_goals go_wp2_with (fail)
          all_goals go_roundw
          all_goals first
            | exact ⟨k + 1, by omega, by go_num, trivial, HR.out⟩
            | (simp [intOf]; omega)
        | false =>
          have hF : (zi' z ≤ 44 ∨ zi' z = 47 ∨ (58 ≤ zi' z ∧ zi' z ≤ 94) ∨ zi' z = 96 ∨ 123 ≤ zi' z) := by
            rw [← runeB_byte, Bool.eq_false_iff] at hn
            simp only [runeB, ne_eq, Bool.or_eq_true, Bool.and_eq_true, decide_eq_true_eq, beq_iff_eq] at hn
            unfold zi'
            omega
          have HR : Hid (restB s 0 = false) := hc.out.trans (by rw [HST.out, HZ.out, hn, Bool.false_and])
          clear hn
          obtain ⟨zi, hzi2⟩ : ∃ zi : Int, zi = zi' z := ⟨_, rfl⟩
          have hzi3 : (z.toNat : Int) = zi := hzi2.symm
          have h0 : 0 ≤ zi := by omega
          rw [hzi3] at hzi hzb
          rw [← hzi2] at hF
          clear hzi2 hzi3
          rcases hF with h1 | rfl | ⟨h1, h2⟩ | rfl | h1
          all_goals go_wp2_with (fail)
          all_goals first
            | (go_ret
               rw [HR.out]
               exact ⟨rfl, rfl⟩)
            | (exfalso
               rename_i h
               simp at h
               omega)
      · have hk' : k = s.size := by omega
        subst hk'
        have HE : Hid (restB s 0 = true) := hc.out.trans (restB_end (by omega))
        clear hlt hk
        go_wp2_with (fail)
        go_ret
        rw [HE.out]
        exact ⟨rfl, rfl⟩
  · have he : nameB s.data.toList = false := by
      unfold nameB
      rw [hsz, Bool.eq_false_iff]
      simp only [ne_eq, Bool.and_eq_true, decide_eq_true_eq]
      exact fun h => hok h.1
    rw [he]
    by_cases h1 : s.size < 1
    · have t1 : decide ((s.size : Int) < 1) = true := by simp; omega
      clear he hsz hs hok h1
      go_enter Try.func13, Try.ntmps13
      go_wp2_with (fail)
      go_ret
      exact ⟨rfl, rfl⟩
    · have t1 : decide ((s.size : Int) < 1) = false := by simp; omega
      have t2 : decide ((64 : Int) < (s.size : Int)) = true := by simp; omega
      clear he hsz hs hok h1
      go_enter Try.func13, Try.ntmps13
      go_wp2_with (fail)
      go_ret
      exact ⟨rfl, rfl⟩
end Go.Proofs.Ytpnhgongjfknbaa
