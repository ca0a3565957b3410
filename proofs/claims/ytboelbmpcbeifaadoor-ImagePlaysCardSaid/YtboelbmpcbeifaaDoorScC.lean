/-
  The contract of a row of bytes: four at a time, then one by one.
-/
import Derived.Test.YtboelbmpcbeifaaDoorScB
import Derived.Lib.Hide
namespace Go.Proofs.YtboelbmpcbeifaaDoor.crcs
open Go.RowKit crcm

/-- the slice's address leads to these bytes -/
def Bs (w : World) (A : Option Addr) (l : List Nat) : Prop :=
  0 < l.length → ∃ b off, A = some ⟨b, off, none⟩ ∧ ∀ j (h : j < l.length), w.cell? ⟨b, off + j, none⟩ = some (.int .u8 (l[j] : Nat))
theorem Bs.drewN {w : World} {A : Option Addr} {l : List Nat} (h : Bs w A l) (n : Nat) : Bs (w.drewN n) A l := h
def lenOfV : Value → Nat | .slice _ l _ => l | _ => 0

/-- the world is another one only by draws -/
def Drew (w w' : World) : Prop := ∃ n, w' = w.drewN n
theorem Drew.refl (w : World) : Drew w w := ⟨0, rfl⟩
theorem Drew.more {w w' : World} (h : Drew w w') (n : Nat) : Drew w (w'.drewN n) := by
  obtain ⟨m, rfl⟩ := h
  exact ⟨m + n, by simp⟩
theorem Drew.trans {a b c : World} (h : Drew a b) (k : Drew b c) : Drew a c := by
  obtain ⟨m, rfl⟩ := k
  exact h.more m
theorem Drew.tab {w w' : World} (h : Drew w w') (ht : TabAt w) : TabAt w' := by
  obtain ⟨m, rfl⟩ := h
  exact ht
theorem Drew.bs {w w' : World} (h : Drew w w') {A : Option Addr} {l : List Nat} (hb : Bs w A l) : Bs w' A l := by
  obtain ⟨m, rfl⟩ := h
  exact hb

theorem four_list {l : List Nat} (h : 4 ≤ l.length) (r : Nat) :
    crc r l = crc (sts 8 (sts 8 (sts 8 (sts 8 (r ^^^ l[0]) ^^^ l[1]) ^^^ l[2]) ^^^ l[3])) (l.drop 4) := by
  match l, h with
  | a :: b :: c :: d :: l, _ => rfl
theorem Bs.drop {w : World} {b off k : Nat} {l : List Nat} (h : ∀ j (h : j < l.length), w.cell? ⟨b, off + j, none⟩ = some (.int .u8 (l[j] : Nat))) : Bs w (some ⟨b, off + k, none⟩) (l.drop k) := fun _ => by
  refine ⟨b, off + k, rfl, fun j hj => ?_⟩
  have hj' : k + j < l.length := by simp at hj; omega
  have := h (k + j) hj'
  simpa [Nat.add_assoc] using this
theorem Bs.none_ {w : World} {A : Option Addr} {l : List Nat} (h : l.length = 0) : Bs w A l := fun h' => absurd h' (by omega)

set_option maxHeartbeats 1000000 in
theorem row_any (r : Nat) (A : Option Addr) (l : List Nat) (c : Nat) (w : World) (hr : r < 4294967296) (hlc : l.length ≤ c) (hcm : c ≤ maxLen) (hb : Bs w A l) (hw : AreBytes l) (ht : TabAt w) :
    Calls Tryd.prog 48 #[.int .u32 r, .slice A l.length c] w fun e w' => e = .returned (.int .u32 (crc r l : Nat)) ∧ Drew w w' := by
  have hcm' : c ≤ 9223372036854775807 := by unfold maxLen at hcm; omega
  clear hcm
  go_enter Tryd.func48, Tryd.ntmps48
  go_wp2
  go_loopw [0, 1] (fun x y wr => ∃ (r' : Nat) (l' : List Nat) (A' : Option Addr) (c' : Nat), x = .int .u32 r' ∧ y = .slice A' l'.length c' ∧ Hid (Drew w wr) ∧ l'.length ≤ c' ∧ c' ≤ 9223372036854775807 ∧
    Bs wr A' l' ∧ AreBytes l' ∧ r' < 4294967296 ∧ Hid (crc r' l' = crc r l)) (fun _ y _ => lenOfV y)
  case atStart => exact ⟨r, l, A, c, rfl, rfl, Drew.refl w, hlc, hcm', hb, hw, hr, rfl⟩
  case round =>
    obtain ⟨r', l', A', c', rfl, rfl, hdr, hl1, hl2, hb', hw', hr', hcr⟩ := hrel
    clear hb hw hlc hcm'
    have ht' := hdr.out.tab ht
    by_cases h4 : 4 ≤ l'.length
    · obtain ⟨b, off, rfl, hcell⟩ := hb' (by omega)
      have c0 := hcell 0 (by omega)
      rw [Nat.add_zero] at c0
      have c1 := hcell 1 (by omega)
      have c2 := hcell 2 (by omega)
      have c3 := hcell 3 (by omega)
      have w0 := hw'.at_ (show 0 < l'.length by omega)
      have w1 := hw'.at_ (show 1 < l'.length by omega)
      have w2 := hw'.at_ (show 2 < l'.length by omega)
      have w3 := hw'.at_ (show 3 < l'.length by omega)
      have HH := Lib.hid hcell
      have HF := Lib.hid (four_list h4 r')
      clear hcell hb'
      generalize hz0 : l'[0] = z0 at *
      generalize hz1 : l'[1] = z1 at *
      generalize hz2 : l'[2] = z2 at *
      generalize hz3 : l'[3] = z3 at *
      clear hz0 hz1 hz2 hz3
      have hlt := by8_lt (by8_lt (by8_lt (by8_lt hr' w0) w1) w2) w3
      unfold by8 at hlt
      have i0 : 0 < l'.length := by omega
      have i1 : (1 : Int) < (l'.length : Int) := by omega
      have i2 : (2 : Int) < (l'.length : Int) := by omega
      have i3 : (3 : Int) < (l'.length : Int) := by omega
      by_cases hc4 : c' = 4
      · go_wp2
        go_quiet ((go_at_call 54; exact Calls.quiet_of (four_any _ _ _ _ _ _ hr' w0 w1 w2 w3 ht')))
        go_wp2
        go_roundw
        case rel => exact ⟨_, l'.drop 4, some ⟨b, off, none⟩, 0, rfl, by rw [List.length_drop], hdr.out.more _, by simp; omega, by omega, Bs.none_ (by simp; omega), hw'.drop 4, hlt, HF.out.symm.trans hcr.out⟩
        case measure => simp [lenOfV]; omega
      · go_wp2
        go_quiet ((go_at_call 54; exact Calls.quiet_of (four_any _ _ _ _ _ _ hr' w0 w1 w2 w3 ht')))
        go_wp2
        go_roundw
        case rel => exact ⟨_, l'.drop 4, some ⟨b, off + 4, none⟩, c' - 4, rfl, by rw [List.length_drop], hdr.out.more _, by simp; omega, by omega, Bs.drop HH.out, hw'.drop 4, hlt, HF.out.symm.trans hcr.out⟩
        case measure => simp [lenOfV]; omega
    · have hd4 : decide (4 ≤ (l'.length : Int)) = false := by simp; omega
      have hlow : (l'.length : Int) < 4 := by omega
      go_wp2
      go_loopw [0, 28] (fun x i wx => ∃ k : Nat, k ≤ l'.length ∧ i = .int .i64 k ∧ x = .int .u32 (crc r' (l'.take k) : Nat) ∧ Hid (Drew wr wx)) (fun _ i _ => l'.length - (intOf i).toNat)
      case atStart => exact ⟨0, Nat.zero_le _, rfl, rfl, Drew.refl wr⟩
      case round =>
        obtain ⟨k, hk, rfl, rfl, hdx⟩ := hrel
        have ht2 := hdx.out.tab ht'
        by_cases hlt : k < l'.length
        · obtain ⟨b, off, rfl, hcell⟩ := hb' (by omega)
          have ck := (hdx.out.bs hb' (by omega))
          obtain ⟨b', off', hbb, hcell'⟩ := ck
          simp only [Option.some.injEq, Addr.mk.injEq, and_true] at hbb
          obtain ⟨rfl, rfl⟩ := hbb
          have cc := hcell' k hlt
          have wk := hw'.at_ hlt
          have hs := Lib.hid (crc_snoc r' l' hlt)
          clear hcell hcell' hb'
          have hklt := crc_lt hr' (hw'.take k)
          generalize hzk : l'[k] = zk at *
          generalize crc r' (l'.take k) = y0 at *
          clear hzk
          have hik : (k : Int) < (l'.length : Int) := by omega
          go_wp2_with (go_at_call 55; refine (one_any y0 zk _ hklt wk ht2).mono ?_; rintro e w' ⟨rfl, n, rfl⟩)
          go_roundw
          case rel => exact ⟨k + 1, by omega, by go_num, by rw [hs.out], hdx.out.more _⟩
          case measure => simp [intOf]; omega
        · go_wp2
          go_ret
          have : k = l'.length := by omega
          subst this
          exact ⟨by rw [List.take_length, hcr.out]; rfl, hdr.out.trans hdx.out⟩
end Go.Proofs.YtboelbmpcbeifaaDoor.crcs
