/-
  The contract of the sum of parts.
-/
import Derived.Test.YtboelbmpcbeifaaDoorScC
namespace Go.Proofs.YtboelbmpcbeifaaDoor.crcs
open Go.RowKit crcm

/-- a part: where it lies, its bytes, its room -/
structure Part where
  a : Option Addr
  l : List Nat
  c : Nat
def Part.v (p : Part) : Value := .slice p.a p.l.length p.c
structure Part.ok (w : World) (p : Part) : Prop where
  room : p.l.length ≤ p.c
  max : p.c ≤ maxLen
  at_ : Bs w p.a p.l
  bytes : AreBytes p.l
/-- the slice of parts -/
def Ps (w : World) (A : Option Addr) (ps : List Part) : Prop :=
  0 < ps.length → ∃ b off, A = some ⟨b, off, none⟩ ∧ ∀ j (h : j < ps.length), w.cell? ⟨b, off + j, none⟩ = some (.slice ps[j].a ps[j].l.length ps[j].c)
theorem Part.ok.drew {w w' : World} {p : Part} (h : p.ok w) (hd : Drew w w') : p.ok w' := ⟨h.room, h.max, hd.bs h.at_, h.bytes⟩
theorem Ps.drew {w w' : World} {A : Option Addr} {ps : List Part} (h : Ps w A ps) (hd : Drew w w') : Ps w' A ps := by
  obtain ⟨m, rfl⟩ := hd
  exact h
def bytesOf (ps : List Part) : List Nat := (ps.map (·.l)).flatten
theorem bytesOf_snoc (ps : List Part) {k : Nat} (hk : k < ps.length) : bytesOf (ps.take (k + 1)) = bytesOf (ps.take k) ++ ps[k].l := by
  rw [List.take_succ_eq_append_getElem hk]
  simp only [bytesOf, List.map_append, List.map_cons, List.map_nil, List.flatten_append, List.flatten_cons, List.flatten_nil, List.append_nil]
theorem bytesOf_are {w : World} {ps : List Part} (h : ∀ p ∈ ps, p.ok w) : AreBytes (bytesOf ps) := by
  intro z hz
  simp only [bytesOf, List.mem_flatten, List.mem_map] at hz
  obtain ⟨l, ⟨p, hp, rfl⟩, hz⟩ := hz
  exact (h p hp).bytes z hz
/-- the sum of a row of bytes -/
def sum (l : List Nat) : Nat := crc 4294967295 l ^^^ 4294967295
theorem sum_lt {l : List Nat} (h : AreBytes l) : sum l < 4294967296 := xor_lt (crc_lt (by omega) h) (by omega)

set_option maxHeartbeats 1000000 in
theorem sum_any (A : Option Addr) (ps : List Part) (c : Nat) (w : World) (hpl : ps.length ≤ maxLen) (hp : Ps w A ps) (hok : ∀ p ∈ ps, p.ok w) (ht : TabAt w) :
    Calls Tryd.prog 37 #[.slice A ps.length c] w fun e w' => e = .returned (.int .u32 (sum (bytesOf ps) : Nat)) ∧ Drew w w' := by
  unfold maxLen at hpl
  go_enter Tryd.func37, Tryd.ntmps37
  go_wp2
  go_loopw [3, 8] (fun x i wr => ∃ k : Nat, k ≤ ps.length ∧ i = .int .i64 k ∧ x = .int .u32 (crc 4294967295 (bytesOf (ps.take k)) : Nat) ∧ Hid (Drew w wr)) (fun _ i _ => ps.length - (intOf i).toNat)
  case atStart => exact ⟨0, Nat.zero_le _, rfl, rfl, Drew.refl w⟩
  case round =>
    obtain ⟨k, hk, rfl, rfl, hdr⟩ := hrel
    have ht' := hdr.out.tab ht
    have hp' := hp.drew hdr.out
    by_cases hlt : k < ps.length
    · obtain ⟨b, off, rfl, hcell⟩ := hp' (by omega)
      have ck := hcell k hlt
      have okk := (hok ps[k] (List.getElem_mem hlt)).drew hdr.out
      have hr := crc_lt (r := 4294967295) (l := bytesOf (ps.take k)) (by omega) (bytesOf_are (w := w) fun p hp => hok p (List.mem_of_mem_take hp))
      have hs : Hid (crc 4294967295 (bytesOf (ps.take (k + 1))) = crc (crc 4294967295 (bytesOf (ps.take k))) ps[k].l) := by rw [bytesOf_snoc ps hlt, crc_append]; rfl
      clear hcell hp hp' hok
      generalize crc 4294967295 (bytesOf (ps.take k)) = y0 at *
      generalize hpk : ps[k] = pk at *
      obtain ⟨pa, pl, pc⟩ := pk
      clear hpk
      obtain ⟨k1, k2, k3, k4⟩ := okk
      simp only at k1 k2 k3 k4 ck hs
      go_wp2_with (go_at_call 48; refine (row_any y0 pa pl pc _ hr k1 k2 k3 k4 ht').mono ?_; rintro e w' ⟨rfl, n, rfl⟩)
      go_roundw
      case rel => exact ⟨k + 1, by omega, by go_num, by rw [hs.out], hdr.out.more _⟩
      case measure => simp [intOf]; omega
    · have : k = ps.length := by omega
      subst this
      have hr := crc_lt (r := 4294967295) (l := bytesOf (ps.take ps.length)) (by omega) (bytesOf_are (w := w) fun p hp => hok p (List.mem_of_mem_take hp))
      have e2 : bits .xor .u32 (crc 4294967295 (bytesOf (ps.take ps.length)) : Nat) 4294967295 = (sum (bytesOf ps) : Nat) := by
        rw [List.take_length] at hr ⊢
        exact u32_xor_nat _ 4294967295 hr (by omega)
      generalize crc 4294967295 (bytesOf (ps.take ps.length)) = y0 at *
      clear hp hp' hok
      go_wp2
      go_ret
      exact ⟨rfl, hdr.out⟩
end Go.Proofs.YtboelbmpcbeifaaDoor.crcs
