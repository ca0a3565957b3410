/-
  The walk of the law CrcNext.
-/
import Derived.Test.YtmogbmgambmaoaaDoorCrcG
namespace Go.Proofs.YtmogbmgambmaoaaDoor
open Go.RowKit crcm

set_option maxHeartbeats 1000000 in
theorem next_walk_long (p q : Part) (w : World) (ht : TabAt w) (hlong : 2000 < p.l.length ∨ 2000 < q.l.length) :
    Calls Tryd.prog 4 #[.slice p.a p.l.length p.c, .slice q.a q.l.length q.c] w fun e w' => e = .returned (.bool true) ∧ Below w.heap.size w w' := by
  obtain ⟨pa, pl, pc⟩ := p
  obtain ⟨qa, ql, qc⟩ := q
  simp only at hlong ⊢
  have t1 : decide ((2000 : Int) < (pl.length : Int)) = true ∨ (decide ((2000 : Int) < (pl.length : Int)) = false ∧ decide ((2000 : Int) < (ql.length : Int)) = true) := by
    simp; omega
  clear hlong
  rcases t1 with t1 | ⟨t1, t2⟩
  all_goals
    go_enter Tryd.func4, Tryd.ntmps4
    go_wp2_with (go_at_call 7; refine (awake_any w ht).mono ?_; rintro e w' ⟨rfl, hb⟩)
    go_ret
    exact ⟨rfl, hb⟩

set_option maxHeartbeats 1000000 in
theorem next_walk (p q : Part) (w : World) (hp : p.ok w) (hq : q.ok w) (ht : TabAt w) (h1 : p.l.length ≤ 2000) (h2 : q.l.length ≤ 2000) :
    Calls Tryd.prog 4 #[.slice p.a p.l.length p.c, .slice q.a q.l.length q.c] w fun e w' => e = .returned (.bool true) ∧ Below w.heap.size w w' := by
  obtain ⟨pa, pl, pc⟩ := p
  obtain ⟨qa, ql, qc⟩ := q
  simp only at h1 h2 ⊢
  have t1 : decide ((2000 : Int) < (pl.length : Int)) = false := by simp; omega
  have t2 : decide ((2000 : Int) < (ql.length : Int)) = false := by simp; omega
  go_enter Tryd.func4, Tryd.ntmps4
  go_wp2_with (fail)
  refine (sum_built w [⟨pa, pl, pc⟩] _ rfl 1 1 rfl (by simp [maxLen]) (fun x hx => by simp at hx; subst hx; exact hp) ht (0, 0)).mono ?_
  rintro e w1 ⟨rfl, hb1⟩
  have e1 : bytesOf [⟨pa, pl, pc⟩] = pl := by simp [bytesOf]
  rw [e1]
  clear e1
  have hp1 := hp.below hb1
  have hq1 := hq.below hb1
  have ht1 := ht.below hb1
  clear hp hq ht
  go_wp2_with (fail)
  go_loopw [5, 22] (fun x i wr => ∃ k : Nat, k ≤ ql.length ∧ i = .int .i64 k ∧ x = .int .u32 (sum (pl ++ ql.take k) : Nat) ∧ Hid (Drew w1 wr)) (fun _ i _ => ql.length - (intOf i).toNat)
  case atStart => exact ⟨0, Nat.zero_le _, rfl, by rw [sum_nil], Drew.refl w1⟩
  case round =>
    obtain ⟨k, hk, rfl, rfl, hdr⟩ := hrel
    have ht2 := hdr.out.tab ht1
    by_cases hlt : k < ql.length
    · have hbq : Bs w1 qa ql := hq1.at_
      obtain ⟨b, off, rfl, hcell⟩ := hdr.out.bs hbq (by omega)
      clear hbq
      have ck := hcell k hlt
      have wk := hq1.bytes.at_ hlt
      simp only at ck wk
      have hs := Lib.hid (sum_snoc pl ql hlt)
      have hlt32 := sum_lt (hp1.bytes.append (hq1.bytes.take k))
      simp only at hlt32
      clear hcell hp1 hq1
      generalize hzk : ql[k] = zk at *
      clear hzk
      generalize sum (pl ++ ql.take k) = y0 at *
      go_wp2_with (fail)
      refine (next_any y0 zk _ hlt32 wk ht2).mono ?_
      rintro e w' ⟨rfl, n, rfl⟩
      go_wp2
      go_roundw
      case rel => exact ⟨k + 1, by omega, by go_num, by rw [hs.out], hdr.out.more _⟩
      case measure => simp [intOf]; omega
    · have : k = ql.length := by omega
      subst this
      rw [sum_all]
      have hb2 := below_drew hb1 hdr.out
      have hp2 := hp1.drew hdr.out
      have hq2 := hq1.drew hdr.out
      clear hp1 hq1 ht1 hb1 hlt
      go_wp2_with (fail)
      refine (sum_built wr [⟨pa, pl, pc⟩, ⟨qa, ql, qc⟩] _ rfl 2 2 rfl (by simp [maxLen]) (fun x hx => by
        simp at hx
        rcases hx with rfl | rfl
        · exact hp2
        · exact hq2) ht2 (0, 0)).mono ?_
      rintro e w3 ⟨rfl, hb3⟩
      have e1 : bytesOf [⟨pa, pl, pc⟩, ⟨qa, ql, qc⟩] = pl ++ ql := by simp [bytesOf]
      rw [e1]
      clear e1
      have hbb := hb2.trans (hb3.mono hb2.size)
      have ht3 := ht2.below hb3
      have c1 := conv_str w3 pa pl pc (hp2.below hb3).at_
      have c2 := conv_str w3 qa ql qc (hq2.below hb3).at_
      have hpa : AreBytes pl := hp2.bytes
      have hqa : AreBytes ql := hq2.bytes
      clear hp2 hq2 ht2 hb2 hb3 hdr
      have z1 : (strOf pl).size ≤ 2000 := by rw [strOf_size]; exact h1
      have z2 : (strOf ql).size ≤ 2000 := by rw [strOf_size]; exact h2
      have hsz : (strOf pl ++ strOf ql).size ≤ maxLen := by rw [ByteArray.size_append]; unfold maxLen; omega
      have hnat : Hid (natsOf (strOf pl ++ strOf ql) = pl ++ ql) := by rw [natsOf_append, natsOf_strOf hpa, natsOf_strOf hqa]; rfl
      go_wp2_with (fail)
      refine (ref_any _ w3 hsz).mono ?_
      rintro e w' ⟨rfl, rfl⟩
      rw [hnat.out]
      go_wp2_with (fail)
      refine (awake_any w3 ht3).mono ?_
      rintro e w4 ⟨rfl, hb4⟩
      have hb5 := hbb.trans (hb4.mono hbb.size)
      go_wp2
      go_ret
      exact ⟨rfl, hb5⟩
end Go.Proofs.YtmogbmgambmaoaaDoor
