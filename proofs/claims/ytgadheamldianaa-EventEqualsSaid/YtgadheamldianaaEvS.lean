/-
  Layer 19: looks held against each other, by the document.
-/
import Derived.Test.YtgadheamldianaaEvR
namespace Go.Proofs.Ytgadheamldianaa
open Go.RowKit pxm imm

theorem lk_ext {a b : Lk} (h1 : a.k = b.k) (h2 : a.W = b.W) (h3 : a.H = b.H) (h4 : a.p = b.p) (h5 : a.iw = b.iw) (h6 : a.ih = b.ih) (h7 : a.l = b.l) : a = b := by
  obtain ⟨a1, a2, a3, a4, a5, a6, a7⟩ := a
  obtain ⟨b1, b2, b3, b4, b5, b6, b7⟩ := b
  simp only at h1 h2 h3 h4 h5 h6 h7
  subst h1 h2 h3 h4 h5 h6 h7
  rfl
set_option maxHeartbeats 4000000 in
set_option maxRecDepth 100000 in
theorem looks_any (q1 q2 : Lk) (A1 A2 : Option Addr) (u1 u2 : Nat) (w : World) (h1 : Row eW w A1 q1.l) (h2 : Row eW w A2 q2.l) (n1 : q1.l.length ≤ 2000) (n2 : q2.l.length ≤ 2000) :
    Calls Try.prog 25 #[.agg ((lkNd q1).cs A1 u1).toArray, .agg ((lkNd q2).cs A2 u2).toArray] w (SameQ (q1 = q2) w) := by
  have HR := Lib.hid (And.intro h1 h2)
  have m1 : (q1.l.length : Int) ≤ 2000 := by omega
  have m2 : (q2.l.length : Int) ≤ 2000 := by omega
  clear h1 h2 n1 n2
  have HB : Hid (Below w.heap.size w ((w.alloc (.cells ((lkNd q1).cs A1 u1).toArray 65)).alloc (.cells ((lkNd q2).cs A2 u2).toArray 65))) := ((Below.refl _ _).alloc (Nat.le_refl _) _).alloc (by simp) _
  have HK1 : Hid (Blk ((w.alloc (.cells ((lkNd q1).cs A1 u1).toArray 65)).alloc (.cells ((lkNd q2).cs A2 u2).toArray 65)) w.heap.size ((lkNd q1).cs A1 u1)) := (blk_new w ((lkNd q1).cs A1 u1) _).alloc _
  have HK2 : Hid (Blk ((w.alloc (.cells ((lkNd q1).cs A1 u1).toArray 65)).alloc (.cells ((lkNd q2).cs A2 u2).toArray 65)) (w.heap.size + 1) ((lkNd q2).cs A2 u2)) := blk_at (w.alloc _) _ (by simp) ((lkNd q2).cs A2 u2) _
  go_enter Try.func25, Try.ntmps25
  go_upto_region 1 with (fail)
  generalize ((w.alloc (.cells ((lkNd q1).cs A1 u1).toArray 65)).alloc (.cells ((lkNd q2).cs A2 u2).toArray 65)) = wz at *
  have z1 : wz.cell? ⟨w.heap.size, 19, none⟩ = some (.slice A1 q1.l.length u1) := HK1.out.cell 19
  have z2 : wz.cell? ⟨w.heap.size + 1, 19, none⟩ = some (.slice A2 q2.l.length u2) := HK2.out.cell 19
  have i1 : w.heap.size < wz.heap.size := HK1.out.inside
  have i2 : w.heap.size + 1 < wz.heap.size := HK2.out.inside
  go_quiet (fail)
  have HBd : Hid (Below w.heap.size w (wz.drewN nq)) := Below.drewN' HB.out nq
  have x13 : (wz.drewN nq).cell? ⟨w.heap.size, 13, none⟩ = some (.int .i64 q1.k) := (HK1.out.drewN nq).cell 13
  have y13 : (wz.drewN nq).cell? ⟨w.heap.size + 1, 13, none⟩ = some (.int .i64 q2.k) := (HK2.out.drewN nq).cell 13
  have x14 : (wz.drewN nq).cell? ⟨w.heap.size, 14, none⟩ = some (.int .i64 q1.W) := (HK1.out.drewN nq).cell 14
  have y14 : (wz.drewN nq).cell? ⟨w.heap.size + 1, 14, none⟩ = some (.int .i64 q2.W) := (HK2.out.drewN nq).cell 14
  have x15 : (wz.drewN nq).cell? ⟨w.heap.size, 15, none⟩ = some (.int .i64 q1.H) := (HK1.out.drewN nq).cell 15
  have y15 : (wz.drewN nq).cell? ⟨w.heap.size + 1, 15, none⟩ = some (.int .i64 q2.H) := (HK2.out.drewN nq).cell 15
  have x16 : (wz.drewN nq).cell? ⟨w.heap.size, 16, none⟩ = some (.int .u32 (q1.p : Nat)) := (HK1.out.drewN nq).cell 16
  have y16 : (wz.drewN nq).cell? ⟨w.heap.size + 1, 16, none⟩ = some (.int .u32 (q2.p : Nat)) := (HK2.out.drewN nq).cell 16
  have x17 : (wz.drewN nq).cell? ⟨w.heap.size, 17, none⟩ = some (.int .i64 q1.iw) := (HK1.out.drewN nq).cell 17
  have y17 : (wz.drewN nq).cell? ⟨w.heap.size + 1, 17, none⟩ = some (.int .i64 q2.iw) := (HK2.out.drewN nq).cell 17
  have x18 : (wz.drewN nq).cell? ⟨w.heap.size, 18, none⟩ = some (.int .i64 q1.ih) := (HK1.out.drewN nq).cell 18
  have y18 : (wz.drewN nq).cell? ⟨w.heap.size + 1, 18, none⟩ = some (.int .i64 q2.ih) := (HK2.out.drewN nq).cell 18
  have j1 : w.heap.size < (wz.drewN nq).heap.size := i1
  have j2 : w.heap.size + 1 < (wz.drewN nq).heap.size := i2
  clear z1 z2 i1 i2 HB HK1 HK2
  generalize wz.drewN nq = w1 at *
  by_cases hl : ¬ q1.l.length = q2.l.length
  · have q : ((q1.l.length : Int) != (q2.l.length : Int)) = true := by simp; omega
    have HNO : Hid (false = true ↔ q1 = q2) := ⟨(fun h => nomatch h), fun h => absurd (by rw [h]) hl⟩
    clear hl
    go_wp2_with (fail)
    go_ret
    exact SameQ.of HNO.out HBd.out
  have HL := Lib.hid (Decidable.not_not.1 hl)
  have q : ((q1.l.length : Int) != (q2.l.length : Int)) = false := by have := HL.out; simp; omega
  clear hl
  by_cases ek : ¬ q1.k = q2.k
  · have tk : (q1.k != q2.k) = true := by simpa using ek
    have HNO : Hid (false = true ↔ q1 = q2) := ⟨(fun h => nomatch h), fun h => absurd (by rw [h]) ek⟩
    clear  ek
    go_wp2_with (fail)
    go_ret
    exact SameQ.of HNO.out HBd.out
  have Ek := Lib.hid (Decidable.not_not.1 ek)
  have tk : (q1.k != q2.k) = false := by have := Ek.out; simp; omega
  clear ek
  by_cases eW : ¬ q1.W = q2.W
  · have tW : (q1.W != q2.W) = true := by simpa using eW
    have HNO : Hid (false = true ↔ q1 = q2) := ⟨(fun h => nomatch h), fun h => absurd (by rw [h]) eW⟩
    clear Ek eW
    go_wp2_with (fail)
    go_ret
    exact SameQ.of HNO.out HBd.out
  have EW := Lib.hid (Decidable.not_not.1 eW)
  have tW : (q1.W != q2.W) = false := by have := EW.out; simp; omega
  clear eW
  by_cases eH : ¬ q1.H = q2.H
  · have tH : (q1.H != q2.H) = true := by simpa using eH
    have HNO : Hid (false = true ↔ q1 = q2) := ⟨(fun h => nomatch h), fun h => absurd (by rw [h]) eH⟩
    clear Ek EW eH
    go_wp2_with (fail)
    go_ret
    exact SameQ.of HNO.out HBd.out
  have EH := Lib.hid (Decidable.not_not.1 eH)
  have tH : (q1.H != q2.H) = false := by have := EH.out; simp; omega
  clear eH
  by_cases ep : ¬ q1.p = q2.p
  · have tp : ((q1.p : Int) != (q2.p : Int)) = true := by simp; omega
    have HNO : Hid (false = true ↔ q1 = q2) := ⟨(fun h => nomatch h), fun h => absurd (by rw [h]) ep⟩
    clear Ek EW EH ep
    go_wp2_with (fail)
    go_ret
    exact SameQ.of HNO.out HBd.out
  have Ep := Lib.hid (Decidable.not_not.1 ep)
  have tp : ((q1.p : Int) != (q2.p : Int)) = false := by have := Ep.out; simp; omega
  clear ep
  by_cases eiw : ¬ q1.iw = q2.iw
  · have tiw : (q1.iw != q2.iw) = true := by simpa using eiw
    have HNO : Hid (false = true ↔ q1 = q2) := ⟨(fun h => nomatch h), fun h => absurd (by rw [h]) eiw⟩
    clear Ek EW EH Ep eiw
    go_wp2_with (fail)
    go_ret
    exact SameQ.of HNO.out HBd.out
  have Eiw := Lib.hid (Decidable.not_not.1 eiw)
  have tiw : (q1.iw != q2.iw) = false := by have := Eiw.out; simp; omega
  clear eiw
  by_cases eih : ¬ q1.ih = q2.ih
  · have tih : (q1.ih != q2.ih) = true := by simpa using eih
    have HNO : Hid (false = true ↔ q1 = q2) := ⟨(fun h => nomatch h), fun h => absurd (by rw [h]) eih⟩
    clear Ek EW EH Ep Eiw eih
    go_wp2_with (fail)
    go_ret
    exact SameQ.of HNO.out HBd.out
  have Eih := Lib.hid (Decidable.not_not.1 eih)
  have tih : (q1.ih != q2.ih) = false := by have := Eih.out; simp; omega
  clear eih
  have HALL : Hid (q1 = q2 ↔ q1.l = q2.l) := ⟨fun h => by rw [h], fun h => lk_ext Ek.out EW.out EH.out Ep.out Eiw.out Eih.out h⟩
  clear Ek EW EH Ep Eiw Eih
  go_wp2_with (fail)
  clear q tk tW tH tp tiw tih x13 y13 x14 y14 x15 y15 x16 y16 x17 y17 x18 y18 j1 j2
  obtain ⟨l1, hl1⟩ : ∃ l, q1.l = l := ⟨_, rfl⟩
  obtain ⟨l2, hl2⟩ : ∃ l, q2.l = l := ⟨_, rfl⟩
  rw [hl1, hl2] at HALL HR HL
  rw [hl1] at m1 ⊢
  rw [hl2] at m2 ⊢
  clear hl1 hl2
  go_loopw [67] (fun x wr => ∃ k : Nat, k ≤ l1.length ∧ x = .int .i64 (k : Nat) ∧ Hid (l1.take k = l2.take k) ∧ Hid (Below w.heap.size w wr)) (fun x _ => l1.length - (intOf x).toNat)
  case atStart => exact ⟨0, Nat.zero_le _, rfl, rfl, HBd.out⟩
  case round =>
    obtain ⟨k, hk, rfl, HK, HB⟩ := hrel
    by_cases hlt : k < l1.length
    · have t : decide (k < l1.length) = true := by simpa using hlt
      have hlt2 : k < l2.length := by rw [← HL.out]; exact hlt
      have t2 : decide (k < l2.length) = true := by simpa using hlt2
      obtain ⟨b1, o1, rfl, k1⟩ := (HR.out.1.below HB.out).at_ hlt
      obtain ⟨b2, o2, rfl, k2⟩ := (HR.out.2.below HB.out).at_ hlt2
      have HS := Lib.hid (fun e => take_eq_snocI HK.out hlt hlt2 e)
      have HO := Lib.hid (fun e => ne_of_atI hlt hlt2 e)
      generalize l1[k] = x at *
      generalize l2[k] = y at *
      unfold eW at k1 k2
      by_cases e : x = y
      · have HS2 := Lib.hid (HS.out e)
        have q : ((x : Int) != (y : Int)) = false := by simp; omega
        clear HS HO e
        go_wp2_with (fail)
        go_quiet (fail)
        go_wp2_with (fail)
        go_roundw
        case rel => exact ⟨k + 1, by omega, by go_num, HS2, Below.drewN' HB.out _⟩
        case measure => simp [intOf]; omega
      · have HO2 : Hid (false = true ↔ q1 = q2) := ⟨(fun h => nomatch h), fun h => absurd (HALL.out.1 h) (of_decide_eq_false (HO.out e))⟩
        have q : ((x : Int) != (y : Int)) = true := by simp; omega
        clear HS HO e
        go_wp2_with (fail)
        go_quiet (fail)
        go_wp2_with (fail)
        go_ret
        exact SameQ.of HO2.out (Below.drewN' HB.out _)
    · obtain rfl : k = l1.length := by omega
      have HF : Hid (q1 = q2) := HALL.out.2 (by have := HK.out; rw [List.take_length, HL.out, List.take_length] at this; exact this)
      have t : decide (l1.length < l1.length) = false := by simp
      go_wp2_with (fail)
      go_ret
      exact SameQ.of ⟨fun _ => HF.out, fun _ => rfl⟩ HB.out
end Go.Proofs.Ytgadheamldianaa
