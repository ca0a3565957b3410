/-
  Layer 19: events held against each other, and an op's plain form, by the document.
-/
import Derived.Test.YtgadheamldianaaEvT
namespace Go.Proofs.Ytgadheamldianaa
open Go.RowKit pxm imm

theorem rg_below {w w' : World} {g o : Nat} {ls : List Value} (h : w.rangeAt g o ls) (hb : Below w.heap.size w w') : w'.rangeAt g o ls := fun i v hv =>
  (hb.cell (p := ⟨g, _, none⟩) (World.block_lt_of_cell? w ⟨g, _, none⟩ (h i v hv))).trans (h i v hv)
def AlikeQ (p : Prop) (w : World) (e : Ending) (w' : World) : Prop := ∃ b : Bool, e = .returned (.int .i64 (bif b then 1 else 0)) ∧ (b = true ↔ p) ∧ Below w.heap.size w w'
theorem AlikeQ.yes {p : Prop} {w w' : World} (h : p) (hb : Below w.heap.size w w') : AlikeQ p w (.returned (.int .i64 1)) w' := ⟨true, rfl, ⟨fun _ => h, fun _ => rfl⟩, hb⟩
theorem AlikeQ.no {p : Prop} {w w' : World} (h : ¬ p) (hb : Below w.heap.size w w') : AlikeQ p w (.returned (.int .i64 0)) w' := ⟨false, rfl, ⟨(fun e => nomatch e), fun e => absurd e h⟩, hb⟩
theorem SameQ.told {p : Prop} {w w' : World} {e : Ending} (h : SameQ p w e w') {b : Bool} (hb : b = true ↔ p) : e = .returned (.bool b) ∧ Below w.heap.size w w' := by
  obtain ⟨c, rfl, h1, h2⟩ := h
  have : c = b := Bool.eq_iff_iff.2 (h1.trans hb.symm)
  rw [this]
  exact ⟨rfl, h2⟩
set_option maxHeartbeats 8000000 in
set_option maxRecDepth 100000 in
theorem alike_ev (v1 v2 : EV) (A1 A2 : Option Addr) (u1 u2 : Nat) (w : World) (h1 : OpsE w 0 A1 v1.os) (h2 : OpsE w 0 A2 v2.os) (n1 : v1.os.length ≤ 2000) (n2 : v2.os.length ≤ 2000) :
    Calls Try.prog 9 #[.agg (v1.cs A1 u1).toArray, .agg (v2.cs A2 u2).toArray] w (AlikeQ (v1 = v2) w) := by
  obtain ⟨l1, hl1, o1⟩ := h1
  obtain ⟨l2, hl2, o2⟩ := h2
  have e1 : v1.os.length = l1.length := by rw [← hl1, List.length_map]
  have e2 : v2.os.length = l2.length := by rw [← hl2, List.length_map]
  have H1 := Lib.hid o1.t
  have H2 := Lib.hid o2.t
  have HOS : Hid (v1.os = v2.os ↔ l1.map (·.o) = l2.map (·.o)) := by show _ ↔ _; rw [hl1, hl2]
  have m1 : (l1.length : Int) ≤ 2000 := by omega
  have m2 : (l2.length : Int) ≤ 2000 := by omega
  have HN : Hid (l1.length ≤ 2000 ∧ l2.length ≤ 2000) := ⟨by omega, by omega⟩
  unfold EV.cs
  rw [e1, e2]
  clear hl1 hl2 o1 o2 e1 e2 n1 n2
  have HB : Hid (Below w.heap.size w ((w.alloc (.cells (evl v1.k A1 l1.length u1 v1.x v1.y v1.n).toArray 25)).alloc (.cells (evl v2.k A2 l2.length u2 v2.x v2.y v2.n).toArray 25))) := ((Below.refl _ _).alloc (Nat.le_refl _) _).alloc (by simp) _
  have HK1 : Hid (Blk ((w.alloc (.cells (evl v1.k A1 l1.length u1 v1.x v1.y v1.n).toArray 25)).alloc (.cells (evl v2.k A2 l2.length u2 v2.x v2.y v2.n).toArray 25)) w.heap.size (evl v1.k A1 l1.length u1 v1.x v1.y v1.n)) := (blk_new w (evl v1.k A1 l1.length u1 v1.x v1.y v1.n) _).alloc _
  have HK2 : Hid (Blk ((w.alloc (.cells (evl v1.k A1 l1.length u1 v1.x v1.y v1.n).toArray 25)).alloc (.cells (evl v2.k A2 l2.length u2 v2.x v2.y v2.n).toArray 25)) (w.heap.size + 1) (evl v2.k A2 l2.length u2 v2.x v2.y v2.n)) := blk_at (w.alloc _) _ (by simp) (evl v2.k A2 l2.length u2 v2.x v2.y v2.n) _
  go_enter Try.func9, Try.ntmps9
  go_upto_region 1 with (fail)
  generalize ((w.alloc (.cells (evl v1.k A1 l1.length u1 v1.x v1.y v1.n).toArray 25)).alloc (.cells (evl v2.k A2 l2.length u2 v2.x v2.y v2.n).toArray 25)) = wz at *
  have x0 : wz.cell? ⟨w.heap.size, 0, none⟩ = some (.int .i64 v1.k) := HK1.out.cell 0
  have y0 : wz.cell? ⟨w.heap.size + 1, 0, none⟩ = some (.int .i64 v2.k) := HK2.out.cell 0
  have x2 : wz.cell? ⟨w.heap.size, 2, none⟩ = some (.int .i64 v1.x) := HK1.out.cell 2
  have y2 : wz.cell? ⟨w.heap.size + 1, 2, none⟩ = some (.int .i64 v2.x) := HK2.out.cell 2
  have x3 : wz.cell? ⟨w.heap.size, 3, none⟩ = some (.int .i64 v1.y) := HK1.out.cell 3
  have y3 : wz.cell? ⟨w.heap.size + 1, 3, none⟩ = some (.int .i64 v2.y) := HK2.out.cell 3
  have x4 : wz.cell? ⟨w.heap.size, 4, none⟩ = some (.int .u64 v1.n) := HK1.out.cell 4
  have y4 : wz.cell? ⟨w.heap.size + 1, 4, none⟩ = some (.int .u64 v2.n) := HK2.out.cell 4
  have x1 : wz.cell? ⟨w.heap.size, 1, none⟩ = some (.slice A1 l1.length u1) := HK1.out.cell 1
  have y1 : wz.cell? ⟨w.heap.size + 1, 1, none⟩ = some (.slice A2 l2.length u2) := HK2.out.cell 1
  have i1 : w.heap.size < wz.heap.size := HK1.out.inside
  have i2 : w.heap.size + 1 < wz.heap.size := HK2.out.inside
  by_cases ek : ¬ v1.k = v2.k
  · have tk : (v1.k != v2.k) = true := by simpa using ek
    have HNO : Hid (¬ v1 = v2) := fun h => absurd (by rw [h]) ek
    clear  ek
    go_wp2_with (fail)
    go_ret
    exact AlikeQ.no HNO.out HB.out
  have Ek := Lib.hid (Decidable.not_not.1 ek)
  have tk : (v1.k != v2.k) = false := by have := Ek.out; simp; omega
  clear ek
  by_cases ex : ¬ v1.x = v2.x
  · have tx : (v1.x != v2.x) = true := by simpa using ex
    have HNO : Hid (¬ v1 = v2) := fun h => absurd (by rw [h]) ex
    clear Ek ex
    go_wp2_with (fail)
    go_ret
    exact AlikeQ.no HNO.out HB.out
  have Ex := Lib.hid (Decidable.not_not.1 ex)
  have tx : (v1.x != v2.x) = false := by have := Ex.out; simp; omega
  clear ex
  by_cases ey : ¬ v1.y = v2.y
  · have ty : (v1.y != v2.y) = true := by simpa using ey
    have HNO : Hid (¬ v1 = v2) := fun h => absurd (by rw [h]) ey
    clear Ek Ex ey
    go_wp2_with (fail)
    go_ret
    exact AlikeQ.no HNO.out HB.out
  have Ey := Lib.hid (Decidable.not_not.1 ey)
  have ty : (v1.y != v2.y) = false := by have := Ey.out; simp; omega
  clear ey
  by_cases en : ¬ v1.n = v2.n
  · have tn : (v1.n != v2.n) = true := by simpa using en
    have HNO : Hid (¬ v1 = v2) := fun h => absurd (by rw [h]) en
    clear Ek Ex Ey en
    go_wp2_with (fail)
    go_ret
    exact AlikeQ.no HNO.out HB.out
  have En := Lib.hid (Decidable.not_not.1 en)
  have tn : (v1.n != v2.n) = false := by have := En.out; simp; omega
  clear en
  by_cases elen : ¬ l1.length = l2.length
  · have tlen : ((l1.length : Int) != (l2.length : Int)) = true := by simp; omega
    have HNO : Hid (¬ v1 = v2) := fun h => absurd (by have h2 := HOS.out.1 (by rw [h]); have h3 := congrArg List.length h2; simpa using h3) elen
    clear Ek Ex Ey En elen
    go_wp2_with (fail)
    go_ret
    exact AlikeQ.no HNO.out HB.out
  have Elen := Lib.hid (Decidable.not_not.1 elen)
  have tlen : ((l1.length : Int) != (l2.length : Int)) = false := by have := Elen.out; simp; omega
  clear elen
  have HALL : Hid (v1 = v2 ↔ l1.map (·.o) = l2.map (·.o)) := Iff.trans ⟨fun h => by rw [h], fun h => ev_ext Ek.out Ex.out Ey.out En.out h⟩ HOS.out
  have HL := Elen
  clear Ek Ex Ey En Elen HOS
  go_wp2_with (fail)
  clear tk tx ty tn tlen x0 y0 x1 y1 x2 y2 x3 y3 x4 y4 i1 i2
  go_loopw [44] (fun x wr => ∃ k : Nat, k ≤ l1.length ∧ x = .int .i64 (k : Nat) ∧ Hid ((l1.take k).map (·.o) = (l2.take k).map (·.o)) ∧ Hid (Below wz.heap.size wz wr)) (fun x _ => l1.length - (intOf x).toNat)
  case atStart => exact ⟨0, Nat.zero_le _, rfl, rfl, Below.refl _ _⟩
  case round =>
    obtain ⟨k, hk, rfl, HK, HBr⟩ := hrel
    generalize wr = wA at *
    have HBw : Hid (Below w.heap.size w wA) := HB.out.trans (HBr.out.mono HB.out.size)
    have HK1 : Hid (Blk wA w.heap.size _) := HK1.out.below' HBr.out
    have HK2 : Hid (Blk wA (w.heap.size + 1) _) := HK2.out.below' HBr.out
    clear HB
    have HB := HBw
    by_cases hlt : k < l1.length
    · have t : decide (k < l1.length) = true := by simpa using hlt
      have HKL := Lib.hid hlt
      have hlt2 : k < l2.length := by rw [← HL.out]; exact hlt
      have HKL2 := Lib.hid hlt2
      have hkb : ((k : Nat) : Int) ≤ 2000 := by omega
      obtain ⟨pb, po, rp, pcell⟩ := (H1.out.below HB.out).row (by omega)
      rw [rp] at HK1
      obtain ⟨p, hp⟩ : ∃ p, p = l1[k]'hlt := ⟨_, rfl⟩
      have HMp : Hid (p ∈ l1) := by rw [hp]; exact List.getElem_mem hlt
      have HTp : Hid (l1.take (k + 1) = l1.take k ++ [p]) := by rw [hp]; exact List.take_succ_eq_append_getElem hlt
      have HSp : Hid (l1[k]? = some p) := by rw [hp]; exact List.getElem?_eq_getElem hlt
      have HRGp : Hid (wA.rangeAt pb (po + k * 23) p.cs) := by
        rw [hp]
        exact fun i v hv => pcell k hlt i v hv
      have HXp := Lib.hid (H1.out.px p HMp.out)
      have HHp := Lib.hid (H1.out.thin p HMp.out)
      clear rp pcell hp
      obtain ⟨qb, qo, rq, qcell⟩ := (H2.out.below HB.out).row (by omega)
      rw [rq] at HK2
      obtain ⟨q, hq⟩ : ∃ q, q = l2[k]'hlt2 := ⟨_, rfl⟩
      have HMq : Hid (q ∈ l2) := by rw [hq]; exact List.getElem_mem hlt2
      have HTq : Hid (l2.take (k + 1) = l2.take k ++ [q]) := by rw [hq]; exact List.take_succ_eq_append_getElem hlt2
      have HSq : Hid (l2[k]? = some q) := by rw [hq]; exact List.getElem?_eq_getElem hlt2
      have HRGq : Hid (wA.rangeAt qb (qo + k * 23) q.cs) := by
        rw [hq]
        exact fun i v hv => qcell k hlt2 i v hv
      have HXq := Lib.hid (H2.out.px q HMq.out)
      have HHq := Lib.hid (H2.out.thin q HMq.out)
      clear rq qcell hq
      have HCA : Hid (∀ W, Below wA.heap.size wA W → Calls Try.prog 18 #[.agg p.cs.toArray, .agg q.cs.toArray] W (SameQ (p.o = q.o) W)) := fun W hb => alike_any p.o q.o p.A q.A p.c q.c W (Row.below HXp.out (HBw.out.trans (hb.mono HBw.out.size))) (Row.below HXq.out (HBw.out.trans (hb.mono HBw.out.size))) (by have := HHp.out; omega) (by have := HHq.out; omega)
      clear hlt hlt2
      by_cases e : p.o = q.o
      · have HS2 := Lib.hid (os_step HK.out HTp.out HTq.out e)
        have HC : Hid (∀ W, Below wA.heap.size wA W → Calls Try.prog 18 #[.agg p.cs.toArray, .agg q.cs.toArray] W fun e w' => e = .returned (.bool true) ∧ Below W.heap.size W w') := fun W hb => (HCA.out W hb).mono fun _ _ h => h.told ⟨fun _ => e, fun _ => rfl⟩
        clear e HCA
        go_upto_region 6 with (fail)
        refine regs.wp_region_put (regs.bl) (regs.noJ) [47, 48, 49, 50, 51, 52, 53, 54, 55, 56, 57, 58] (by kernel_rfl) (by kernel_rfl) (fun _ => regs.bl_refl _) (regs.bl_trans) (fun i => (match i with
          | 0 => regs.Say.val _ (.pointer (some ⟨w.heap.size, 1, none⟩))
          | 1 => regs.Say.val _ (.slice (some ⟨pb, po, none⟩) l1.length u1)
          | 2 => regs.Say.val _ (.int .i64 (k : Nat))
          | 3 => regs.Say.val _ (.pointer (some ⟨pb, (po + k * 23), none⟩))
          | 4 => regs.Say.val _ (.agg (p.cs).toArray)
          | 5 => regs.Say.val _ (.pointer (some ⟨(w.heap.size + 1), 1, none⟩))
          | 6 => regs.Say.val _ (.slice (some ⟨qb, qo, none⟩) l2.length u2)
          | 7 => regs.Say.val _ (.int .i64 (k : Nat))
          | 8 => regs.Say.val _ (.pointer (some ⟨qb, (qo + k * 23), none⟩))
          | 9 => regs.Say.val _ (.agg (q.cs).toArray)
          | 10 => regs.Say.val _ (.bool true)
          | 11 => regs.Say.val _ (.bool false)
          | _ => regs.Say.any _ : regs.Say (regs.bl)).p) (fun _ => regs.Say.mono _) (by kernel_rfl) ((Below.refl _ _).drew) (regs.noJ_ok _ _) ⟨?_, ?_, ?_, ?_, ?_, ?_, ?_, ?_, ?_, ?_, ?_, ?_, trivial⟩ ?_
        · refine regs.StepOK.plain rfl fun L a w1 hh => ?_
          have h2 : a.tmps[2]?.getD undef = .pointer (some ⟨w.heap.size, 0, none⟩) := by rw [← Array.getD_eq_getD_getElem?]; exact hh.old 2 rfl
          have i0 := (HK1.out.below' hh.rel).inside
          have hJ := Lib.hid hh.st
          clear hh
          go_simp
          exact ⟨_, rfl, regs.bl_refl _, rfl, hJ.out⟩
        · refine regs.StepOK.plain rfl fun L a w1 hh => ?_
          have h47 : a.tmps[47]?.getD undef = .pointer (some ⟨w.heap.size, 1, none⟩) := by rw [← Array.getD_eq_getD_getElem?]; exact hh.dep 0 47 (by kernel_rfl) (by kernel_rfl)
          have hB := Lib.hid (HK1.out.below' hh.rel)
          have c0 : w1.cell? ⟨w.heap.size, 1, none⟩ = some (.slice (some ⟨pb, po, none⟩) l1.length u1) := hB.out.cell 1
          have i0 := hB.out.inside
          have hJ := Lib.hid hh.st
          clear hh
          go_simp
          exact ⟨_, rfl, regs.bl_refl _, rfl, hJ.out⟩
        · refine regs.StepOK.plain rfl fun L a w1 hh => ?_
          have h5 : a.tmps[5]?.getD undef = .int .i64 (k : Nat) := by rw [← Array.getD_eq_getD_getElem?]; exact hh.old 5 rfl
          have hJ := Lib.hid hh.st
          clear hh
          go_simp
          exact ⟨_, rfl, regs.bl_refl _, rfl, hJ.out⟩
        · refine regs.StepOK.plain rfl fun L a w1 hh => ?_
          have h48 : a.tmps[48]?.getD undef = .slice (some ⟨pb, po, none⟩) l1.length u1 := by rw [← Array.getD_eq_getD_getElem?]; exact hh.dep 1 48 (by kernel_rfl) (by kernel_rfl)
          have h49 : a.tmps[49]?.getD undef = .int .i64 (k : Nat) := by rw [← Array.getD_eq_getD_getElem?]; exact hh.dep 2 49 (by kernel_rfl) (by kernel_rfl)
          have hlt := HKL.out
          have hJ := Lib.hid hh.st
          clear hh
          go_simp
          exact ⟨_, rfl, regs.bl_refl _, rfl, hJ.out⟩
        · refine regs.StepOK.plain rfl fun L a w1 hh => ?_
          have h50 : a.tmps[50]?.getD undef = .pointer (some ⟨pb, (po + k * 23), none⟩) := by rw [← Array.getD_eq_getD_getElem?]; exact hh.dep 3 50 (by kernel_rfl) (by kernel_rfl)
          have hRG := rg_below HRGp.out hh.rel
          have hRG := rg_below HRGp.out hh.rel
          have hJ := Lib.hid hh.st
          exact wp_load_mid 52 _ rfl pb (po + k * 23) (by simpa [go_sem] using h50) p.cs _ hRG Try.underlying52 rfl (by kernel_rfl) ⟨_, rfl, regs.bl_refl _, rfl, hJ.out⟩
        · refine regs.StepOK.plain rfl fun L a w1 hh => ?_
          have h3 : a.tmps[3]?.getD undef = .pointer (some ⟨(w.heap.size + 1), 0, none⟩) := by rw [← Array.getD_eq_getD_getElem?]; exact hh.old 3 rfl
          have i0 := (HK2.out.below' hh.rel).inside
          have hJ := Lib.hid hh.st
          clear hh
          go_simp
          exact ⟨_, rfl, regs.bl_refl _, rfl, hJ.out⟩
        · refine regs.StepOK.plain rfl fun L a w1 hh => ?_
          have h52 : a.tmps[52]?.getD undef = .pointer (some ⟨(w.heap.size + 1), 1, none⟩) := by rw [← Array.getD_eq_getD_getElem?]; exact hh.dep 5 52 (by kernel_rfl) (by kernel_rfl)
          have hB := Lib.hid (HK2.out.below' hh.rel)
          have c0 : w1.cell? ⟨(w.heap.size + 1), 1, none⟩ = some (.slice (some ⟨qb, qo, none⟩) l2.length u2) := hB.out.cell 1
          have i0 := hB.out.inside
          have hJ := Lib.hid hh.st
          clear hh
          go_simp
          exact ⟨_, rfl, regs.bl_refl _, rfl, hJ.out⟩
        · refine regs.StepOK.plain rfl fun L a w1 hh => ?_
          have h5 : a.tmps[5]?.getD undef = .int .i64 (k : Nat) := by rw [← Array.getD_eq_getD_getElem?]; exact hh.old 5 rfl
          have hJ := Lib.hid hh.st
          clear hh
          go_simp
          exact ⟨_, rfl, regs.bl_refl _, rfl, hJ.out⟩
        · refine regs.StepOK.plain rfl fun L a w1 hh => ?_
          have h53 : a.tmps[53]?.getD undef = .slice (some ⟨qb, qo, none⟩) l2.length u2 := by rw [← Array.getD_eq_getD_getElem?]; exact hh.dep 6 53 (by kernel_rfl) (by kernel_rfl)
          have h54 : a.tmps[54]?.getD undef = .int .i64 (k : Nat) := by rw [← Array.getD_eq_getD_getElem?]; exact hh.dep 7 54 (by kernel_rfl) (by kernel_rfl)
          have hlt := HKL2.out
          have hJ := Lib.hid hh.st
          clear hh
          go_simp
          exact ⟨_, rfl, regs.bl_refl _, rfl, hJ.out⟩
        · refine regs.StepOK.plain rfl fun L a w1 hh => ?_
          have h55 : a.tmps[55]?.getD undef = .pointer (some ⟨qb, (qo + k * 23), none⟩) := by rw [← Array.getD_eq_getD_getElem?]; exact hh.dep 8 55 (by kernel_rfl) (by kernel_rfl)
          have hRG := rg_below HRGq.out hh.rel
          have hRG := rg_below HRGq.out hh.rel
          have hJ := Lib.hid hh.st
          exact wp_load_mid 52 _ rfl qb (qo + k * 23) (by simpa [go_sem] using h55) q.cs _ hRG Try.underlying52 rfl (by kernel_rfl) ⟨_, rfl, regs.bl_refl _, rfl, hJ.out⟩
        · refine regs.StepOK.plain rfl fun L a w1 hh => ?_
          have h51 : a.tmps[51]?.getD undef = .agg (p.cs).toArray := by rw [← Array.getD_eq_getD_getElem?]; exact hh.dep 4 51 (by kernel_rfl) (by kernel_rfl)
          have h56 : a.tmps[56]?.getD undef = .agg (q.cs).toArray := by rw [← Array.getD_eq_getD_getElem?]; exact hh.dep 9 56 (by kernel_rfl) (by kernel_rfl)
          have hC := Lib.hid (HC.out w1 hh.rel)
          have hJ := Lib.hid hh.st
          clear hh
          go_simp
          refine hC.out.mono ?_
          rintro e w9 ⟨rfl, hb9⟩
          exact ⟨_, rfl, hb9, rfl, hJ.out⟩
        · refine regs.StepOK.plain rfl fun L a w1 hh => ?_
          have h57 : a.tmps[57]?.getD undef = .bool true := by rw [← Array.getD_eq_getD_getElem?]; exact hh.dep 10 57 (by kernel_rfl) (by kernel_rfl)
          have hJ := Lib.hid hh.st
          clear hh
          go_simp
          exact ⟨_, rfl, regs.bl_refl _, rfl, hJ.out⟩
        intro L w4 val hL hJ hR hv
        have h58 : val 58 = .bool false := hv 11 58 (by kernel_rfl)
        have HR4 := Lib.hid hR
        clear hv hL hJ hR
        simp only [regs.putAll, List.map_cons, List.map_nil, h58]
        simp only [Act.put, List.setIfInBounds_toArray, List.set_cons_zero, List.set_cons_succ]
        clear h58
        generalize val 47 = v47 at *
        generalize val 48 = v48 at *
        generalize val 49 = v49 at *
        generalize val 50 = v50 at *
        generalize val 51 = v51 at *
        generalize val 52 = v52 at *
        generalize val 53 = v53 at *
        generalize val 54 = v54 at *
        generalize val 55 = v55 at *
        generalize val 56 = v56 at *
        generalize val 57 = v57 at *
        have HB4 : Hid (Below wz.heap.size wz w4) := HBr.out.trans (HR4.out.mono HBr.out.size)
        go_wp2_with (fail)
        go_roundw
        case rel => exact ⟨k + 1, HKL.out, by go_num, HS2, HB4⟩
        case measure => have := HKL.out; simp [intOf]; omega
      · have HNO : Hid (¬ v1 = v2) := fun h => os_ne HSp.out HSq.out e (HALL.out.1 h)
        have HC : Hid (∀ W, Below wA.heap.size wA W → Calls Try.prog 18 #[.agg p.cs.toArray, .agg q.cs.toArray] W fun e w' => e = .returned (.bool false) ∧ Below W.heap.size W w') := fun W hb => (HCA.out W hb).mono fun _ _ h => h.told ⟨(fun h => nomatch h), fun h => absurd h e⟩
        clear e HCA
        go_upto_region 6 with (fail)
        refine regs.wp_region_put (regs.bl) (regs.noJ) [47, 48, 49, 50, 51, 52, 53, 54, 55, 56, 57, 58] (by kernel_rfl) (by kernel_rfl) (fun _ => regs.bl_refl _) (regs.bl_trans) (fun i => (match i with
          | 0 => regs.Say.val _ (.pointer (some ⟨w.heap.size, 1, none⟩))
          | 1 => regs.Say.val _ (.slice (some ⟨pb, po, none⟩) l1.length u1)
          | 2 => regs.Say.val _ (.int .i64 (k : Nat))
          | 3 => regs.Say.val _ (.pointer (some ⟨pb, (po + k * 23), none⟩))
          | 4 => regs.Say.val _ (.agg (p.cs).toArray)
          | 5 => regs.Say.val _ (.pointer (some ⟨(w.heap.size + 1), 1, none⟩))
          | 6 => regs.Say.val _ (.slice (some ⟨qb, qo, none⟩) l2.length u2)
          | 7 => regs.Say.val _ (.int .i64 (k : Nat))
          | 8 => regs.Say.val _ (.pointer (some ⟨qb, (qo + k * 23), none⟩))
          | 9 => regs.Say.val _ (.agg (q.cs).toArray)
          | 10 => regs.Say.val _ (.bool false)
          | 11 => regs.Say.val _ (.bool true)
          | _ => regs.Say.any _ : regs.Say (regs.bl)).p) (fun _ => regs.Say.mono _) (by kernel_rfl) ((Below.refl _ _).drew) (regs.noJ_ok _ _) ⟨?_, ?_, ?_, ?_, ?_, ?_, ?_, ?_, ?_, ?_, ?_, ?_, trivial⟩ ?_
        · refine regs.StepOK.plain rfl fun L a w1 hh => ?_
          have h2 : a.tmps[2]?.getD undef = .pointer (some ⟨w.heap.size, 0, none⟩) := by rw [← Array.getD_eq_getD_getElem?]; exact hh.old 2 rfl
          have i0 := (HK1.out.below' hh.rel).inside
          have hJ := Lib.hid hh.st
          clear hh
          go_simp
          exact ⟨_, rfl, regs.bl_refl _, rfl, hJ.out⟩
        · refine regs.StepOK.plain rfl fun L a w1 hh => ?_
          have h47 : a.tmps[47]?.getD undef = .pointer (some ⟨w.heap.size, 1, none⟩) := by rw [← Array.getD_eq_getD_getElem?]; exact hh.dep 0 47 (by kernel_rfl) (by kernel_rfl)
          have hB := Lib.hid (HK1.out.below' hh.rel)
          have c0 : w1.cell? ⟨w.heap.size, 1, none⟩ = some (.slice (some ⟨pb, po, none⟩) l1.length u1) := hB.out.cell 1
          have i0 := hB.out.inside
          have hJ := Lib.hid hh.st
          clear hh
          go_simp
          exact ⟨_, rfl, regs.bl_refl _, rfl, hJ.out⟩
        · refine regs.StepOK.plain rfl fun L a w1 hh => ?_
          have h5 : a.tmps[5]?.getD undef = .int .i64 (k : Nat) := by rw [← Array.getD_eq_getD_getElem?]; exact hh.old 5 rfl
          have hJ := Lib.hid hh.st
          clear hh
          go_simp
          exact ⟨_, rfl, regs.bl_refl _, rfl, hJ.out⟩
        · refine regs.StepOK.plain rfl fun L a w1 hh => ?_
          have h48 : a.tmps[48]?.getD undef = .slice (some ⟨pb, po, none⟩) l1.length u1 := by rw [← Array.getD_eq_getD_getElem?]; exact hh.dep 1 48 (by kernel_rfl) (by kernel_rfl)
          have h49 : a.tmps[49]?.getD undef = .int .i64 (k : Nat) := by rw [← Array.getD_eq_getD_getElem?]; exact hh.dep 2 49 (by kernel_rfl) (by kernel_rfl)
          have hlt := HKL.out
          have hJ := Lib.hid hh.st
          clear hh
          go_simp
          exact ⟨_, rfl, regs.bl_refl _, rfl, hJ.out⟩
        · refine regs.StepOK.plain rfl fun L a w1 hh => ?_
          have h50 : a.tmps[50]?.getD undef = .pointer (some ⟨pb, (po + k * 23), none⟩) := by rw [← Array.getD_eq_getD_getElem?]; exact hh.dep 3 50 (by kernel_rfl) (by kernel_rfl)
          have hRG := rg_below HRGp.out hh.rel
          have hRG := rg_below HRGp.out hh.rel
          have hJ := Lib.hid hh.st
          exact wp_load_mid 52 _ rfl pb (po + k * 23) (by simpa [go_sem] using h50) p.cs _ hRG Try.underlying52 rfl (by kernel_rfl) ⟨_, rfl, regs.bl_refl _, rfl, hJ.out⟩
        · refine regs.StepOK.plain rfl fun L a w1 hh => ?_
          have h3 : a.tmps[3]?.getD undef = .pointer (some ⟨(w.heap.size + 1), 0, none⟩) := by rw [← Array.getD_eq_getD_getElem?]; exact hh.old 3 rfl
          have i0 := (HK2.out.below' hh.rel).inside
          have hJ := Lib.hid hh.st
          clear hh
          go_simp
          exact ⟨_, rfl, regs.bl_refl _, rfl, hJ.out⟩
        · refine regs.StepOK.plain rfl fun L a w1 hh => ?_
          have h52 : a.tmps[52]?.getD undef = .pointer (some ⟨(w.heap.size + 1), 1, none⟩) := by rw [← Array.getD_eq_getD_getElem?]; exact hh.dep 5 52 (by kernel_rfl) (by kernel_rfl)
          have hB := Lib.hid (HK2.out.below' hh.rel)
          have c0 : w1.cell? ⟨(w.heap.size + 1), 1, none⟩ = some (.slice (some ⟨qb, qo, none⟩) l2.length u2) := hB.out.cell 1
          have i0 := hB.out.inside
          have hJ := Lib.hid hh.st
          clear hh
          go_simp
          exact ⟨_, rfl, regs.bl_refl _, rfl, hJ.out⟩
        · refine regs.StepOK.plain rfl fun L a w1 hh => ?_
          have h5 : a.tmps[5]?.getD undef = .int .i64 (k : Nat) := by rw [← Array.getD_eq_getD_getElem?]; exact hh.old 5 rfl
          have hJ := Lib.hid hh.st
          clear hh
          go_simp
          exact ⟨_, rfl, regs.bl_refl _, rfl, hJ.out⟩
        · refine regs.StepOK.plain rfl fun L a w1 hh => ?_
          have h53 : a.tmps[53]?.getD undef = .slice (some ⟨qb, qo, none⟩) l2.length u2 := by rw [← Array.getD_eq_getD_getElem?]; exact hh.dep 6 53 (by kernel_rfl) (by kernel_rfl)
          have h54 : a.tmps[54]?.getD undef = .int .i64 (k : Nat) := by rw [← Array.getD_eq_getD_getElem?]; exact hh.dep 7 54 (by kernel_rfl) (by kernel_rfl)
          have hlt := HKL2.out
          have hJ := Lib.hid hh.st
          clear hh
          go_simp
          exact ⟨_, rfl, regs.bl_refl _, rfl, hJ.out⟩
        · refine regs.StepOK.plain rfl fun L a w1 hh => ?_
          have h55 : a.tmps[55]?.getD undef = .pointer (some ⟨qb, (qo + k * 23), none⟩) := by rw [← Array.getD_eq_getD_getElem?]; exact hh.dep 8 55 (by kernel_rfl) (by kernel_rfl)
          have hRG := rg_below HRGq.out hh.rel
          have hRG := rg_below HRGq.out hh.rel
          have hJ := Lib.hid hh.st
          exact wp_load_mid 52 _ rfl qb (qo + k * 23) (by simpa [go_sem] using h55) q.cs _ hRG Try.underlying52 rfl (by kernel_rfl) ⟨_, rfl, regs.bl_refl _, rfl, hJ.out⟩
        · refine regs.StepOK.plain rfl fun L a w1 hh => ?_
          have h51 : a.tmps[51]?.getD undef = .agg (p.cs).toArray := by rw [← Array.getD_eq_getD_getElem?]; exact hh.dep 4 51 (by kernel_rfl) (by kernel_rfl)
          have h56 : a.tmps[56]?.getD undef = .agg (q.cs).toArray := by rw [← Array.getD_eq_getD_getElem?]; exact hh.dep 9 56 (by kernel_rfl) (by kernel_rfl)
          have hC := Lib.hid (HC.out w1 hh.rel)
          have hJ := Lib.hid hh.st
          clear hh
          go_simp
          refine hC.out.mono ?_
          rintro e w9 ⟨rfl, hb9⟩
          exact ⟨_, rfl, hb9, rfl, hJ.out⟩
        · refine regs.StepOK.plain rfl fun L a w1 hh => ?_
          have h57 : a.tmps[57]?.getD undef = .bool false := by rw [← Array.getD_eq_getD_getElem?]; exact hh.dep 10 57 (by kernel_rfl) (by kernel_rfl)
          have hJ := Lib.hid hh.st
          clear hh
          go_simp
          exact ⟨_, rfl, regs.bl_refl _, rfl, hJ.out⟩
        intro L w4 val hL hJ hR hv
        have h58 : val 58 = .bool true := hv 11 58 (by kernel_rfl)
        have HR4 := Lib.hid hR
        clear hv hL hJ hR
        simp only [regs.putAll, List.map_cons, List.map_nil, h58]
        simp only [Act.put, List.setIfInBounds_toArray, List.set_cons_zero, List.set_cons_succ]
        clear h58
        generalize val 47 = v47 at *
        generalize val 48 = v48 at *
        generalize val 49 = v49 at *
        generalize val 50 = v50 at *
        generalize val 51 = v51 at *
        generalize val 52 = v52 at *
        generalize val 53 = v53 at *
        generalize val 54 = v54 at *
        generalize val 55 = v55 at *
        generalize val 56 = v56 at *
        generalize val 57 = v57 at *
        have HB4 : Hid (Below w.heap.size w w4) := HBw.out.trans (HR4.out.mono HBw.out.size)
        go_wp2_with (fail)
        go_ret
        exact AlikeQ.no HNO.out HB4.out
    · obtain rfl : k = l1.length := by omega
      have HF : Hid (v1 = v2) := HALL.out.2 (by have := HK.out; rwa [List.take_length, HL.out, List.take_length] at this)
      have t : decide (l1.length < l1.length) = false := by simp
      have xx : wA.cell? ⟨w.heap.size, 1, none⟩ = some (.slice A1 l1.length u1) := HK1.out.cell 1
      go_wp2_with (fail)
      go_ret
      exact AlikeQ.yes HF.out HBw.out
end Go.Proofs.Ytgadheamldianaa
