/-
  A disk and the document's beside it: has it just what the document's has?
-/
import Derived.Test.YtpnhgongjfknbaaRfH
import Derived.Deep.RegionHeld3
namespace Go.Proofs.Ytpnhgongjfknbaa
open Go.RowKit omap

/-- a disk, and the document's, at block pb -/
structure PlayAt (w : World) (pb b : Nat) (S : List Nat) (x : Rf) : Prop where
  blk : Blk w pb [.pointer (some ⟨b, 0, none⟩), .slice x.A x.d.fs.length x.c, .int .i64 (x.d.cap : Nat), .int .i64 (x.d.p.left : Nat), .int .i64 (x.d.p.steps : Nat), .bool x.d.p.down]
  disk : DiskAt w b S x.d
  ok : x.ok w
  apart : pb ∉ S
  row : 0 < x.d.fs.length → ∀ a, x.A = some a → a.block ∉ S ∧ a.block ≠ pb
theorem PlayAt.below {w w' : World} {pb b : Nat} {S : List Nat} {x : Rf} (h : PlayAt w pb b S x) (hb : Below w.heap.size w w') : PlayAt w' pb b S x :=
  ⟨h.blk.stays (hb.block _ h.blk.inside), h.disk.below hb, h.ok.below hb, h.apart, h.row⟩
theorem below_drewN (w : World) (n : Nat) : Below w.heap.size w (w.drewN n) := ⟨rfl, rfl, rfl, Nat.le_refl _, fun _ _ => rfl⟩
section
variable {w : World} {b : Nat} {S : List Nat} {d : Dk}
theorem down_q (h : DiskAt w b S d) (n : Nat) : Calls Try.prog 20 #[.pointer (some ⟨b, 0, none⟩)] (w.drewN n) fun e w' => e = .returned (.bool d.p.down) ∧ ∃ m, w' = w.drewN m :=
  (down_cmd (h.below (below_drewN w n))).mono fun _ _ ⟨h1, h2⟩ => ⟨h1, n, h2.symm⟩
theorem steps_q (h : DiskAt w b S d) (n : Nat) : Calls Try.prog 29 #[.pointer (some ⟨b, 0, none⟩)] (w.drewN n) fun e w' => e = .returned (.int .i64 (d.p.steps : Nat)) ∧ ∃ m, w' = w.drewN m :=
  (steps_cmd (h.below (below_drewN w n))).mono fun _ _ ⟨h1, h2⟩ => ⟨h1, n, h2.symm⟩
theorem capacity_q (h : DiskAt w b S d) (n : Nat) : Calls Try.prog 34 #[.pointer (some ⟨b, 0, none⟩)] (w.drewN n) fun e w' => e = .returned (.int .i64 (d.cap : Nat)) ∧ ∃ m, w' = w.drewN m :=
  (capacity_cmd (h.below (below_drewN w n))).mono fun _ _ ⟨h1, h2⟩ => ⟨h1, n, h2.symm⟩
end
set_option maxRecDepth 100000 in
set_option maxHeartbeats 8000000 in
theorem is_any (w : World) (pb b : Nat) (S : List Nat) (x : Rf) (h : PlayAt w pb b S x) (hn : ∀ y ∈ x.d.fs, y.1.length ≤ 1000) :
    Calls Try.prog 12 #[.pointer (some ⟨pb, 0, none⟩)] w fun e w' => e = .returned (.bool true) ∧ Below w.heap.size w w' := by
  have HP := Lib.hid h
  have HN := Lib.hid hn
  have hfew := h.ok.few
  obtain ⟨A, c, d⟩ := x
  obtain ⟨⟨steps, left, down⟩, cap, fs⟩ := d
  have hb := h.blk
  simp only at hb hfew
  have p0 : w.cell? ⟨pb, 0, none⟩ = some (.pointer (some ⟨b, 0, none⟩)) := hb.cell 0
  have p1 : w.cell? ⟨pb, 1, none⟩ = some (.slice A fs.length c) := hb.cell 1
  have p2 : w.cell? ⟨pb, 2, none⟩ = some (.int .i64 (cap : Nat)) := hb.cell 2
  have p3 : w.cell? ⟨pb, 3, none⟩ = some (.int .i64 (left : Nat)) := hb.cell 3
  have p4 : w.cell? ⟨pb, 4, none⟩ = some (.int .i64 (steps : Nat)) := hb.cell 4
  have p5 : w.cell? ⟨pb, 5, none⟩ = some (.bool down) := hb.cell 5
  have hpl := hb.inside
  clear h hn hb
  go_enter Try.func12, Try.ntmps12
  go_wp2_with (fail)
  go_region
  have hBA : Below w.heap.size w (w.alloc (.cells #[.slice A fs.length c, .int .i64 (cap : Nat), .int .i64 (left : Nat), .int .i64 (steps : Nat), .bool down] 32)).drew := ((Below.refl _ _).alloc (Nat.le_refl _) _).drew
  have bD : Blk (w.alloc (.cells #[.slice A fs.length c, .int .i64 (cap : Nat), .int .i64 (left : Nat), .int .i64 (steps : Nat), .bool down] 32)).drew w.heap.size [.slice A fs.length c, .int .i64 (cap : Nat), .int .i64 (left : Nat), .int .i64 (steps : Nat), .bool down] := blk_new w _ _
  have hPA := HP.out.below hBA
  have hzA : w.heap.size < (w.alloc (.cells #[.slice A fs.length c, .int .i64 (cap : Nat), .int .i64 (left : Nat), .int .i64 (steps : Nat), .bool down] 32)).drew.heap.size := bD.inside
  have HPA := Lib.hid hPA
  have HBA := Lib.hid hBA
  clear hPA hBA p0 p1 p2 p3 p4 p5 hpl HP
  generalize (w.alloc (.cells #[.slice A fs.length c, .int .i64 (cap : Nat), .int .i64 (left : Nat), .int .i64 (steps : Nat), .bool down] 32)).drew = wA at *
  have d0 : wA.cell? ⟨w.heap.size, 0, none⟩ = some (.slice A fs.length c) := bD.cell 0
  have d1 : wA.cell? ⟨w.heap.size, 1, none⟩ = some (.int .i64 (cap : Nat)) := bD.cell 1
  have d2 : wA.cell? ⟨w.heap.size, 2, none⟩ = some (.int .i64 (left : Nat)) := bD.cell 2
  have d3 : wA.cell? ⟨w.heap.size, 3, none⟩ = some (.int .i64 (steps : Nat)) := bD.cell 3
  have d4 : wA.cell? ⟨w.heap.size, 4, none⟩ = some (.bool down) := bD.cell 4
  have t0 : (down != down) = false := by simp
  have t1 : ((steps : Int) != (steps : Int)) = false := by simp
  have t2 : ((cap : Int) != (cap : Int)) = false := by simp
  go_wp2_with (fail)
  go_quiet ((first | (go_at_call 20; exact down_q HPA.out.disk _) | (go_at_call 29; exact steps_q HPA.out.disk _) | (go_at_call 34; exact capacity_q HPA.out.disk _)))
  have HPQ := Lib.hid (HPA.out.below (below_drewN wA nq))
  have HBQ := Lib.hid (HBA.out.trans ((below_drewN wA nq).mono HBA.out.size))
  have bQ : Blk (wA.drewN nq) w.heap.size [.slice A fs.length c, .int .i64 (cap : Nat), .int .i64 (left : Nat), .int .i64 (steps : Nat), .bool down] := bD.stays rfl
  clear d0 d1 d2 d3 d4 HPA HBA bD t0 t1 t2
  have hzQ : w.heap.size < (wA.drewN nq).heap.size := bQ.inside
  clear hzA
  generalize wA.drewN nq = wQ at *
  have d0 : wQ.cell? ⟨w.heap.size, 0, none⟩ = some (.slice A fs.length c) := bQ.cell 0
  have d4 : wQ.cell? ⟨w.heap.size, 4, none⟩ = some (.bool down) := bQ.cell 4
  have hdr := HPQ.out.disk.rises
  have HRI := Lib.hid hdr
  cases down with
  | true =>
    go_wp2_with (fail)
    refine (list_cmd_down HPQ.out.disk rfl).mono ?_
    rintro r w2 ⟨rfl, rfl⟩
    go_wp2_with (fail)
    refine (read_down HPQ.out.disk rfl ⟨#[97]⟩).mono ?_
    rintro r w2 ⟨rfl, rfl⟩
    go_wp2_with (fail)
    refine (size_down HPQ.out.disk rfl ⟨#[97]⟩ (by decide)).mono ?_
    rintro r w2 ⟨rfl, hb2⟩
    have HP2 := Lib.hid (HPQ.out.below hb2)
    have HB2 := Lib.hid (HBQ.out.trans (hb2.mono HBQ.out.size))
    clear hb2
    go_wp2_with (fail)
    refine (used_cmd HP2.out.disk).mono ?_
    rintro r w3 ⟨rfl, rfl⟩
    simp only [if_true]
    go_wp2_with (fail)
    go_ret
    exact ⟨rfl, HB2.out⟩
  | false =>
    go_wp2_with (fail)
    refine (list_cmd HPQ.out.disk rfl).mono ?_
    rintro r w2 ⟨la, lc, rfl, hlc, hlm, hlr, hln, hb2⟩
    simp only at hlc hlr ⊢
    have HP2 := Lib.hid (HPQ.out.below hb2)
    have HB2 := Lib.hid (HBQ.out.trans (hb2.mono HBQ.out.size))
    have HLR := Lib.hid hlr
    have HLL : Hid (fs.length ≤ lc ∧ lc ≤ maxLen) := ⟨hlc, hlm⟩
    have b2 := bQ.stays (hb2.block _ hzQ)
    have hroom : tot fs ≤ 67108864 := Nat.le_trans HPQ.out.disk.room HPQ.out.disk.few
    have HU := Lib.hid (fun (wx : World) (h : (⟨A, c, ⟨⟨steps, left, false⟩, cap, fs⟩⟩ : Rf).ok wx) => rUsed_ex _ wx h (by simp only; rw [usedN_tot]; omega))
    have HUD := Lib.hid (fun (wx : World) (h : DiskAt wx b S ⟨⟨steps, left, false⟩, cap, fs⟩) => used_cmd h)
    unfold Rf.v at HU
    simp only [usedN_tot, Bool.false_eq_true, if_false] at HU HUD
    obtain ⟨tt, htt⟩ : ∃ tt, tt = tot fs := ⟨_, rfl⟩
    rw [← htt] at HU HUD hroom
    clear hlc hlm hlr hb2 bQ d0 d4 hzQ HPQ HBQ hdr htt hln
    have e0 : w2.cell? ⟨w.heap.size, 0, none⟩ = some (.slice A fs.length c) := b2.cell 0
    have e1 : w2.cell? ⟨w.heap.size, 1, none⟩ = some (.int .i64 (cap : Nat)) := b2.cell 1
    have e2 : w2.cell? ⟨w.heap.size, 2, none⟩ = some (.int .i64 (left : Nat)) := b2.cell 2
    have e3 : w2.cell? ⟨w.heap.size, 3, none⟩ = some (.int .i64 (steps : Nat)) := b2.cell 3
    have e4 : w2.cell? ⟨w.heap.size, 4, none⟩ = some (.bool false) := b2.cell 4
    have hz2 : w.heap.size < w2.heap.size := b2.inside
    have t0 : ((fs.length : Int) != (fs.length : Int)) = false := by simp
    have t1 : ((tt : Int) != (tt : Int)) = false := by simp
    go_wp2_with (fail)
    go_region_held3 (fun w' => w'.cell? ⟨w.heap.size, 0, none⟩ = some (.slice A fs.length c) ∧ w'.cell? ⟨w.heap.size, 1, none⟩ = some (.int .i64 (cap : Nat)) ∧ w'.cell? ⟨w.heap.size, 2, none⟩ = some (.int .i64 (left : Nat)) ∧ w'.cell? ⟨w.heap.size, 3, none⟩ = some (.int .i64 (steps : Nat)) ∧ w'.cell? ⟨w.heap.size, 4, none⟩ = some (.bool false))
      (first | go_keep)
      ((first
        | (go_at_call 30; refine (HUD.out _ (HP2.out.below ((Below.refl _ _).drew)).disk).mono ?_; rintro e w' ⟨rfl, rfl⟩)
        | (go_at_call 30; refine (HUD.out _ (HP2.out.below (((Below.refl _ _).alloc (Nat.le_refl _) _).drew)).disk).mono ?_; rintro e w' ⟨rfl, rfl⟩)
        | (go_at_call 35; refine (HU.out _ (HP2.out.below ((Below.refl _ _).drew)).ok).mono ?_; rintro e w' ⟨rfl, rfl⟩)))
    have hBL : Below w2.heap.size w2 (w2.alloc (.cells #[.slice A fs.length c, .int .i64 (cap : Nat), .int .i64 (left : Nat), .int .i64 (steps : Nat), .bool false] 32)).drew := ((Below.refl _ _).alloc (Nat.le_refl _) _).drew
    have HPL := Lib.hid (HP2.out.below hBL)
    have HBL := Lib.hid (HB2.out.trans (hBL.mono HB2.out.size))
    have HLRL := Lib.hid (HLR.out.below hBL)
    have BL0 := Lib.hid (b2.stays (hBL.block _ hz2))
    clear e0 e1 e2 e3 e4 b2 hBL hz2 HP2 HB2 HLR t0 t1 HU HUD
    generalize (w2.alloc (.cells #[.slice A fs.length c, .int .i64 (cap : Nat), .int .i64 (left : Nat), .int .i64 (steps : Nat), .bool false] 32)).drew = wL at *
    have e0 : wL.cell? ⟨w.heap.size, 0, none⟩ = some (.slice A fs.length c) := BL0.out.cell 0
    go_wp2_with (fail)
    go_loopw [97] (fun i wr => ∃ k : Nat, k ≤ fs.length ∧ i = .int .i64 k ∧ Hid (Below wL.heap.size wL wr)) (fun i _ => fs.length - (intOf i).toNat)
    case atStart => exact ⟨0, Nat.zero_le _, rfl, Below.refl _ _⟩
    case round =>
      obtain ⟨k, hk, rfl, HB⟩ := hrel
      by_cases hlt : k < fs.length
      · have HPR := Lib.hid (HPL.out.below HB.out)
        obtain ⟨rb, off, ra, hcell⟩ := HPR.out.ok.row (by simp only; omega)
        simp only at ra hcell
        subst ra
        obtain ⟨q0, q1, q2⟩ := hcell k hlt
        have hrb : rb < wr.heap.size := World.block_lt_of_cell? wr _ q0
        obtain ⟨lb, lo, rla, hlc⟩ := HLRL.out (by simp only [List.length_map]; omega)
        subst rla
        have l0 := hlc k (by simpa using hlt)
        have hlb : lb < wL.heap.size := World.block_lt_of_cell? wL _ l0
        rw [List.getElem_map] at l0
        have hlook : omap.look fs fs[k].1 = some fs[k].2 := Rises.look_of_mem ord HRI.out (List.getElem_mem hlt)
        have hnl := HN.out fs[k] (List.getElem_mem hlt)
        obtain ⟨nm, hnm⟩ : ∃ nm, nm = fs[k].1 := ⟨_, rfl⟩
        obtain ⟨f, hf⟩ : ∃ f, f = fs[k].2 := ⟨_, rfl⟩
        rw [← hnm] at q0 l0 hlook hnl
        rw [← hf] at q1 q2 hlook
        have HLK : Hid (omap.look fs (⟨nm.toArray⟩ : ByteArray).data.toList = some f) := by show _ = _; simpa using hlook
        have HNL : Hid ((⟨nm.toArray⟩ : ByteArray).size ≤ 1000) := by show _ ≤ _; simpa [ByteArray.size] using hnl
        have HL0 : Hid (wL.cell? ⟨lb, lo + k, none⟩ = some (.string ⟨nm.toArray⟩)) := l0
        have hki : (k : Int) < (fs.length : Int) := by omega
        have hkb : (k : Int) ≤ 1000000 := by omega
        clear hcell hlc hlook hnl hnm hf l0
        go_wp2_with (fail)
        have hB1 : Below wr.heap.size wr (wr.alloc (.cells #[.string ⟨nm.toArray⟩, .string (strOf f.l), .int .i64 (f.s : Nat)] 48)) := (Below.refl _ _).alloc (Nat.le_refl _) _
        have HP1 := Lib.hid (HPR.out.below hB1)
        have HBB1 := Lib.hid (HB.out.trans (hB1.mono HB.out.size))
        refine (read_some HP1.out.disk rfl ⟨nm.toArray⟩ HNL.out f HLK.out).mono ?_
        rintro r w3 ⟨v, rfl, own, hfb, hb3⟩
        obtain ⟨va, vc, rfl, hvp, -, -⟩ := own.part hfb
        have bF1 : Blk (wr.alloc (.cells #[.string ⟨nm.toArray⟩, .string (strOf f.l), .int .i64 (f.s : Nat)] 48)) wr.heap.size [.string ⟨nm.toArray⟩, .string (strOf f.l), .int .i64 (f.s : Nat)] := blk_new wr _ _
        have bF3 := bF1.stays (hb3.block _ bF1.inside)
        have HP3 := Lib.hid (HP1.out.below hb3)
        have HBB3 := Lib.hid (HBB1.out.trans (hb3.mono HBB1.out.size))
        have HVP := Lib.hid hvp
        have n0 : w3.cell? ⟨wr.heap.size, 0, none⟩ = some (.string ⟨nm.toArray⟩) := bF3.cell 0
        have hz3 : wr.heap.size < w3.heap.size := bF3.inside
        have HF3 := Lib.hid bF3
        clear own hfb hb3 hvp bF1 bF3 HP1 HBB1 hB1 q0 q1 q2 hrb HPR
        go_wp2_with (fail)
        refine (size_some HP3.out.disk rfl ⟨nm.toArray⟩ HNL.out f HLK.out).mono ?_
        rintro r w4 ⟨rfl, hb4⟩
        have HBB4 := Lib.hid (HBB3.out.trans (hb4.mono HBB3.out.size))
        have bF4 := HF3.out.stays (hb4.block _ hz3)
        have hvp4 := HVP.out.below hb4
        have hcv : ∀ n, (convert 35 9 (.slice va f.l.length vc)).run Try.prog (w4.drewN n) = .ok (.string (strOf f.l)) (w4.drewN n) := fun n => conv_str _ va f.l vc ((hvp4.below (below_drewN w4 n)).at_)
        have hcv0 := conv_str w4 va f.l vc hvp4.at_
        have n0' : w4.cell? ⟨wr.heap.size, 0, none⟩ = some (.string ⟨nm.toArray⟩) := bF4.cell 0
        have n1' : w4.cell? ⟨wr.heap.size, 1, none⟩ = some (.string (strOf f.l)) := bF4.cell 1
        have n2' : w4.cell? ⟨wr.heap.size, 2, none⟩ = some (.int .i64 (f.s : Nat)) := bF4.cell 2
        have l0' : w4.cell? ⟨lb, lo + k, none⟩ = some (.string ⟨nm.toArray⟩) := (HBB4.out.cell (p := ⟨lb, lo + k, none⟩) hlb).trans HL0.out
        have hz4 : wr.heap.size < w4.heap.size := bF4.inside
        have hlen : (strOf f.l).size = f.l.length := strOf_size _
        have HZ := Lib.hid hlen
        have hsn : ((⟨nm.toArray⟩ : ByteArray).toList != (⟨nm.toArray⟩ : ByteArray).toList) = false := by simp
        have hsd : ((strOf f.l).toList != (strOf f.l).toList) = false := by simp
        have hse : ((f.l.length : Int) != (f.l.length : Int)) = false := by simp
        have hsf : ((f.s : Int) != (f.s : Int)) = false := by simp
        clear n0 hz3 HF3 HP3 HBB3 HVP hb4 bF4 hvp4 HLK HNL HL0
        go_wp2_with (fail)
        go_quiet (fail)
        have HBE := Lib.hid (HBB4.out.trans ((below_drewN w4 nq).mono HBB4.out.size))
        clear hcv hcv0 n0' n1' n2' l0' hz4 hlen HBB4
        generalize w4.drewN nq = wE at *
        go_wp2_with (fail)
        go_roundw
        case rel => exact ⟨k + 1, by omega, by go_num, HBE.out⟩
        case measure => simp [intOf]; omega
      · have hk' : k = fs.length := by omega
        subst hk'
        clear hlt hk
        go_wp2_with (fail)
        go_ret
        exact ⟨rfl, HBL.out.trans (HB.out.mono HBL.out.size)⟩
end Go.Proofs.Ytpnhgongjfknbaa
