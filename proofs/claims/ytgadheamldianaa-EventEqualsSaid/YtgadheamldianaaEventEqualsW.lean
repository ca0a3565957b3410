/-
  EventEquals, walked.
-/
import Derived.Test.YtgadheamldianaaEventMakesW
namespace Go.Proofs.Ytgadheamldianaa
open Go.RowKit pxm imm

theorem evl_cs (k : Int) (A : Option Addr) (l : List OpR) (c : Nat) (x y n : Int) : (⟨k, l.map (·.o), x, y, n⟩ : EV).cs A c = evl k A l.length c x y n := by unfold EV.cs; rw [List.length_map]
theorem build_eo (A : Option Addr) (n c : Nat) (w : World) : (Instr.build 25 #[(1, .slice A n c)]).run Try.prog w = .ok (.agg (evl 0 A n c 0 0 0).toArray) w := by kernel_rfl
theorem alike_l (ka : Int) (A : Option Addr) (l : List OpR) (c : Nat) (xa ya na : Int) (kb : Int) (B : Option Addr) (m : List OpR) (d : Nat) (xb yb nb : Int) (w : World) (h1 : OpsT w A l) (h2 : OpsT w B m) (n1 : l.length ≤ 2000) (n2 : m.length ≤ 2000) :
    Calls Try.prog 9 #[.agg (evl ka A l.length c xa ya na).toArray, .agg (evl kb B m.length d xb yb nb).toArray] w (AlikeQ ((⟨ka, l.map (·.o), xa, ya, na⟩ : EV) = (⟨kb, m.map (·.o), xb, yb, nb⟩ : EV)) w) := by
  have h := alike_ev (⟨ka, l.map (·.o), xa, ya, na⟩ : EV) (⟨kb, m.map (·.o), xb, yb, nb⟩ : EV) A B c d w ⟨l, rfl, OpsB.zero h1⟩ ⟨m, rfl, OpsB.zero h2⟩ (by rw [List.length_map]; exact n1) (by rw [List.length_map]; exact n2)
  rwa [evl_cs, evl_cs] at h
theorem equal_l (ka : Int) (A : Option Addr) (l : List OpR) (c : Nat) (xa ya na : Int) (kb : Int) (B : Option Addr) (m : List OpR) (d : Nat) (xb yb nb : Int) (w : World) (h1 : OpsT w A l) (h2 : OpsT w B m) (n1 : l.length ≤ 2000) (n2 : m.length ≤ 2000) :
    Calls Try.prog 11 #[.agg (evl ka A l.length c xa ya na).toArray, .agg (evl kb B m.length d xb yb nb).toArray] w (SameQ ((⟨ka, l.map (·.o), xa, ya, na⟩ : EV) = (⟨kb, m.map (·.o), xb, yb, nb⟩ : EV)) w) := by
  have h := equal_ev (⟨ka, l.map (·.o), xa, ya, na⟩ : EV) (⟨kb, m.map (·.o), xb, yb, nb⟩ : EV) A B c d w ⟨l, rfl, OpsB.zero h1⟩ ⟨m, rfl, OpsB.zero h2⟩ (by rw [List.length_map]; exact n1) (by rw [List.length_map]; exact n2)
  rwa [evl_cs, evl_cs] at h
theorem eqops_l (A : Option Addr) (l : List OpR) (c : Nat) (B : Option Addr) (m : List OpR) (d : Nat) (w : World) (h1 : OpsT w A l) (h2 : OpsT w B m) (n1 : l.length ≤ 2000) (n2 : m.length ≤ 2000) :
    Calls Try.prog 15 #[.slice A l.length c, .slice B m.length d] w (SameQ (l.map (·.o) = m.map (·.o)) w) := by
  have h := eqops_any (l.map (·.o)) (m.map (·.o)) A B c d w ⟨l, rfl, OpsB.zero h1⟩ ⟨m, rfl, OpsB.zero h2⟩ (by rw [List.length_map]; exact n1) (by rw [List.length_map]; exact n2)
  rwa [List.length_map, List.length_map] at h
theorem bit_of (p : Prop) : ∃ b : Bool, b = true ↔ p := by
  rcases Classical.em p with h | h
  · exact ⟨true, fun _ => h, fun _ => rfl⟩
  · exact ⟨false, (fun e => nomatch e), fun e => absurd e h⟩
theorem AlikeQ.bit {p : Prop} {w w' : World} {e : Ending} (h : AlikeQ p w e w') {b : Bool} (hb : b = true ↔ p) : e = .returned (.int .i64 (bif b then 1 else 0)) ∧ Below w.heap.size w w' := by
  obtain ⟨c, rfl, h1, h2⟩ := h
  have : c = b := Bool.eq_iff_iff.2 (h1.trans hb.symm)
  rw [this]
  exact ⟨rfl, h2⟩
set_option maxHeartbeats 8000000 in
set_option maxRecDepth 100000 in
theorem equals_in (ka : Int) (A : Option Addr) (l : List OpR) (c : Nat) (xa ya na : Int) (kb : Int) (B : Option Addr) (m : List OpR) (d : Nat) (xb yb nb : Int) (w : World) (h1 : OpsR w A l) (f1 : l.length ≤ 1099511627776) (h2 : OpsR w B m) (f2 : m.length ≤ 1099511627776) :
    Calls Try.prog 5 #[.agg (evl ka A l.length c xa ya na).toArray, .agg (evl kb B m.length d xb yb nb).toArray] w fun e w' => e = .returned (.bool true) ∧ Below w.heap.size w w' := by
  have H1 := Lib.hid h1
  have H2 := Lib.hid h2
  have HF := Lib.hid (And.intro f1 f2)
  have HB0 : Hid (Below w.heap.size w ((w.alloc (.cells (evl ka A l.length c xa ya na).toArray 25)).alloc (.cells (evl kb B m.length d xb yb nb).toArray 25))) := ((Below.refl _ _).alloc (Nat.le_refl _) _).alloc (by simp) _
  have HK1 : Hid (Blk ((w.alloc (.cells (evl ka A l.length c xa ya na).toArray 25)).alloc (.cells (evl kb B m.length d xb yb nb).toArray 25)) w.heap.size (evl ka A l.length c xa ya na)) := (blk_new w (evl ka A l.length c xa ya na) _).alloc _
  have HK2 : Hid (Blk ((w.alloc (.cells (evl ka A l.length c xa ya na).toArray 25)).alloc (.cells (evl kb B m.length d xb yb nb).toArray 25)) (w.heap.size + 1) (evl kb B m.length d xb yb nb)) := blk_at (w.alloc _) _ (by simp) (evl kb B m.length d xb yb nb) _
  clear h1 h2 f1 f2
  go_enter Try.func5, Try.ntmps5
  go_upto_region 1 with (fail)
  generalize ((w.alloc (.cells (evl ka A l.length c xa ya na).toArray 25)).alloc (.cells (evl kb B m.length d xb yb nb).toArray 25)) = w0 at *
  have x1 : w0.cell? ⟨w.heap.size, 1, none⟩ = some (.slice A l.length c) := HK1.out.cell 1
  have y1 : w0.cell? ⟨w.heap.size + 1, 1, none⟩ = some (.slice B m.length d) := HK2.out.cell 1
  have i1 := HK1.out.inside
  have i2 := HK2.out.inside
  have HT := Lib.hid (tr_two (c := c) (d := d) (H1.out.below HB0.out) (H2.out.below HB0.out) HF.out.1 HF.out.2)
  have HBa : Hid (Below w.heap.size w (w0.alloc (.cells #[.slice A l.length c, .slice B m.length d] tOps))) := HB0.out.alloc HB0.out.size _
  have HK1' := Lib.hid (HK1.out.alloc (.cells #[.slice A l.length c, .slice B m.length d] tOps))
  have HK2' := Lib.hid (HK2.out.alloc (.cells #[.slice A l.length c, .slice B m.length d] tOps))
  clear HK1 HK2 HB0
  have HK1 := HK1'
  have HK2 := HK2'
  clear HK1' HK2'
  go_wp2_with (first | ((with_reducible show wpList _ _ _ (Oper.mk _ (Op.buildSlice _ _ _) _ _ _ _ :: _) _ _); refine wpl_bs _ _ _ rfl rfl (by simp [go_sem]) (bs_opl2 A B l.length m.length c d _) ?_))
  generalize w0.alloc (.cells #[.slice A l.length c, .slice B m.length d] tOps) = w2 at *
  generalize w0.heap.size = b1 at *
  clear x1 y1 i1 i2
  have HC := Lib.hid (size_law _ _ 2 w2 HT.out)
  unfold SizeQ at HC
  refine HC.out.mono ?_
  rintro e w4 ⟨n, rfl, hfit, -, hb⟩
  have HB4 : Hid (Below w.heap.size w w4) := HBa.out.trans (hb.mono HBa.out.size)
  have HFI := Lib.hid hfit
  have HK1' := Lib.hid (HK1.out.below' hb)
  have HK2' := Lib.hid (HK2.out.below' hb)
  clear hb hfit HC HT HBa HK1 HK2
  have HK1 := HK1'
  have HK2 := HK2'
  clear HK1' HK2'
  by_cases hn : n < 0
  · have t : decide (n < 0) = true := decide_eq_true hn
    clear hn
    have HC := Lib.hid (awake_any w4)
    go_wp2_with (fail)
    refine HC.out.mono ?_
    rintro e w5 ⟨rfl, hb⟩
    have HB5 : Hid (Below w.heap.size w w5) := HB4.out.trans (hb.mono HB4.out.size)
    clear hb HC
    go_wp2_with (fail)
    go_ret
    exact ⟨rfl, HB5.out⟩
  have t : decide (n < 0) = false := decide_eq_false hn
  have HFT := Lib.hid (fits_two (HFI.out.1 (by omega)))
  have FA : Hid (∀ W, Below w.heap.size w W → OpsT W A l) := fun W hb => OpsT.of (H1.out.below hb) HFT.out.1
  have FB : Hid (∀ W, Below w.heap.size w W → OpsT W B m) := fun W hb => OpsT.of (H2.out.below hb) HFT.out.2.1
  have HLN : Hid (l.length ≤ 2000 ∧ m.length ≤ 2000) := by have := HFT.out.2.2; exact ⟨by omega, by omega⟩
  clear hn HFI H1 H2 HF HFT
  obtain ⟨bo, hbo⟩ : ∃ b : Bool, b = true ↔ l.map (·.o) = m.map (·.o) := bit_of _
  obtain ⟨bs, hbs⟩ : ∃ b : Bool, b = true ↔ (⟨ka, l.map (·.o), xa, ya, na⟩ : EV) = (⟨kb, m.map (·.o), xb, yb, nb⟩ : EV) := bit_of _
  have HBO := Lib.hid hbo
  have HBS := Lib.hid hbs
  clear hbo hbs
  go_upto_region 3 with (fail)
  clear t
  have x1 : w4.cell? ⟨w.heap.size, 1, none⟩ = some (.slice A l.length c) := HK1.out.cell 1
  have y1 : w4.cell? ⟨w.heap.size + 1, 1, none⟩ = some (.slice B m.length d) := HK2.out.cell 1
  have i1 := HK1.out.inside
  have i2 := HK2.out.inside
  have HC : Hid (Calls Try.prog 9 #[.agg (evl 0 A l.length c 0 0 0).toArray, .agg (evl 0 B m.length d 0 0 0).toArray] w4 fun e w' => e = .returned (.int .i64 (bif bo then 1 else 0)) ∧ Below w4.heap.size w4 w') := (alike_l 0 A l c 0 0 0 0 B m d 0 0 0 w4 (FA.out _ HB4.out) (FB.out _ HB4.out) HLN.out.1 HLN.out.2).mono fun _ _ h => h.bit (HBO.out.trans ⟨fun h => by rw [h], fun h => congrArg EV.os h⟩)
  go_wp2_with (first | ((with_reducible show wpList _ _ _ (Oper.mk (some 17) (Op.build _ _) _ _ _ _ :: _) _ _); refine wpl_build _ _ rfl rfl (by simp [go_sem]) (build_eo A l.length c _) ?_) | ((with_reducible show wpList _ _ _ (Oper.mk (some 20) (Op.build _ _) _ _ _ _ :: _) _ _); refine wpl_build _ _ rfl rfl (by simp [go_sem]) (build_eo B m.length d _) ?_))
  refine HC.out.mono ?_
  rintro e w5 ⟨rfl, hb⟩
  have HB5 : Hid (Below w.heap.size w w5) := HB4.out.trans (hb.mono HB4.out.size)
  have HK1' := Lib.hid (HK1.out.below' hb)
  have HK2' := Lib.hid (HK2.out.below' hb)
  clear hb HC HB4 HK1 HK2
  have HK1 := HK1'
  have HK2 := HK2'
  clear HK1' HK2'
  clear x1 y1 i1 i2
  have HC : Hid (Calls Try.prog 9 #[.agg (evl ka A l.length c xa ya na).toArray, .agg (evl kb B m.length d xb yb nb).toArray] w5 fun e w' => e = .returned (.int .i64 (bif bs then 1 else 0)) ∧ Below w5.heap.size w5 w') := (alike_l ka A l c xa ya na kb B m d xb yb nb w5 (FA.out _ HB5.out) (FB.out _ HB5.out) HLN.out.1 HLN.out.2).mono fun _ _ h => h.bit HBS.out
  have q1 : ((bif bo then (1 : Int) else 0) == 1) = bo := by cases bo <;> rfl
  have q2 : ((bif bs then (1 : Int) else 0) == 1) = bs := by cases bs <;> rfl
  go_wp2_with (first | ((with_reducible show wpList _ _ _ (Oper.mk _ (Op.load _ _) _ _ _ _ :: _) _ _); refine wpl_take 25 _ rfl rfl _ 0 rfl _ HK1.out (evl ka A l.length c xa ya na) rfl _ Try.underlying25 rfl (by kernel_rfl) ?_) | ((with_reducible show wpList _ _ _ (Oper.mk _ (Op.load _ _) _ _ _ _ :: _) _ _); refine wpl_take 25 _ rfl rfl _ 0 rfl _ HK2.out (evl kb B m.length d xb yb nb) rfl _ Try.underlying25 rfl (by kernel_rfl) ?_))
  refine HC.out.mono ?_
  rintro e w6 ⟨rfl, hb⟩
  have HB6 : Hid (Below w.heap.size w w6) := HB5.out.trans (hb.mono HB5.out.size)
  have HK1' := Lib.hid (HK1.out.below' hb)
  have HK2' := Lib.hid (HK2.out.below' hb)
  clear hb HC HB5 HK1 HK2
  have HK1 := HK1'
  have HK2 := HK2'
  clear HK1' HK2'
  have HC : Hid (Calls Try.prog 11 #[.agg (evl ka A l.length c xa ya na).toArray, .agg (evl kb B m.length d xb yb nb).toArray] w6 fun e w' => e = .returned (.bool bs) ∧ Below w6.heap.size w6 w') := (equal_l ka A l c xa ya na kb B m d xb yb nb w6 (FA.out _ HB6.out) (FB.out _ HB6.out) HLN.out.1 HLN.out.2).mono fun _ _ h => h.told HBS.out
  go_wp2_with (first | ((with_reducible show wpList _ _ _ (Oper.mk _ (Op.load _ _) _ _ _ _ :: _) _ _); refine wpl_take 25 _ rfl rfl _ 0 rfl _ HK1.out (evl ka A l.length c xa ya na) rfl _ Try.underlying25 rfl (by kernel_rfl) ?_) | ((with_reducible show wpList _ _ _ (Oper.mk _ (Op.load _ _) _ _ _ _ :: _) _ _); refine wpl_take 25 _ rfl rfl _ 0 rfl _ HK2.out (evl kb B m.length d xb yb nb) rfl _ Try.underlying25 rfl (by kernel_rfl) ?_))
  refine HC.out.mono ?_
  rintro e w7 ⟨rfl, hb⟩
  have HB7 : Hid (Below w.heap.size w w7) := HB6.out.trans (hb.mono HB6.out.size)
  have HK1' := Lib.hid (HK1.out.below' hb)
  have HK2' := Lib.hid (HK2.out.below' hb)
  clear hb HC HB6 HK1 HK2
  have HK1 := HK1'
  have HK2 := HK2'
  clear HK1' HK2'
  have q3 : (bs == bs) = true := by simp
  have q4 : (bo == bo) = true := by simp
  have HC : Hid (Calls Try.prog 11 #[.agg (evl kb B m.length d xb yb nb).toArray, .agg (evl ka A l.length c xa ya na).toArray] w7 fun e w' => e = .returned (.bool bs) ∧ Below w7.heap.size w7 w') := (equal_l kb B m d xb yb nb ka A l c xa ya na w7 (FB.out _ HB7.out) (FA.out _ HB7.out) HLN.out.2 HLN.out.1).mono fun _ _ h => h.told (HBS.out.trans ⟨fun h => h.symm, fun h => h.symm⟩)
  go_wp2_with (first | ((with_reducible show wpList _ _ _ (Oper.mk _ (Op.load _ _) _ _ _ _ :: _) _ _); refine wpl_take 25 _ rfl rfl _ 0 rfl _ HK1.out (evl ka A l.length c xa ya na) rfl _ Try.underlying25 rfl (by kernel_rfl) ?_) | ((with_reducible show wpList _ _ _ (Oper.mk _ (Op.load _ _) _ _ _ _ :: _) _ _); refine wpl_take 25 _ rfl rfl _ 0 rfl _ HK2.out (evl kb B m.length d xb yb nb) rfl _ Try.underlying25 rfl (by kernel_rfl) ?_))
  refine HC.out.mono ?_
  rintro e w8 ⟨rfl, hb⟩
  have HB8 : Hid (Below w.heap.size w w8) := HB7.out.trans (hb.mono HB7.out.size)
  have HK1' := Lib.hid (HK1.out.below' hb)
  have HK2' := Lib.hid (HK2.out.below' hb)
  clear hb HC HB7 HK1 HK2
  have HK1 := HK1'
  have HK2 := HK2'
  clear HK1' HK2'
  have x1 : w8.cell? ⟨w.heap.size, 1, none⟩ = some (.slice A l.length c) := HK1.out.cell 1
  have y1 : w8.cell? ⟨w.heap.size + 1, 1, none⟩ = some (.slice B m.length d) := HK2.out.cell 1
  have i1 := HK1.out.inside
  have i2 := HK2.out.inside
  have HC : Hid (Calls Try.prog 15 #[.slice A l.length c, .slice B m.length d] w8 fun e w' => e = .returned (.bool bo) ∧ Below w8.heap.size w8 w') := (eqops_l A l c B m d w8 (FA.out _ HB8.out) (FB.out _ HB8.out) HLN.out.1 HLN.out.2).mono fun _ _ h => h.told HBO.out
  go_wp2_with (fail)
  refine HC.out.mono ?_
  rintro e w9 ⟨rfl, hb⟩
  have HB9 : Hid (Below w.heap.size w w9) := HB8.out.trans (hb.mono HB8.out.size)
  have HK1' := Lib.hid (HK1.out.below' hb)
  have HK2' := Lib.hid (HK2.out.below' hb)
  clear hb HC HB8 HK1 HK2
  have HK1 := HK1'
  have HK2 := HK2'
  clear HK1' HK2'
  clear x1 y1 i1 i2
  have HC : Hid (Calls Try.prog 11 #[.agg (evl ka A l.length c xa ya na).toArray, .agg (evl ka A l.length c xa ya na).toArray] w9 fun e w' => e = .returned (.bool true) ∧ Below w9.heap.size w9 w') := (equal_l ka A l c xa ya na ka A l c xa ya na w9 (FA.out _ HB9.out) (FA.out _ HB9.out) HLN.out.1 HLN.out.1).mono fun _ _ h => h.told ⟨fun _ => rfl, fun _ => rfl⟩
  go_wp2_with (first | ((with_reducible show wpList _ _ _ (Oper.mk _ (Op.load _ _) _ _ _ _ :: _) _ _); refine wpl_take 25 _ rfl rfl _ 0 rfl _ HK1.out (evl ka A l.length c xa ya na) rfl _ Try.underlying25 rfl (by kernel_rfl) ?_) | ((with_reducible show wpList _ _ _ (Oper.mk _ (Op.load _ _) _ _ _ _ :: _) _ _); refine wpl_take 25 _ rfl rfl _ 0 rfl _ HK2.out (evl kb B m.length d xb yb nb) rfl _ Try.underlying25 rfl (by kernel_rfl) ?_))
  refine HC.out.mono ?_
  rintro e w10 ⟨rfl, hb⟩
  have HB10 : Hid (Below w.heap.size w w10) := HB9.out.trans (hb.mono HB9.out.size)
  have HK1' := Lib.hid (HK1.out.below' hb)
  have HK2' := Lib.hid (HK2.out.below' hb)
  clear hb HC HB9 HK1 HK2
  have HK1 := HK1'
  have HK2 := HK2'
  clear HK1' HK2'
  have HC := Lib.hid (awake_any w10)
  go_wp2_with (fail)
  refine HC.out.mono ?_
  rintro e w11 ⟨rfl, hb⟩
  have HB11 : Hid (Below w.heap.size w w11) := HB10.out.trans (hb.mono HB10.out.size)
  have HK1' := Lib.hid (HK1.out.below' hb)
  have HK2' := Lib.hid (HK2.out.below' hb)
  clear hb HC HB10 HK1 HK2
  have HK1 := HK1'
  have HK2 := HK2'
  clear HK1' HK2'
  go_wp2_with (fail)
  go_ret
  exact ⟨rfl, HB11.out⟩
end Go.Proofs.Ytgadheamldianaa
