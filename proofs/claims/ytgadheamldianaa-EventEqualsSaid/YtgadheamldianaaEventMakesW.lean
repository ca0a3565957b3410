/-
  EventMakes, walked.
-/
import Derived.Test.YtgadheamldianaaEvX
namespace Go.Proofs.Ytgadheamldianaa
open Go.RowKit pxm imm

abbrev tOpss : TypeId := 27
theorem bs_opl1 (A : Option Addr) (n c : Nat) (w : World) : (Instr.buildSlice tOpss 1 #[(0, .slice A n c)]).run Try.prog w = .ok (.slice (some ⟨w.heap.size, 0, none⟩) 1 1) (w.alloc (.cells #[.slice A n c] tOps)) := by kernel_rfl
theorem bs_opl2 (A B : Option Addr) (n m c d : Nat) (w : World) : (Instr.buildSlice tOpss 2 #[(0, .slice A n c), (1, .slice B m d)]).run Try.prog w = .ok (.slice (some ⟨w.heap.size, 0, none⟩) 2 2) (w.alloc (.cells #[.slice A n c, .slice B m d] tOps)) := by kernel_rfl
theorem tr_one {w : World} {A : Option Addr} {l : List OpR} {c : Nat} (h : OpsR w A l) (hf : l.length ≤ 1099511627776) : TrAt (w.alloc (.cells #[.slice A l.length c] tOps)) (some ⟨w.heap.size, 0, none⟩) [⟨A, c, l⟩] :=
  ⟨srow_new (enc := OpL.cs) OpL.cs_len w [⟨A, c, l⟩] tOps rfl, (fun q hq => by rw [List.mem_singleton.1 hq]; exact h.below ((Below.refl _ _).alloc (Nat.le_refl _) _)), (fun q hq => by rw [List.mem_singleton.1 hq]; exact hf), by simp⟩
theorem tr_two {w : World} {A B : Option Addr} {l m : List OpR} {c d : Nat} (h : OpsR w A l) (k : OpsR w B m) (hf : l.length ≤ 1099511627776) (kf : m.length ≤ 1099511627776) : TrAt (w.alloc (.cells #[.slice A l.length c, .slice B m.length d] tOps)) (some ⟨w.heap.size, 0, none⟩) [⟨A, c, l⟩, ⟨B, d, m⟩] := by
  have hb : Below w.heap.size w (w.alloc (.cells #[.slice A l.length c, .slice B m.length d] tOps)) := (Below.refl _ _).alloc (Nat.le_refl _) _
  have two : ∀ q ∈ [(⟨A, c, l⟩ : OpL), ⟨B, d, m⟩], q = ⟨A, c, l⟩ ∨ q = ⟨B, d, m⟩ := fun q hq => by simpa using hq
  refine ⟨srow_new (enc := OpL.cs) OpL.cs_len w [⟨A, c, l⟩, ⟨B, d, m⟩] tOps rfl, fun q hq => ?_, fun q hq => ?_, by simp⟩
  · rcases two q hq with rfl | rfl
    · exact h.below hb
    · exact k.below hb
  · rcases two q hq with rfl | rfl
    · exact hf
    · exact kf
theorem fits_one {A : Option Addr} {l : List OpR} {c : Nat} (h : fits [⟨A, c, l⟩]) : (∀ q ∈ l, q.o.lk.l.length ≤ 300) ∧ l.length ≤ 120 := ⟨h.1 ⟨A, c, l⟩ (by simp), by have := h.2.2; simpa [total] using this⟩
theorem fits_two {A B : Option Addr} {l m : List OpR} {c d : Nat} (h : fits [⟨A, c, l⟩, ⟨B, d, m⟩]) : (∀ q ∈ l, q.o.lk.l.length ≤ 300) ∧ (∀ q ∈ m, q.o.lk.l.length ≤ 300) ∧ l.length ≤ 120 ∧ m.length ≤ 120 :=
  ⟨h.1 ⟨A, c, l⟩ (by simp), h.1 ⟨B, d, m⟩ (by simp), by have := h.2.2; simp [total] at this; omega, by have := h.2.2; simp [total] at this; omega⟩
theorem AlikeQ.one {p : Prop} {w w' : World} {e : Ending} (h : AlikeQ p w e w') (hp : p) : e = .returned (.int .i64 1) ∧ Below w.heap.size w w' := by
  obtain ⟨b, rfl, h1, h2⟩ := h
  rw [h1.2 hp]
  exact ⟨rfl, h2⟩
theorem AlikeQ.nought {p : Prop} {w w' : World} {e : Ending} (h : AlikeQ p w e w') (hp : ¬ p) : e = .returned (.int .i64 0) ∧ Below w.heap.size w w' := by
  obtain ⟨b, rfl, h1, h2⟩ := h
  cases b with
  | true => exact absurd (h1.1 rfl) hp
  | false => exact ⟨rfl, h2⟩
set_option maxHeartbeats 8000000 in
set_option maxRecDepth 100000 in
theorem makes_in (A : Option Addr) (l : List OpR) (c : Nat) (at_ : Int × Int) (kd : Int) (w : World) (h : OpsR w A l) (hf : l.length ≤ 1099511627776) (_k1 : -9223372036854775808 ≤ kd) (_k2 : kd ≤ 9223372036854775807) :
    Calls Try.prog 4 #[.slice A l.length c, .agg #[.int .i64 at_.1, .int .i64 at_.2], .int .i64 kd] w fun e w' => e = .returned (.bool true) ∧ Below w.heap.size w w' := by
  obtain ⟨x, y⟩ := at_
  simp only
  have HO := Lib.hid h
  have HF := Lib.hid hf
  have HB0 : Hid (Below w.heap.size w (w.alloc (.cells #[.int .i64 x, .int .i64 y] 34))) := (Below.refl _ _).alloc (Nat.le_refl _) _
  have HK0 : Hid (Blk (w.alloc (.cells #[.int .i64 x, .int .i64 y] 34)) w.heap.size [.int .i64 x, .int .i64 y]) := blk_new w [.int .i64 x, .int .i64 y] _
  clear h hf
  go_enter Try.func4, Try.ntmps4
  go_upto_region 1 with (fail)
  generalize w.alloc (.cells #[.int .i64 x, .int .i64 y] 34) = w0 at *
  have x0 : w0.cell? ⟨w.heap.size, 0, none⟩ = some (.int .i64 x) := HK0.out.cell 0
  have x1 : w0.cell? ⟨w.heap.size, 1, none⟩ = some (.int .i64 y) := HK0.out.cell 1
  have i0 := HK0.out.inside
  go_quiet (fail)
  have HB1 : Hid (Below w.heap.size w (w0.drewN nq)) := Below.drewN' HB0.out nq
  generalize w0.drewN nq = w1 at *
  have HO1 := Lib.hid (HO.out.below HB1.out)
  have HT := Lib.hid (tr_one (c := c) HO1.out HF.out)
  have HB2 : Hid (Below w.heap.size w (w1.alloc (.cells #[.slice A l.length c] tOps))) := HB1.out.alloc HB1.out.size _
  clear x0 x1 i0 HK0 HB0 HO1
  go_wp2_with (first | ((with_reducible show wpList _ _ _ (Oper.mk _ (Op.buildSlice _ _ _) _ _ _ _ :: _) _ _); refine wpl_bs _ _ _ rfl rfl (by simp [go_sem]) (bs_opl1 A l.length c _) ?_))
  generalize w1.alloc (.cells #[.slice A l.length c] tOps) = w2 at *
  generalize w1.heap.size = b1 at *
  have HC := Lib.hid (size_law _ _ 1 w2 HT.out)
  unfold SizeQ at HC
  refine HC.out.mono ?_
  rintro e w3 ⟨n, rfl, hfit, -, hb⟩
  have HB3 : Hid (Below w.heap.size w w3) := HB2.out.trans (hb.mono HB2.out.size)
  have HFI := Lib.hid hfit
  clear hb hfit HC HT HB2 HB1
  by_cases hn : n < 0
  · have t : decide (n < 0) = true := decide_eq_true hn
    clear hn
    have HC := Lib.hid (awake_any w3)
    go_wp2_with (fail)
    refine HC.out.mono ?_
    rintro e w4 ⟨rfl, hb⟩
    have HB4 : Hid (Below w.heap.size w w4) := HB3.out.trans (hb.mono HB3.out.size)
    clear hb HC
    go_wp2_with (fail)
    go_ret
    exact ⟨rfl, HB4.out⟩
  have t : decide (n < 0) = false := decide_eq_false hn
  have HFT := Lib.hid (fits_one (HFI.out.1 (by omega)))
  have HT3 : Hid (OpsT w3 A l) := OpsT.of (HO.out.below HB3.out) HFT.out.1
  have HLN : Hid (l.length ≤ 2000) := by have := HFT.out.2; show _ ≤ _; omega
  clear hn HFI HO HF
  go_upto_region 5 with (fail)
  obtain ⟨nn, hnn⟩ : ∃ nn, IntKind.u64.wrap y = nn := ⟨_, rfl⟩
  try rw [hnn]
  clear hnn t
  have HC := Lib.hid (of_any l A c w3 HT3.out HLN.out)
  unfold EvQ at HC
  go_wp2_with (fail)
  refine HC.out.mono ?_
  rintro e w4 ⟨A4, c4, rfl, ho, hb⟩
  have HB4 : Hid (Below w.heap.size w w4) := HB3.out.trans (hb.mono HB3.out.size)
  have HC : Hid (Calls Try.prog 9 #[.agg ((⟨1, l.map (·.o), 0, 0, 0⟩ : EV).cs A4 c4).toArray, .agg (evl 1 A l.length c 0 0 0).toArray] w4 fun e w' => e = .returned (.int .i64 1) ∧ Below w4.heap.size w4 w') := by
    have h := alike_ev ⟨1, l.map (·.o), 0, 0, 0⟩ ⟨1, l.map (·.o), 0, 0, 0⟩ A4 A c4 c w4 (ho.ge (Nat.zero_le _)) ⟨l, rfl, OpsB.zero (HT3.out.below hb)⟩ (by rw [List.length_map]; exact HLN.out) (by rw [List.length_map]; exact HLN.out)
    have e1 : (EV.cs ⟨1, l.map (·.o), 0, 0, 0⟩ A c) = evl 1 A l.length c 0 0 0 := by unfold EV.cs; rw [List.length_map]
    rw [e1] at h
    exact h.mono fun _ _ h => h.one rfl
  clear ho hb HB3 HT3 HFT HLN
  go_wp2_with (first | ((with_reducible show wpList _ _ _ (Oper.mk _ (Op.build _ _) _ _ _ _ :: _) _ _); refine wpl_build _ _ rfl rfl (by simp [go_sem]) (build_e1 A l.length c _) ?_))
  refine HC.out.mono ?_
  rintro e w5 ⟨rfl, hb⟩
  have HB5 : Hid (Below w.heap.size w w5) := HB4.out.trans (hb.mono HB4.out.size)
  clear hb HC HB4
  have HC := Lib.hid (at_any x y w5)
  unfold EvQ at HC
  go_wp2_with (fail)
  refine HC.out.mono ?_
  rintro e w6 ⟨A6, c6, rfl, ho, hb⟩
  have HB6 : Hid (Below w.heap.size w w6) := HB5.out.trans (hb.mono HB5.out.size)
  have HC : Hid (Calls Try.prog 9 #[.agg ((⟨2, [], x, y, 0⟩ : EV).cs A6 c6).toArray, .agg (evl 2 none 0 0 x y 0).toArray] w6 fun e w' => e = .returned (.int .i64 1) ∧ Below w6.heap.size w6 w') := (alike_ev ⟨2, [], x, y, 0⟩ ⟨2, [], x, y, 0⟩ A6 none c6 0 w6 (ho.ge (Nat.zero_le _)) (OpsE.no _ _) (Nat.zero_le _) (Nat.zero_le _)).mono fun _ _ h => h.one rfl
  clear ho hb HB5
  go_wp2_with (first | ((with_reducible show wpList _ _ _ (Oper.mk _ (Op.build _ _) _ _ _ _ :: _) _ _); refine wpl_build _ _ rfl rfl (by simp [go_sem]) (build_e2 x y _) ?_))
  refine HC.out.mono ?_
  rintro e w7 ⟨rfl, hb⟩
  have HB7 : Hid (Below w.heap.size w w7) := HB6.out.trans (hb.mono HB6.out.size)
  clear hb HC HB6
  have HC := Lib.hid (number_any kd nn w7)
  unfold EvQ at HC
  go_wp2_with (fail)
  refine HC.out.mono ?_
  rintro e w8 ⟨A8, c8, rfl, ho, hb⟩
  have HB8 : Hid (Below w.heap.size w w8) := HB7.out.trans (hb.mono HB7.out.size)
  have HC : Hid (Calls Try.prog 9 #[.agg ((⟨kd, [], 0, 0, nn⟩ : EV).cs A8 c8).toArray, .agg (evl kd none 0 0 0 0 nn).toArray] w8 fun e w' => e = .returned (.int .i64 1) ∧ Below w8.heap.size w8 w') := (alike_ev ⟨kd, [], 0, 0, nn⟩ ⟨kd, [], 0, 0, nn⟩ A8 none c8 0 w8 (ho.ge (Nat.zero_le _)) (OpsE.no _ _) (Nat.zero_le _) (Nat.zero_le _)).mono fun _ _ h => h.one rfl
  clear ho hb HB7
  go_wp2_with (first | ((with_reducible show wpList _ _ _ (Oper.mk _ (Op.build _ _) _ _ _ _ :: _) _ _); refine wpl_build _ _ rfl rfl (by simp [go_sem]) (build_e3 kd nn _) ?_))
  refine HC.out.mono ?_
  rintro e w9 ⟨rfl, hb⟩
  have HB9 : Hid (Below w.heap.size w w9) := HB8.out.trans (hb.mono HB8.out.size)
  clear hb HC HB8
  have HC := Lib.hid (awake_any w9)
  go_wp2_with (fail)
  refine HC.out.mono ?_
  rintro e w10 ⟨rfl, hb⟩
  have HB10 : Hid (Below w.heap.size w w10) := HB9.out.trans (hb.mono HB9.out.size)
  clear hb HC HB9
  go_wp2_with (fail)
  go_ret
  exact ⟨rfl, HB10.out⟩
end Go.Proofs.Ytgadheamldianaa
