import Derived.Test.YtehmblcbccceaaaGreatLSceneManyM
import Derived.ProofKit
namespace Go.Proofs.YtehmblcbccceaaaGreat
open Go.RowKit pxm imm trm Go.Maps
def kZ : ZZ := ⟨4,⟨4,4⟩,fun _ => False⟩
def oneB (b : Nat) : Bset := fun k => k = b
def lop (q : Lk) : Op9 := { Op9.o with k := 7,lk := q }
abbrev lkOf (q : Lk) : Int := lkC q.k q.W q.H q.p q.iw q.ih q.l
theorem build_lop (q : Lk) (A : Option Addr) (c : Nat) (w : World) : (Instr.build 77 #[(0,.int .i64 7),(8,.agg (q.cs A c).toArray)]).run Tryz.prog w = .ok (.agg ((lop q).cs A c).toArray) w := by kernel_rfl
theorem build_lnd (q : Lk) (A : Option Addr) (c : Nat) (w : World) : (Instr.build 72 #[(5,.agg (q.cs A c).toArray)]).run Tryz.prog w = .ok (ndV Mp.o 0 false false Bx.o q.k q.W q.H q.p q.iw q.ih A q.l.length c) w := by kernel_rfl
theorem lop_chk {q : Lk} (h : lkOf q = 0) : (setN Nd.plain (lop q)).chk = 0 := by
  have e : setN Nd.plain (lop q) = { Nd.plain with lk := q } := rfl
  rw [e]
  show ndC Nd.plain.m Nd.plain.op Nd.plain.cl Nd.plain.r (lkOf q) = 0
  rw [h]
  decide
theorem lop_do {q : Lk} (h : lkOf q = 0) (nd : Int → Nd) (ws : Int → Mp) : doS 4 ⟨[],nd,ws⟩ (lop q) = (⟨[],upd nd 0 { nd 0 with lk := q },ws⟩,0) := by
  have e : doS 4 ⟨[],nd,ws⟩ (lop q) = setS ⟨[],nd,ws⟩ (lop q) := rfl
  rw [e]
  unfold setS
  rw [if_neg (show ¬ has (⟨[],nd,ws⟩ : PSc).t (lop q).i = false from (show ¬ has [] 0 = false by decide)),if_neg (by rw [lop_chk h]; simp)]
  rfl
theorem lop_apply {q : Lk} (h : lkOf q = 0) : ∃ y : PSc,applyS 4 setSt PSc.new [lop q] = (y,1,0) ∧ y.t = [] ∧ (y.nd 0).lk = q := by
  obtain ⟨ws',h3⟩ := set_root (upd (fun _ => Nd.plain) 0 { Nd.plain with lk := q }) (fun _ => Mp.one)
  refine ⟨⟨[],upd (fun _ => Nd.plain) 0 { Nd.plain with lk := q },ws'⟩,?_,rfl,by show (upd (fun _ => Nd.plain) 0 { Nd.plain with lk := q } 0).lk = q; rw [upd_same]⟩
  have h1 : allS 4 PSc.new [lop q] = (⟨[],upd (fun _ => Nd.plain) 0 { Nd.plain with lk := q },fun _ => Mp.one⟩,1,0) := by
    unfold PSc.new
    rw [allS_cons,lop_do h,if_neg (by simp)]
    rfl
  unfold applyS
  rw [if_neg (by simp),h1,if_neg (by simp),h3,if_neg (by simp)]
  rfl
theorem opsAt_1 {w : World} {S : Bset} (hS : ∀ k,S k → k < w.heap.size) (r : OpR) (hr : Row eW w r.A r.o.lk.l) (hA : ∀ a,r.A = some a → r.o.lk.l ≠ [] → ¬ S a.block) : OpsAt S (w.alloc (.cells r.cs.toArray 77)) (some ⟨w.heap.size,0,none⟩) [r] :=
  ⟨by have := srow_new (enc := OpR.cs) OpR.cs_len w [r] 77 rfl; simpa using this,fun a e _ hk => by obtain rfl := Option.some.inj e; exact absurd (hS _ hk) (by simp),fun q hq => by
    rw [List.mem_singleton.1 hq]
    exact ⟨Row.below hr ((Below.refl _ _).alloc (Nat.le_refl _) _),hA⟩⟩
set_option maxHeartbeats 4000000 in
set_option maxRecDepth 100000 in
theorem keeps_in (q : Lk) (A : Option Addr) (c : Nat) (i : Int) (w : World) (hp : q.p < 4294967296) (hr : Row eW w A q.l) (hc : q.l.length ≤ c ∧ c ≤ maxLen) (hl : ∀ z ∈ q.l,z < 4294967296) (_ : -9223372036854775808 ≤ i) (_ : i ≤ 9223372036854775807) :
    Calls Tryz.prog 6 #[.agg (q.cs A c).toArray,.int .i64 i] w fun e w' => e = .returned (.bool true) ∧ Below w.heap.size w w' := by
  have HB : Hid (Below w.heap.size w (w.alloc (.cells (q.cs A c).toArray 64))) := (Below.refl _ _).alloc (Nat.le_refl _) _
  have HK : Hid (Blk (w.alloc (.cells (q.cs A c).toArray 64)) w.heap.size (q.cs A c)) := blk_new w (q.cs A c) _
  have HR := Lib.hid hr
  have HP := Lib.hid hp
  have HL := Lib.hid hl
  have hc2 : q.l.length ≤ 9223372036854775807 := by have := hc.2; unfold maxLen at this; omega
  clear hr hp hl hc
  go_enter Tryz.func6,Tryz.ntmps6
  go_upto_region 1 with (fail)
  generalize (w.alloc (.cells (q.cs A c).toArray 64)) = w0 at *
  have c6 : w0.cell? ⟨w.heap.size,6,none⟩ = some (.slice A q.l.length c) := HK.out.cell 6
  have i0 : w.heap.size < w0.heap.size := HK.out.inside
  by_cases h1 : 300 < q.l.length
  · have t1 : decide ((300 : Int) < (q.l.length : Int)) = true := decide_eq_true (by omega)
    have t2 : decide (300 < q.l.length) = true := decide_eq_true h1
    clear h1
    go_wp2_with (fail)
    refine (awake_any _).mono ?_
    rintro e wz ⟨rfl,hbz⟩
    have HBZ := Lib.hid (HB.out.trans (hbz.mono HB.out.size))
    clear hbz
    go_wp2_with (fail)
    go_ret
    exact ⟨rfl,HBZ.out⟩
  have t1 : decide ((300 : Int) < (q.l.length : Int)) = false := decide_eq_false (by omega)
  have t2 : decide (300 < q.l.length) = false := decide_eq_false h1
  by_cases h2 : i < 0
  · have t3 : decide (i < 0) = true := decide_eq_true h2
    clear h1 h2
    go_wp2_with (fail)
    refine (awake_any _).mono ?_
    rintro e wz ⟨rfl,hbz⟩
    have HBZ := Lib.hid (HB.out.trans (hbz.mono HB.out.size))
    clear hbz
    go_wp2_with (fail)
    go_ret
    exact ⟨rfl,HBZ.out⟩
  obtain ⟨j,rfl⟩ : ∃ j : Nat,i = (j : Int) := ⟨i.toNat,by omega⟩
  have t3 : decide ((j : Int) < 0) = false := decide_eq_false h2
  by_cases h3 : q.l.length ≤ j
  · have t4 : decide ((q.l.length : Int) ≤ (j : Int)) = true := decide_eq_true (by omega)
    have t5 : decide (q.l.length ≤ j) = true := decide_eq_true h3
    clear h1 h2 h3
    go_wp2_with (fail)
    refine (awake_any _).mono ?_
    rintro e wz ⟨rfl,hbz⟩
    have HBZ := Lib.hid (HB.out.trans (hbz.mono HB.out.size))
    clear hbz
    go_wp2_with (fail)
    go_ret
    exact ⟨rfl,HBZ.out⟩
  have t4 : decide ((q.l.length : Int) ≤ (j : Int)) = false := decide_eq_false (by omega)
  have t5 : decide (q.l.length ≤ j) = false := decide_eq_false h3
  have HLT : Hid (j < q.l.length) := by show _ < _; omega
  have HLN : Hid (q.l.length ≤ 300) := by show _ ≤ _; omega
  clear h1 h2 h3
  go_wp2_with (first | (first | (with_reducible show wpList _ _ _ (Oper.mk _ (Op.load _ _) _ _ _ _ :: _) _ _; first | (refine wpl_take 64 _ rfl rfl _ 0 rfl (q.cs A c) HK.out (q.cs A c) rfl _ Tryz.underlying64 rfl (by kernel_rfl) ?_))) | (with_reducible show wpList _ _ _ (Oper.mk _ (Op.build _ _) _ _ _ _ :: _) _ _; refine wpl_build _ _ rfl rfl (by simp [go_sem]) (build_lnd q A c _) ?_))
  refine (ref_any Mp.o 0 false false Bx.o q.k q.W q.H q.p q.iw q.ih A q.l c w0 (Row.below HR.out HB.out) (by have := HLN.out; omega)).mono ?_
  rintro e w1 ⟨A1,c1,rfl,hr1,-,-,hb1⟩
  have HR1 := Lib.hid hr1
  have HK1 := Lib.hid (HK.out.below' hb1)
  have HB1 := Lib.hid (HB.out.trans (hb1.mono HB.out.size))
  clear hr1 hb1 HK HB c6 i0
  go_wp2_with (fail)
  refine (dlook_any Mp.o 0 false false Bx.o q.k q.W q.H q.p q.iw q.ih A1 q.l c1 HP.out HL.out (by have := HLN.out; unfold maxLen; omega) w1 HR1.out).mono ?_
  rintro e w2 ⟨rfl,hb2⟩
  have HK2 := Lib.hid (HK1.out.below' hb2)
  have HB2 := Lib.hid (HB1.out.trans (hb2.mono HB1.out.size))
  clear hb2 HK1 HB1 HR1
  obtain ⟨v,hv⟩ : ∃ v,lkC q.k q.W q.H q.p q.iw q.ih q.l = v := ⟨_,rfl⟩
  have HV := Lib.hid hv
  rw [hv]
  clear hv
  by_cases h4 : ¬ v = 0
  · have t6 : (v == 0) = false := by simpa using h4
    clear h4
    go_wp2_with (fail)
    refine (awake_any _).mono ?_
    rintro e wz ⟨rfl,hbz⟩
    have HBZ := Lib.hid (HB2.out.trans (hbz.mono HB2.out.size))
    clear hbz
    go_wp2_with (fail)
    go_ret
    exact ⟨rfl,HBZ.out⟩
  obtain rfl : v = 0 := by simpa using h4
  clear h4
  go_wp2_with (fail)
  have HE0 := Lib.hid HB2.out.size
  refine (new_ok (w := w2) kZ (fun _ e => e.elim) ⟨by decide,by decide⟩ ⟨by decide,by decide⟩ ⟨by decide,by decide⟩).mono ?_
  rintro e w3 ⟨g,b,m,s,rfl,hs3,hb3,hf3,hg3⟩
  have HM3 : Hid (MyS w2 g b m s kZ PSc.new w3) := ⟨hs3,hf3,hb3⟩
  have HK3 := Lib.hid (HK2.out.below' hb3)
  have HK2i := Lib.hid HK2.out.inside
  clear hs3 hb3 hf3 hg3 HK2
  have HZ3 : Hid (Blk (w3.alloc (.cells #[.int .i64 0,.int .i64 0,.int .i64 0,.int .u32 0,.int .i64 0,.int .i64 0,.slice none 0 0] 64)) w3.heap.size [.int .i64 0,.int .i64 0,.int .i64 0,.int .u32 0,.int .i64 0,.int .i64 0,.slice none 0 0]) := blk_new w3 [.int .i64 0,.int .i64 0,.int .i64 0,.int .u32 0,.int .i64 0,.int .i64 0,.slice none 0 0] _
  have HB4 : Hid (Below w3.heap.size w3 (w3.alloc (.cells #[.int .i64 0,.int .i64 0,.int .i64 0,.int .u32 0,.int .i64 0,.int .i64 0,.slice none 0 0] 64))) := (Below.refl _ _).alloc (Nat.le_refl _) _
  go_upto_region 7 with (first | (with_reducible show wpList _ _ _ (Oper.mk _ (Op.load _ _) _ _ _ _ :: _) _ _; first | (refine wpl_take 64 _ rfl rfl _ 0 rfl (q.cs A c) HK3.out (q.cs A c) rfl _ Tryz.underlying64 rfl (by kernel_rfl) ?_)) | (with_reducible show wpList _ _ _ (Oper.mk _ (Op.store _ _ _) _ _ _ _ :: _) _ _; first | (refine wpl_stow 64 _ _ rfl rfl rfl _ 0 rfl (q.cs A c) rfl ([.int .i64 0,.int .i64 0,.int .i64 0,.int .u32 0,.int .i64 0,.int .i64 0,.slice none 0 0]) HZ3.out (q.cs A c) rfl (Nat.le_of_ble_eq_true rfl) (by kernel_rfl) (Lk.one _ _ _) ?_; intro w4 HW4 HKO)))
  have HB34 : Hid (Below w3.heap.size w3 w4) := HW4.out.below HB4.out (Nat.le_refl _)
  have HK4 := Lib.hid (HK3.out.below' HB34.out)
  obtain ⟨kO,hkO⟩ : ∃ kO,w3.heap.size = kO := ⟨_,rfl⟩
  have HKOi : Hid (¬ SFoot b m s PSc.new.t kO ∧ w2.heap.size ≤ kO ∧ w3.heap.size ≤ kO) := ⟨fun e => by have := HM3.out.at_.inside _ e; omega,by have := HM3.out.bel.size; omega,by omega⟩
  rw [hkO] at HKO ⊢
  clear hkO HZ3 HB4 HW4 HK3
  go_wp2_with (first | (with_reducible show wpList _ _ _ (Oper.mk _ (Op.load _ _) _ _ _ _ :: _) _ _; first | (refine wpl_take 62 _ rfl rfl _ 4 rfl (q.cs A c) HK4.out ([.int .i64 q.iw,.int .i64 q.ih,.slice A q.l.length c]) rfl _ Tryz.underlying62 rfl (by kernel_rfl) ?_)))
  refine (copy_any q.iw q.ih A q.l c w4 (Row.below HR.out (HB2.out.trans ((HM3.out.bel.trans (HB34.out.mono HM3.out.bel.size)).mono HB2.out.size))) (by have := HLN.out; omega)).mono ?_
  rintro e w5 ⟨A5,c5,rfl,hx5,hb5⟩
  unfold imV
  obtain ⟨bo,oo,hA5,hc5⟩ := Row.at_ hx5.1 HLT.out
  subst hA5
  obtain ⟨hbo,hfr5⟩ := hx5.2.1 bo oo rfl
  have HX5 := Lib.hid hx5.1
  have HF5 := Lib.hid hfr5
  have HBO : Hid (kO < bo ∧ w3.heap.size ≤ bo ∧ bo < w5.heap.size) := ⟨by have := HKO.out.inside; omega,by have := HB34.out.size; omega,World.block_lt_of_cell? w5 ⟨bo,oo + j,none⟩ hc5⟩
  have HB35 : Hid (Below w3.heap.size w3 w5) := HB34.out.trans (hb5.mono HB34.out.size)
  have HK5 := Lib.hid (HK4.out.below' hb5)
  have HKO5 := Lib.hid (HKO.out.below' hb5)
  clear hbo hfr5 hx5 hc5 hb5 HK4 HKO HB34
  go_upto_region 8 with (first | (with_reducible show wpList _ _ _ (Oper.mk _ (Op.store _ _ _) _ _ _ _ :: _) _ _; first | (refine wpl_stow 62 _ _ rfl rfl rfl _ 4 rfl ([.int .i64 q.iw,.int .i64 q.ih,.slice (some ⟨bo,oo,none⟩) q.l.length c5]) rfl (q.cs A c) HKO5.out (q.cs (some ⟨bo,oo,none⟩) c5) rfl (Nat.le_of_ble_eq_true rfl) (by kernel_rfl) rfl ?_; intro w6 HW6 HK6)))
  have HB36 : Hid (Below w3.heap.size w3 w6) := HW6.out.below HB35.out HKOi.out.2.2
  have HNE : Hid (bo ≠ kO) := fun e => by have := HBO.out.1; omega
  have HX6 : Hid (Row eW w6 (some ⟨bo,oo,none⟩) q.l) := Row.stays HX5.out fun a e _ => by
    obtain rfl := Option.some.inj e
    exact HW6.out.far HNE.out
  have HF6 : Hid (∀ j,w6.frozen? ⟨bo,j,none⟩ = false) := fun j => (World.frozen?_of_block (a := ⟨bo,j,none⟩) (HW6.out.far HNE.out)).trans (HF5.out j)
  have HBO6 : Hid (bo < w6.heap.size) := by
    obtain ⟨b9,o9,e9,h9⟩ := Row.at_ HX6.out HLT.out
    have e1 : bo = b9 := by injection e9 with e9; injection e9
    have h8 := World.block_lt_of_cell? w6 _ h9
    show bo < _
    rw [e1]
    exact h8
  have HS6 : Hid (SceneAt w6 g b m s ⟨4,⟨4,4⟩,oneB bo⟩ PSc.new) := HM3.out.at_.part (fun k hk _ => HB36.out.block k hk) fun k hk => by
    obtain rfl : k = bo := hk
    exact ⟨HBO6.out,.inr HBO.out.2.1⟩
  have HKP6 := Lib.hid (HK5.out.stays (HW6.out.far (show w.heap.size ≠ kO by have h1 := HK2i.out; have h2 := HKOi.out.2.1; omega)))
  have HFT : Hid (∀ k,SFoot b m s PSc.new.t k → w2.heap.size ≤ k) := HM3.out.ft
  have HB6 : Hid (Below w2.heap.size w2 w6) := HM3.out.bel.trans (HB36.out.mono HM3.out.bel.size)
  clear HX5 HF5 HB35 HB36 HK5 HKO5 HW6 HM3
  have HX7 : Hid (OpsAt (SFoot b m s PSc.new.t) (w6.alloc (.cells (OpR.cs ⟨lop q,some ⟨bo,oo,none⟩,c5⟩).toArray 77)) (some ⟨w6.heap.size,0,none⟩) [⟨lop q,some ⟨bo,oo,none⟩,c5⟩]) := opsAt_1 HS6.out.inside ⟨lop q,some ⟨bo,oo,none⟩,c5⟩ HX6.out fun a e _ hk => by
    obtain rfl := Option.some.inj e
    exact (HS6.out.old _ rfl).2.1 hk
  have HB7 : Hid (Below w6.heap.size w6 (w6.alloc (.cells (OpR.cs ⟨lop q,some ⟨bo,oo,none⟩,c5⟩).toArray 77))) := (Below.refl _ _).alloc (Nat.le_refl _) _
  obtain ⟨y,hy,hyt,hyl⟩ := lop_apply HV.out
  have HY := Lib.hid (And.intro hyt hyl)
  have HSY : Hid (Sane y) := by
    have := PSc.new_sane.apply (M := 4) (l := [lop q]) fun o ho => by
      rw [List.mem_singleton.1 ho]
      exact ⟨(show I64 0 from ⟨by decide,by decide⟩),(show I64 0 from ⟨by decide,by decide⟩),⟨HP.out,HL.out,HLN.out⟩⟩
    rw [hy] at this
    exact this
  go_wp2_with (first | (first | (with_reducible show wpList _ _ _ (Oper.mk _ (Op.load _ _) _ _ _ _ :: _) _ _; first | (refine wpl_take 64 _ rfl rfl _ 0 rfl (q.cs (some ⟨bo,oo,none⟩) c5) HK6.out (q.cs (some ⟨bo,oo,none⟩) c5) rfl _ Tryz.underlying64 rfl (by kernel_rfl) ?_))) | (with_reducible show wpList _ _ _ (Oper.mk _ (Op.build _ _) _ _ _ _ :: _) _ _; refine wpl_build _ _ rfl rfl (by simp [go_sem]) (build_lop q (some ⟨bo,oo,none⟩) c5 _) ?_) | (with_reducible show wpList _ _ _ (Oper.mk _ (Op.buildSlice _ _ _) _ _ _ _ :: _) _ _; refine wpl_bs _ _ _ rfl rfl (by simp [go_sem,OpR.cs]) (bs_op1 ⟨lop q,some ⟨bo,oo,none⟩,c5⟩ _) ?_))
  generalize (w6.alloc (.cells (OpR.cs ⟨lop q,some ⟨bo,oo,none⟩,c5⟩).toArray 77)) = w7 at *
  have HS7 := Lib.hid (HS6.out.below HB7.out)
  have HAP := Lib.hid (applied HS7.out PSc.new_sane [⟨lop q,some ⟨bo,oo,none⟩,c5⟩] (some ⟨w6.heap.size,0,none⟩) 1 HX7.out (by intro r hr; rw [List.mem_singleton.1 hr]; exact ⟨(show I64 0 from ⟨by decide,by decide⟩),(show I64 0 from ⟨by decide,by decide⟩),⟨HP.out,HL.out,HLN.out⟩⟩) (fun _ => ⟨by simp,.inl (by simp [PSc.new])⟩) (by simp))
  rw [show applyS (⟨4,⟨4,4⟩,oneB bo⟩ : ZZ).2.2 setSt PSc.new ([(⟨lop q,some ⟨bo,oo,none⟩,c5⟩ : OpR)].map (·.o)) = (y,1,0) from hy] at HAP
  unfold ApplyQ at HAP
  have HOBS : Hid (¬ SFoot b m s PSc.new.t bo) := (HS6.out.old _ rfl).2.1
  have HKO7 := Lib.hid (HK6.out.below' HB7.out)
  have HKP7 := Lib.hid (HKP6.out.below' HB7.out)
  have HX7b : Hid (Row eW w7 (some ⟨bo,oo,none⟩) q.l) := Row.below HX6.out HB7.out
  have HF7 : Hid (∀ j,w7.frozen? ⟨bo,j,none⟩ = false) := fun j => (HB7.out.frozen (p := ⟨bo,j,none⟩) HBO6.out).trans (HF6.out j)
  have HB27 : Hid (Below w2.heap.size w2 w7) := HB6.out.trans (HB7.out.mono HB6.out.size)
  have HBO7 : Hid (bo < w7.heap.size) := Nat.lt_of_lt_of_le HBO6.out HB7.out.size
  clear hy hyt hyl HX6 HF6 HB6 HK6 HKP6 HS6 HX7 HB7 HBO6
  generalize w6.heap.size = k6 at *
  refine HAP.out.mono ?_
  rintro e w8 ⟨s8,rfl,hs8,ht8⟩
  have HS8 := Lib.hid hs8
  have HBK : Hid (w8.heap[bo]? = w7.heap[bo]?) := (ht8.far bo HBO7.out HOBS.out).2
  have HKO8 := Lib.hid (HKO7.out.stays (ht8.far kO HKO7.out.inside HKOi.out.1).2)
  have HKP8 := Lib.hid (HKP7.out.stays (ht8.far w.heap.size HKP7.out.inside (fun e => by have := HFT.out _ e; have := HK2i.out; omega)).2)
  have HX8 : Hid (Row eW w8 (some ⟨bo,oo,none⟩) q.l) := Row.stays HX7b.out fun a e _ => by
    obtain rfl := Option.some.inj e
    exact HBK.out
  have HF8 : Hid (∀ j,w8.frozen? ⟨bo,j,none⟩ = false) := fun j => (World.frozen?_of_block (a := ⟨bo,j,none⟩) HBK.out).trans (HF7.out j)
  have HB28 : Hid (Below w2.heap.size w2 w8) := HB27.out.trans (ht8.to_below HB27.out.size HFT.out)
  have HBO8 : Hid (bo < w8.heap.size) := Nat.lt_of_lt_of_le HBO7.out ht8.size
  clear hs8 ht8 HAP HS7 HKO7 HKP7 HX7b HF7 HB27 HBO7 HBK HOBS
  dsimp only at HS8 ⊢
  go_wp2_with (fail)
  refine (scopy_any HS8.out (by rw [HY.out.1]; decide)).mono ?_
  rintro e w9 ⟨g2,b2,m2,s2,rfl,hs9,hb9,-,-⟩
  have HC9 := Lib.hid hs9
  have HS9 := Lib.hid (HS8.out.below hb9)
  have HKO9 := Lib.hid (HKO8.out.below' hb9)
  have HKP9 := Lib.hid (HKP8.out.below' hb9)
  have HX9 : Hid (Row eW w9 (some ⟨bo,oo,none⟩) q.l) := Row.below HX8.out hb9
  have HF9 : Hid (∀ j,w9.frozen? ⟨bo,j,none⟩ = false) := fun j => (hb9.frozen (p := ⟨bo,j,none⟩) HBO8.out).trans (HF8.out j)
  have HB29 : Hid (Below w2.heap.size w2 w9) := HB28.out.trans (hb9.mono HB28.out.size)
  have HBO9 : Hid (bo < w9.heap.size) := Nat.lt_of_lt_of_le HBO8.out hb9.size
  clear hs9 hb9 HS8 HKO8 HKP8 HX8 HF8 HB28 HBO8
  dsimp only at HC9
  have c6 : w9.cell? ⟨kO,6,none⟩ = some (.slice (some ⟨bo,oo,none⟩) q.l.length c5) := HKO9.out.cell 6
  have i0 : kO < w9.heap.size := HKO9.out.inside
  obtain ⟨b9,o9,e9,h9⟩ := Row.at_ HX9.out HLT.out
  obtain ⟨rfl,rfl⟩ : bo = b9 ∧ oo = o9 := by injection e9 with e9; injection e9 with e1 e2 _; exact ⟨e1,e2⟩
  have f9 := HF9.out (oo + j)
  unfold eW at h9
  have t7 : decide (j < q.l.length) = true := decide_eq_true HLT.out
  have i1 : bo < w9.heap.size := HBO9.out
  go_upto_region 13 with (fail)
  obtain ⟨V,hVV⟩ : ∃ V,bits .xor .u32 ((q.l[j]'HLT.out : Nat) : Int) 1 = V := ⟨_,rfl⟩
  first | rw [hVV] | skip
  clear hVV
  have HNK : Hid (w.heap.size ≠ bo ∧ w.heap.size ≤ bo) := by have h1 := HK2i.out; have h2 := HKOi.out.2.1; have h3 := HBO.out.1; exact ⟨by omega,by omega⟩
  have HS10 : Hid (SceneAt (w9.setCell ⟨bo,oo + j,none⟩ (.int .u32 V)) g b m s8 ⟨4,⟨4,4⟩,oneB bo⟩ y) := HS9.out.part (fun k _ hn => Below.heap_setCell _ _ _ _ hn) fun k hk => ⟨by obtain rfl : k = bo := hk; simpa [World.setCell] using i1,.inl hk⟩
  have HC10 : Hid (SceneAt (w9.setCell ⟨bo,oo + j,none⟩ (.int .u32 V)) g2 b2 m2 s2 ⟨4,⟨4,4⟩,fun k => oneB bo k ∨ SFoot b m s8 y.t k⟩ y) := HC9.out.part (fun k _ hn => Below.heap_setCell _ _ _ _ fun e => hn (.inl e)) fun k hk => ⟨by have := (HC9.out.old k hk).1; simpa [World.setCell] using this,.inl hk⟩
  have HKP10 := Lib.hid (HKP9.out.stays (Below.heap_setCell w9 ⟨bo,oo + j,none⟩ (.int .u32 V) _ HNK.out.1))
  have HB10 : Hid (Below w.heap.size w (w9.setCell ⟨bo,oo + j,none⟩ (.int .u32 V))) := (HB2.out.trans (HB29.out.mono HB2.out.size)).setCell (p := ⟨bo,oo + j,none⟩) HNK.out.2 _
  generalize (w9.setCell ⟨bo,oo + j,none⟩ (.int .u32 V)) = w10 at *
  clear HC9 HS9 HKO9 HKP9 HX9 HF9 HB29 HBO9 c6 i0 e9 h9 f9 i1 HBO HNE HKOi HNK
  obtain ⟨nm,nop,nhi,ncl,nr,hn0⟩ : ∃ nm nop nhi ncl nr,ndAt y 0 = ⟨nm,nop,nhi,ncl,nr,q⟩ := by
    have h : (ndAt y 0).lk = q := by unfold ndAt; rw [HY.out.1]; exact HY.out.2
    exact ⟨_,_,_,_,_,by rw [← h]⟩
  have HN0 := Lib.hid hn0
  clear hn0
  go_wp2_with (fail)
  refine (node_any HS10.out HSY.out.fit 0 ⟨by decide,by decide⟩).mono ?_
  rw [show ndAt y 0 = _ from HN0.out]
  rintro e w11 ⟨A11,c11,rfl,hb11,ho11,hg11⟩
  obtain ⟨b11,o11,hA11,h11⟩ := Row.at_ ho11.1 HLT.out
  subst hA11
  have hne : q.l ≠ [] := fun e => by have := HLT.out; rw [e] at this; cases this
  obtain ⟨hg1,hg2⟩ := hg11 _ rfl hne
  have HB11 := Lib.hid hb11
  have HX11 : Hid (Row eW w11 (some ⟨b11,o11,none⟩) q.l) := ho11.1
  have HF11 : Hid (∀ j,w11.frozen? ⟨b11,j,none⟩ = false) := hg2
  have HG11 : Hid (w10.heap.size ≤ b11 ∧ b11 < w11.heap.size) := ⟨hg1,World.block_lt_of_cell? w11 _ h11⟩
  clear hb11 ho11 hg11 hg1 hg2 h11
  have HZ11 : Hid (Blk (w11.alloc (.cells #[.int .i64 0,.int .i64 0,.int .i64 0,.int .i64 0,.int .i64 0,.int .i64 0,.int .i64 0,.bool false,.bool false,.int .i64 0,.int .i64 0,.int .i64 0,.int .i64 0,.int .i64 0,.int .i64 0,.int .i64 0,.int .u32 0,.int .i64 0,.int .i64 0,.slice none 0 0] 72)) w11.heap.size [.int .i64 0,.int .i64 0,.int .i64 0,.int .i64 0,.int .i64 0,.int .i64 0,.int .i64 0,.bool false,.bool false,.int .i64 0,.int .i64 0,.int .i64 0,.int .i64 0,.int .i64 0,.int .i64 0,.int .i64 0,.int .u32 0,.int .i64 0,.int .i64 0,.slice none 0 0]) := blk_new w11 [.int .i64 0,.int .i64 0,.int .i64 0,.int .i64 0,.int .i64 0,.int .i64 0,.int .i64 0,.bool false,.bool false,.int .i64 0,.int .i64 0,.int .i64 0,.int .i64 0,.int .i64 0,.int .i64 0,.int .i64 0,.int .u32 0,.int .i64 0,.int .i64 0,.slice none 0 0] _
  have HB12 : Hid (Below w11.heap.size w11 (w11.alloc (.cells #[.int .i64 0,.int .i64 0,.int .i64 0,.int .i64 0,.int .i64 0,.int .i64 0,.int .i64 0,.bool false,.bool false,.int .i64 0,.int .i64 0,.int .i64 0,.int .i64 0,.int .i64 0,.int .i64 0,.int .i64 0,.int .u32 0,.int .i64 0,.int .i64 0,.slice none 0 0] 72))) := (Below.refl _ _).alloc (Nat.le_refl _) _
  go_upto_region 14 with (first | (with_reducible show wpList _ _ _ (Oper.mk _ (Op.store _ _ _) _ _ _ _ :: _) _ _; first | (refine wpl_stow 72 _ _ rfl rfl rfl _ 0 rfl ((⟨nm,nop,nhi,ncl,nr,q⟩ : Nd).cs (some ⟨b11,o11,none⟩) c11) rfl ([.int .i64 0,.int .i64 0,.int .i64 0,.int .i64 0,.int .i64 0,.int .i64 0,.int .i64 0,.bool false,.bool false,.int .i64 0,.int .i64 0,.int .i64 0,.int .i64 0,.int .i64 0,.int .i64 0,.int .i64 0,.int .u32 0,.int .i64 0,.int .i64 0,.slice none 0 0]) HZ11.out ((⟨nm,nop,nhi,ncl,nr,q⟩ : Nd).cs (some ⟨b11,o11,none⟩) c11) rfl (Nat.le_of_ble_eq_true rfl) (by kernel_rfl) (Nd.one _ _ _) ?_; intro w12 HW12 HK12)))
  have HB13 : Hid (Below w11.heap.size w11 w12) := HW12.out.below HB12.out (Nat.le_refl _)
  have HX12 : Hid (Row eW w12 (some ⟨b11,o11,none⟩) q.l) := Row.below HX11.out HB13.out
  have f12 : w12.frozen? ⟨b11,o11 + j,none⟩ = false := (HB13.out.frozen (p := ⟨b11,o11 + j,none⟩) HG11.out.2).trans (HF11.out _)
  obtain ⟨b9,o9,e9,h9⟩ := Row.at_ HX12.out HLT.out
  obtain ⟨rfl,rfl⟩ : b11 = b9 ∧ o11 = o9 := by injection e9 with e9; injection e9 with e1 e2 _; exact ⟨e1,e2⟩
  unfold eW at h9
  have c19 : w12.cell? ⟨w11.heap.size,19,none⟩ = some (.slice (some ⟨b11,o11,none⟩) q.l.length c11) := HK12.out.cell 19
  have i0 : w11.heap.size < w12.heap.size := HK12.out.inside
  have i1 : b11 < w12.heap.size := by have := HG11.out.2; omega
  have hBB : Below w10.heap.size w10 w12 := HB11.out.trans (HB13.out.mono HB11.out.size)
  have HBB := Lib.hid hBB
  clear hBB HX11 HF11 HZ11 HB12 HW12 HB13 HB11 hne e9
  go_upto_region 15 with (fail)
  obtain ⟨V,hVV⟩ : ∃ V,bits .xor .u32 ((q.l[j]'HLT.out : Nat) : Int) 1 = V := ⟨_,rfl⟩
  first | rw [hVV] | skip
  clear hVV
  have HBS : Hid (Below w10.heap.size w10 (w12.setCell ⟨b11,o11 + j,none⟩ (.int .u32 V))) := HBB.out.setCell (p := ⟨b11,o11 + j,none⟩) HG11.out.1 _
  generalize (w12.setCell ⟨b11,o11 + j,none⟩ (.int .u32 V)) = w13 at *
  have HS13 := Lib.hid (HS10.out.below HBS.out)
  have HC13 := Lib.hid (HC10.out.below HBS.out)
  have HKP13 := Lib.hid (HKP10.out.below' HBS.out)
  have HB13 := Lib.hid (HB10.out.trans (HBS.out.mono HB10.out.size))
  clear HBS HBB HX12 f12 h9 c19 i0 i1 HG11 HK12 HS10 HC10 HKP10 HB10
  generalize w11.heap.size = k11 at *
  go_wp2_with (fail)
  refine (node_any HS13.out HSY.out.fit 0 ⟨by decide,by decide⟩).mono ?_
  rw [show ndAt y 0 = _ from HN0.out]
  rintro e w14 ⟨A14,c14,rfl,hb14,ho14,-⟩
  obtain ⟨b14,o14,hA14,h14⟩ := Row.at_ ho14.1 HLT.out
  subst hA14
  have HB14 := Lib.hid hb14
  have HX14 : Hid (Row eW w14 (some ⟨b14,o14,none⟩) q.l) := ho14.1
  clear hb14 ho14 h14
  have HZ14 : Hid (Blk (w14.alloc (.cells #[.int .i64 0,.int .i64 0,.int .i64 0,.int .i64 0,.int .i64 0,.int .i64 0,.int .i64 0,.bool false,.bool false,.int .i64 0,.int .i64 0,.int .i64 0,.int .i64 0,.int .i64 0,.int .i64 0,.int .i64 0,.int .u32 0,.int .i64 0,.int .i64 0,.slice none 0 0] 72)) w14.heap.size [.int .i64 0,.int .i64 0,.int .i64 0,.int .i64 0,.int .i64 0,.int .i64 0,.int .i64 0,.bool false,.bool false,.int .i64 0,.int .i64 0,.int .i64 0,.int .i64 0,.int .i64 0,.int .i64 0,.int .i64 0,.int .u32 0,.int .i64 0,.int .i64 0,.slice none 0 0]) := blk_new w14 [.int .i64 0,.int .i64 0,.int .i64 0,.int .i64 0,.int .i64 0,.int .i64 0,.int .i64 0,.bool false,.bool false,.int .i64 0,.int .i64 0,.int .i64 0,.int .i64 0,.int .i64 0,.int .i64 0,.int .i64 0,.int .u32 0,.int .i64 0,.int .i64 0,.slice none 0 0] _
  have HB15 : Hid (Below w14.heap.size w14 (w14.alloc (.cells #[.int .i64 0,.int .i64 0,.int .i64 0,.int .i64 0,.int .i64 0,.int .i64 0,.int .i64 0,.bool false,.bool false,.int .i64 0,.int .i64 0,.int .i64 0,.int .i64 0,.int .i64 0,.int .i64 0,.int .i64 0,.int .u32 0,.int .i64 0,.int .i64 0,.slice none 0 0] 72))) := (Below.refl _ _).alloc (Nat.le_refl _) _
  go_upto_region 16 with (first | (with_reducible show wpList _ _ _ (Oper.mk _ (Op.store _ _ _) _ _ _ _ :: _) _ _; first | (refine wpl_stow 72 _ _ rfl rfl rfl _ 0 rfl ((⟨nm,nop,nhi,ncl,nr,q⟩ : Nd).cs (some ⟨b14,o14,none⟩) c14) rfl ([.int .i64 0,.int .i64 0,.int .i64 0,.int .i64 0,.int .i64 0,.int .i64 0,.int .i64 0,.bool false,.bool false,.int .i64 0,.int .i64 0,.int .i64 0,.int .i64 0,.int .i64 0,.int .i64 0,.int .i64 0,.int .u32 0,.int .i64 0,.int .i64 0,.slice none 0 0]) HZ14.out ((⟨nm,nop,nhi,ncl,nr,q⟩ : Nd).cs (some ⟨b14,o14,none⟩) c14) rfl (Nat.le_of_ble_eq_true rfl) (by kernel_rfl) (Nd.one _ _ _) ?_; intro w15 HW15 HK15)))
  have HBa : Hid (Below w14.heap.size w14 w15) := HW15.out.below HB15.out (Nat.le_refl _)
  have HX15 : Hid (Row eW w15 (some ⟨b14,o14,none⟩) q.l) := Row.below HX14.out HBa.out
  have HBb : Hid (Below w13.heap.size w13 w15) := HB14.out.trans (HBa.out.mono HB14.out.size)
  have HSE := Lib.hid (HS13.out.below HBb.out)
  have HCE := Lib.hid (HC13.out.below HBb.out)
  have HKE := Lib.hid (HKP13.out.below' HBb.out)
  have HBE := Lib.hid (HB13.out.trans (HBb.out.mono HB13.out.size))
  obtain ⟨k14,hk14⟩ : ∃ k14,w14.heap.size = k14 := ⟨_,rfl⟩
  rw [hk14] at HK15 ⊢
  clear HB14 HX14 HZ14 HB15 HW15 HBa HBb HS13 HC13 HKP13 HB13 hk14
  have HRE : Hid (Row eW w15 A q.l) := Row.below HR.out HBE.out
  obtain ⟨bA,oA,hA,hcA⟩ := Row.at_ HRE.out HLT.out
  subst hA
  obtain ⟨z,hz⟩ : ∃ z,q.l[j]'HLT.out = z := ⟨_,rfl⟩
  have HCA : Hid (∀ W,regs.bl w15 W → W.cell? ⟨bA,oA + j,none⟩ = some (.int .u32 (z : Nat))) := fun W hb => by
    obtain ⟨b9,o9,e9,h9⟩ := Row.at_ (Row.below HRE.out hb) HLT.out
    obtain ⟨rfl,rfl⟩ : bA = b9 ∧ oA = o9 := by injection e9 with e9; injection e9 with e1 e2 _; exact ⟨e1,e2⟩
    rw [h9,hz]; rfl
  have HC14 : Hid (∀ W,regs.bl w15 W → W.cell? ⟨b14,o14 + j,none⟩ = some (.int .u32 (z : Nat))) := fun W hb => by
    obtain ⟨b9,o9,e9,h9⟩ := Row.at_ (Row.below HX15.out hb) HLT.out
    obtain ⟨rfl,rfl⟩ : b14 = b9 ∧ o14 = o9 := by injection e9 with e9; injection e9 with e1 e2 _; exact ⟨e1,e2⟩
    rw [h9,hz]; rfl
  obtain ⟨kP,hkP⟩ : ∃ kP,w.heap.size = kP := ⟨_,rfl⟩
  rw [hkP] at HKE ⊢
  clear hkP hcA hz HX15
  refine regs.wp_region_put (regs.bl) (regs.noJ) [94,95,96,97,98,99,100,101,102,103,104,105,106,107,108,109,110,111,112,113,114,115,116,117,118,119,4] (by kernel_rfl) (by kernel_rfl) (fun _ => regs.bl_refl _) (regs.bl_trans) (fun i => (match i with
    | 0 => regs.Say.val _ (.pointer (some ⟨k14,13,none⟩))
    | 1 => regs.Say.val _ (.pointer (some ⟨k14,17,none⟩))
    | 2 => regs.Say.val _ (.pointer (some ⟨k14,19,none⟩))
    | 3 => regs.Say.val _ (.slice (some ⟨b14,o14,none⟩) q.l.length c14)
    | 4 => regs.Say.val _ (.int .i64 (j : Nat))
    | 5 => regs.Say.val _ (.pointer (some ⟨b14,(o14 + j),none⟩))
    | 6 => regs.Say.val _ (.int .u32 (z : Nat))
    | 7 => regs.Say.val _ (.pointer (some ⟨kP,4,none⟩))
    | 8 => regs.Say.val _ (.pointer (some ⟨kP,6,none⟩))
    | 9 => regs.Say.val _ (.slice (some ⟨bA,oA,none⟩) q.l.length c)
    | 10 => regs.Say.val _ (.int .i64 (j : Nat))
    | 11 => regs.Say.val _ (.pointer (some ⟨bA,(oA + j),none⟩))
    | 12 => regs.Say.val _ (.int .u32 (z : Nat))
    | 13 => regs.Say.val _ (.bool true)
    | 14 => regs.Say.val _ (.bool true)
    | 15 => regs.Say.val _ (.pointer (some ⟨g2,0,none⟩))
    | 16 => regs.Say.val _ (.bool true)
    | 17 => regs.Say.val _ (.bool true)
    | 18 => regs.Say.val _ (.bool true)
    | 19 => regs.Say.val _ (.pointer (some ⟨g,0,none⟩))
    | 20 => regs.Say.val _ (.pointer (some ⟨g2,0,none⟩))
    | 21 => regs.Say.val _ (.bool true)
    | 22 => regs.Say.val _ (.bool true)
    | 23 => regs.Say.val _ (.bool true)
    | 24 => regs.Say.val _ (.bool true)
    | 25 => regs.Say.val _ (.bool true)
    | 26 => regs.Say.val _ (.bool true)
    | _ => regs.Say.any _ : regs.Say (regs.bl)).p) (fun _ => regs.Say.mono _) (by kernel_rfl) ((Below.refl _ _).drew) (regs.noJ_ok _ _) ⟨?_,?_,?_,?_,?_,?_,?_,?_,?_,?_,?_,?_,?_,?_,?_,?_,?_,?_,?_,?_,?_,?_,?_,?_,?_,?_,?_,trivial⟩ ?_
  · refine regs.StepOK.plain rfl fun L a w1 hh => ?_
    have h13 : a.tmps[13]?.getD undef = .pointer (some ⟨k14,0,none⟩) := by rw [← Array.getD_eq_getD_getElem?]; exact hh.old 13 rfl
    have i0 := (Blk.below' HK15.out hh.rel).inside
    have hJ := Lib.hid hh.st
    clear hh
    go_simp
    exact ⟨_,rfl,regs.bl_refl _,rfl,hJ.out⟩
  · refine regs.StepOK.plain rfl fun L a w1 hh => ?_
    have h94 : a.tmps[94]?.getD undef = .pointer (some ⟨k14,13,none⟩) := by rw [← Array.getD_eq_getD_getElem?]; exact hh.dep 0 94 (by kernel_rfl) (by kernel_rfl)
    have i0 := (Blk.below' HK15.out hh.rel).inside
    have hJ := Lib.hid hh.st
    clear hh
    go_simp
    exact ⟨_,rfl,regs.bl_refl _,rfl,hJ.out⟩
  · refine regs.StepOK.plain rfl fun L a w1 hh => ?_
    have h95 : a.tmps[95]?.getD undef = .pointer (some ⟨k14,17,none⟩) := by rw [← Array.getD_eq_getD_getElem?]; exact hh.dep 1 95 (by kernel_rfl) (by kernel_rfl)
    have i0 := (Blk.below' HK15.out hh.rel).inside
    have hJ := Lib.hid hh.st
    clear hh
    go_simp
    exact ⟨_,rfl,regs.bl_refl _,rfl,hJ.out⟩
  · refine regs.StepOK.plain rfl fun L a w1 hh => ?_
    have h96 : a.tmps[96]?.getD undef = .pointer (some ⟨k14,19,none⟩) := by rw [← Array.getD_eq_getD_getElem?]; exact hh.dep 2 96 (by kernel_rfl) (by kernel_rfl)
    have hB := Lib.hid (Blk.below' HK15.out hh.rel)
    have c0 : w1.cell? ⟨k14,19,none⟩ = some (.slice (some ⟨b14,o14,none⟩) q.l.length c14) := hB.out.cell 19
    have i0 := hB.out.inside
    have hJ := Lib.hid hh.st
    clear hh
    go_simp
    exact ⟨_,rfl,regs.bl_refl _,rfl,hJ.out⟩
  · refine regs.StepOK.plain rfl fun L a w1 hh => ?_
    have h1 : a.tmps[1]?.getD undef = .int .i64 (j : Nat) := by rw [← Array.getD_eq_getD_getElem?]; exact hh.old 1 rfl
    have hJ := Lib.hid hh.st
    clear hh
    go_simp
    exact ⟨_,rfl,regs.bl_refl _,rfl,hJ.out⟩
  · refine regs.StepOK.plain rfl fun L a w1 hh => ?_
    have h97 : a.tmps[97]?.getD undef = .slice (some ⟨b14,o14,none⟩) q.l.length c14 := by rw [← Array.getD_eq_getD_getElem?]; exact hh.dep 3 97 (by kernel_rfl) (by kernel_rfl)
    have h98 : a.tmps[98]?.getD undef = .int .i64 (j : Nat) := by rw [← Array.getD_eq_getD_getElem?]; exact hh.dep 4 98 (by kernel_rfl) (by kernel_rfl)
    have hJ := Lib.hid hh.st
    clear hh
    go_simp
    exact ⟨_,rfl,regs.bl_refl _,rfl,hJ.out⟩
  · refine regs.StepOK.plain rfl fun L a w1 hh => ?_
    have h99 : a.tmps[99]?.getD undef = .pointer (some ⟨b14,(o14 + j),none⟩) := by rw [← Array.getD_eq_getD_getElem?]; exact hh.dep 5 99 (by kernel_rfl) (by kernel_rfl)
    have c0 := HC14.out w1 hh.rel
    have hJ := Lib.hid hh.st
    clear hh
    go_simp
    exact ⟨_,rfl,regs.bl_refl _,rfl,hJ.out⟩
  · refine regs.StepOK.plain rfl fun L a w1 hh => ?_
    have h2 : a.tmps[2]?.getD undef = .pointer (some ⟨kP,0,none⟩) := by rw [← Array.getD_eq_getD_getElem?]; exact hh.old 2 rfl
    have i0 := (Blk.below' HKE.out hh.rel).inside
    have hJ := Lib.hid hh.st
    clear hh
    go_simp
    exact ⟨_,rfl,regs.bl_refl _,rfl,hJ.out⟩
  · refine regs.StepOK.plain rfl fun L a w1 hh => ?_
    have h101 : a.tmps[101]?.getD undef = .pointer (some ⟨kP,4,none⟩) := by rw [← Array.getD_eq_getD_getElem?]; exact hh.dep 7 101 (by kernel_rfl) (by kernel_rfl)
    have i0 := (Blk.below' HKE.out hh.rel).inside
    have hJ := Lib.hid hh.st
    clear hh
    go_simp
    exact ⟨_,rfl,regs.bl_refl _,rfl,hJ.out⟩
  · refine regs.StepOK.plain rfl fun L a w1 hh => ?_
    have h102 : a.tmps[102]?.getD undef = .pointer (some ⟨kP,6,none⟩) := by rw [← Array.getD_eq_getD_getElem?]; exact hh.dep 8 102 (by kernel_rfl) (by kernel_rfl)
    have hB := Lib.hid (Blk.below' HKE.out hh.rel)
    have c0 : w1.cell? ⟨kP,6,none⟩ = some (.slice (some ⟨bA,oA,none⟩) q.l.length c) := hB.out.cell 6
    have i0 := hB.out.inside
    have hJ := Lib.hid hh.st
    clear hh
    go_simp
    exact ⟨_,rfl,regs.bl_refl _,rfl,hJ.out⟩
  · refine regs.StepOK.plain rfl fun L a w1 hh => ?_
    have h1 : a.tmps[1]?.getD undef = .int .i64 (j : Nat) := by rw [← Array.getD_eq_getD_getElem?]; exact hh.old 1 rfl
    have hJ := Lib.hid hh.st
    clear hh
    go_simp
    exact ⟨_,rfl,regs.bl_refl _,rfl,hJ.out⟩
  · refine regs.StepOK.plain rfl fun L a w1 hh => ?_
    have h103 : a.tmps[103]?.getD undef = .slice (some ⟨bA,oA,none⟩) q.l.length c := by rw [← Array.getD_eq_getD_getElem?]; exact hh.dep 9 103 (by kernel_rfl) (by kernel_rfl)
    have h104 : a.tmps[104]?.getD undef = .int .i64 (j : Nat) := by rw [← Array.getD_eq_getD_getElem?]; exact hh.dep 10 104 (by kernel_rfl) (by kernel_rfl)
    have hJ := Lib.hid hh.st
    clear hh
    go_simp
    exact ⟨_,rfl,regs.bl_refl _,rfl,hJ.out⟩
  · refine regs.StepOK.plain rfl fun L a w1 hh => ?_
    have h105 : a.tmps[105]?.getD undef = .pointer (some ⟨bA,(oA + j),none⟩) := by rw [← Array.getD_eq_getD_getElem?]; exact hh.dep 11 105 (by kernel_rfl) (by kernel_rfl)
    have c0 := HCA.out w1 hh.rel
    have hJ := Lib.hid hh.st
    clear hh
    go_simp
    exact ⟨_,rfl,regs.bl_refl _,rfl,hJ.out⟩
  · refine regs.StepOK.plain rfl fun L a w1 hh => ?_
    have h100 : a.tmps[100]?.getD undef = .int .u32 (z : Nat) := by rw [← Array.getD_eq_getD_getElem?]; exact hh.dep 6 100 (by kernel_rfl) (by kernel_rfl)
    have h106 : a.tmps[106]?.getD undef = .int .u32 (z : Nat) := by rw [← Array.getD_eq_getD_getElem?]; exact hh.dep 12 106 (by kernel_rfl) (by kernel_rfl)
    have hJ := Lib.hid hh.st
    clear hh
    go_simp
    exact ⟨_,rfl,regs.bl_refl _,rfl,hJ.out⟩
  · refine regs.StepOK.plain rfl fun L a w1 hh => ?_
    have h107 : a.tmps[107]?.getD undef = .bool true := by rw [← Array.getD_eq_getD_getElem?]; exact hh.dep 13 107 (by kernel_rfl) (by kernel_rfl)
    have hJ := Lib.hid hh.st
    clear hh
    go_simp
    exact ⟨_,rfl,regs.bl_refl _,rfl,hJ.out⟩
  · refine regs.StepOK.yes 14 true 108 rfl rfl (fun L a w1 hh => hh.dep 14 108 (by kernel_rfl) (by kernel_rfl)) fun L a w1 hh => ?_
    have h10 : a.tmps[10]?.getD undef = .pointer (some ⟨g2,0,none⟩) := by rw [← Array.getD_eq_getD_getElem?]; exact hh.old 10 rfl
    have hJ := Lib.hid hh.st
    clear hh
    go_simp
    exact ⟨_,rfl,regs.bl_refl _,rfl,hJ.out⟩
  · refine regs.StepOK.yes 14 true 108 rfl rfl (fun L a w1 hh => hh.dep 14 108 (by kernel_rfl) (by kernel_rfl)) fun L a w1 hh => ?_
    have h109 : a.tmps[109]?.getD undef = .pointer (some ⟨g2,0,none⟩) := by rw [← Array.getD_eq_getD_getElem?]; exact hh.dep 15 109 (by kernel_rfl) (by kernel_rfl)
    have hJ := Lib.hid hh.st
    clear hh
    go_simp
    exact ⟨_,rfl,regs.bl_refl _,rfl,hJ.out⟩
  · refine regs.StepOK.plain rfl fun L a w1 hh => ?_
    have h108 : a.tmps[108]?.getD undef = .bool true := by rw [← Array.getD_eq_getD_getElem?]; exact hh.dep 14 108 (by kernel_rfl) (by kernel_rfl)
    have h110 : a.tmps[110]?.getD undef = .bool true := by rw [← Array.getD_eq_getD_getElem?]; exact hh.dep 16 110 (by kernel_rfl) (by kernel_rfl)
    have hJ := Lib.hid hh.st
    clear hh
    go_simp
    exact ⟨_,rfl,regs.bl_refl _,rfl,hJ.out⟩
  · refine regs.StepOK.plain rfl fun L a w1 hh => ?_
    have h111 : a.tmps[111]?.getD undef = .bool true := by rw [← Array.getD_eq_getD_getElem?]; exact hh.dep 17 111 (by kernel_rfl) (by kernel_rfl)
    have hJ := Lib.hid hh.st
    clear hh
    go_simp
    exact ⟨_,rfl,regs.bl_refl _,rfl,hJ.out⟩
  · refine regs.StepOK.yes 18 true 112 rfl rfl (fun L a w1 hh => hh.dep 18 112 (by kernel_rfl) (by kernel_rfl)) fun L a w1 hh => ?_
    have h5 : a.tmps[5]?.getD undef = .pointer (some ⟨g,0,none⟩) := by rw [← Array.getD_eq_getD_getElem?]; exact hh.old 5 rfl
    have hJ := Lib.hid hh.st
    clear hh
    go_simp
    exact ⟨_,rfl,regs.bl_refl _,rfl,hJ.out⟩
  · refine regs.StepOK.yes 18 true 112 rfl rfl (fun L a w1 hh => hh.dep 18 112 (by kernel_rfl) (by kernel_rfl)) fun L a w1 hh => ?_
    have h10 : a.tmps[10]?.getD undef = .pointer (some ⟨g2,0,none⟩) := by rw [← Array.getD_eq_getD_getElem?]; exact hh.old 10 rfl
    have hJ := Lib.hid hh.st
    clear hh
    go_simp
    exact ⟨_,rfl,regs.bl_refl _,rfl,hJ.out⟩
  · refine regs.StepOK.yes 18 true 112 rfl rfl (fun L a w1 hh => hh.dep 18 112 (by kernel_rfl) (by kernel_rfl)) fun L a w1 hh => ?_
    have h113 : a.tmps[113]?.getD undef = .pointer (some ⟨g,0,none⟩) := by rw [← Array.getD_eq_getD_getElem?]; exact hh.dep 19 113 (by kernel_rfl) (by kernel_rfl)
    have h114 : a.tmps[114]?.getD undef = .pointer (some ⟨g2,0,none⟩) := by rw [← Array.getD_eq_getD_getElem?]; exact hh.dep 20 114 (by kernel_rfl) (by kernel_rfl)
    have hC := Lib.hid (sequal (HSE.out.below hh.rel) (HCE.out.below hh.rel) HSY.out.fit HSY.out.fit (by rw [HY.out.1]; decide) (by rw [HY.out.1]; decide) ⟨rfl,rfl⟩)
    unfold EqQ at hC
    have hJ := Lib.hid hh.st
    clear hh
    go_simp
    refine hC.out.mono ?_
    rintro e w9 ⟨r9,rfl,hr9,hb9⟩
    obtain rfl : r9 = true := hr9.2 (same_self _)
    exact ⟨_,rfl,hb9,rfl,hJ.out⟩
  · refine regs.StepOK.plain rfl fun L a w1 hh => ?_
    have h112 : a.tmps[112]?.getD undef = .bool true := by rw [← Array.getD_eq_getD_getElem?]; exact hh.dep 18 112 (by kernel_rfl) (by kernel_rfl)
    have h115 : a.tmps[115]?.getD undef = .bool true := by rw [← Array.getD_eq_getD_getElem?]; exact hh.dep 21 115 (by kernel_rfl) (by kernel_rfl)
    have hJ := Lib.hid hh.st
    clear hh
    go_simp
    exact ⟨_,rfl,regs.bl_refl _,rfl,hJ.out⟩
  · refine regs.StepOK.plain rfl fun L a w1 hh => ?_
    have h116 : a.tmps[116]?.getD undef = .bool true := by rw [← Array.getD_eq_getD_getElem?]; exact hh.dep 22 116 (by kernel_rfl) (by kernel_rfl)
    have hJ := Lib.hid hh.st
    clear hh
    go_simp
    exact ⟨_,rfl,regs.bl_refl _,rfl,hJ.out⟩
  · refine regs.StepOK.yes 23 true 117 rfl rfl (fun L a w1 hh => hh.dep 23 117 (by kernel_rfl) (by kernel_rfl)) fun L a w1 hh => ?_
    have hC := Lib.hid (awake_any w1)
    have hJ := Lib.hid hh.st
    clear hh
    go_simp
    refine hC.out.mono ?_
    rintro e w9 ⟨rfl,hb9⟩
    exact ⟨_,rfl,hb9,rfl,hJ.out⟩
  · refine regs.StepOK.plain rfl fun L a w1 hh => ?_
    have h117 : a.tmps[117]?.getD undef = .bool true := by rw [← Array.getD_eq_getD_getElem?]; exact hh.dep 23 117 (by kernel_rfl) (by kernel_rfl)
    have h118 : a.tmps[118]?.getD undef = .bool true := by rw [← Array.getD_eq_getD_getElem?]; exact hh.dep 24 118 (by kernel_rfl) (by kernel_rfl)
    have hJ := Lib.hid hh.st
    clear hh
    go_simp
    exact ⟨_,rfl,regs.bl_refl _,rfl,hJ.out⟩
  · refine regs.StepOK.plain rfl fun L a w1 hh => ?_
    have h119 : a.tmps[119]?.getD undef = .bool true := by rw [← Array.getD_eq_getD_getElem?]; exact hh.dep 25 119 (by kernel_rfl) (by kernel_rfl)
    have hJ := Lib.hid hh.st
    clear hh
    go_simp
    exact ⟨_,rfl,regs.bl_refl _,rfl,hJ.out⟩
  intro L w16 val hL hJ hR hv
  have h4 : val 4 = .bool true := hv 26 4 (by kernel_rfl)
  have HR16 := Lib.hid hR
  clear hv hL hJ hR
  simp only [regs.putAll,List.map_cons,List.map_nil,h4]
  simp only [Act.put,List.setIfInBounds_toArray,List.set_cons_zero,List.set_cons_succ]
  clear h4
  generalize val 94 = v94 at *
  generalize val 95 = v95 at *
  generalize val 96 = v96 at *
  generalize val 97 = v97 at *
  generalize val 98 = v98 at *
  generalize val 99 = v99 at *
  generalize val 100 = v100 at *
  generalize val 101 = v101 at *
  generalize val 102 = v102 at *
  generalize val 103 = v103 at *
  generalize val 104 = v104 at *
  generalize val 105 = v105 at *
  generalize val 106 = v106 at *
  generalize val 107 = v107 at *
  generalize val 108 = v108 at *
  generalize val 109 = v109 at *
  generalize val 110 = v110 at *
  generalize val 111 = v111 at *
  generalize val 112 = v112 at *
  generalize val 113 = v113 at *
  generalize val 114 = v114 at *
  generalize val 115 = v115 at *
  generalize val 116 = v116 at *
  generalize val 117 = v117 at *
  generalize val 118 = v118 at *
  generalize val 119 = v119 at *
  go_wp2_with (fail)
  go_ret
  exact ⟨rfl,HBE.out.trans (HR16.out.mono HBE.out.size)⟩
end Go.Proofs.YtehmblcbccceaaaGreat
