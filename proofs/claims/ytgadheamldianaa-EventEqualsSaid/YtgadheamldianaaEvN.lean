/-
  Layer 19: a list of what comes of each op of another one.
-/
import Derived.Test.YtgadheamldianaaEvM
namespace Go.Proofs.Ytgadheamldianaa
open Go.RowKit pxm imm

/-- ops in memory, with few pixels -/
structure OpsT (w : World) (A : Option Addr) (l : List OpR) : Prop where
  row : SRow 23 OpR.cs w A l
  px : ∀ q ∈ l, Row eW w q.A q.o.lk.l
  thin : ∀ q ∈ l, q.o.lk.l.length ≤ 300
theorem OpsT.below {w w' : World} {A : Option Addr} {l : List OpR} (h : OpsT w A l) (hb : Below w.heap.size w w') : OpsT w' A l := ⟨SRow.below h.row hb, fun q hq => Row.below (h.px q hq) hb, h.thin⟩
theorem OpsT.of {w : World} {A : Option Addr} {l : List OpR} (h : OpsR w A l) (ht : ∀ q ∈ l, q.o.lk.l.length ≤ 300) : OpsT w A l := ⟨h.row, fun q hq => (h.px q hq).1, ht⟩
/-- and behind a border -/
structure OpsB (w : World) (B : Nat) (A : Option Addr) (l : List OpR) : Prop where
  t : OpsT w A l
  ra : ∀ a, A = some a → l ≠ [] → B ≤ a.block
  pa : ∀ q ∈ l, ∀ a, q.A = some a → q.o.lk.l ≠ [] → B ≤ a.block
theorem OpsB.zero {w : World} {A : Option Addr} {l : List OpR} (h : OpsT w A l) : OpsB w 0 A l := ⟨h, fun _ _ _ => Nat.zero_le _, fun _ _ _ _ _ => Nat.zero_le _⟩
theorem OpsB.ge {w : World} {B B' : Nat} {A : Option Addr} {l : List OpR} (h : OpsB w B A l) (hb : B' ≤ B) : OpsB w B' A l := ⟨h.t, fun a e n => Nat.le_trans hb (h.ra a e n), fun q hq a e n => Nat.le_trans hb (h.pa q hq a e n)⟩
theorem OpsB.below {w w' : World} {B : Nat} {A : Option Addr} {l : List OpR} (h : OpsB w B A l) (hb : Below w.heap.size w w') : OpsB w' B A l := ⟨h.t.below hb, h.ra, h.pa⟩
theorem OpsB.stays {w w' : World} {B : Nat} {A : Option Addr} {l : List OpR} (h : OpsB w B A l) (hb : ∀ k, k < w.heap.size → B ≤ k → w'.heap[k]? = w.heap[k]?) : OpsB w' B A l :=
  ⟨⟨fun hn => by
    have hne := List.length_pos_iff.1 hn
    have hlt := fun a e => SRow.blt h.t.row (a := a) (fun _ => ⟨_, _, rfl⟩) e hne
    obtain ⟨b, off, e, hc⟩ := h.t.row hn
    refine ⟨b, off, e, fun j hj i v hv => ?_⟩
    have h1 := hc j hj i v hv
    simp only [World.cell?, hb b (hlt _ e) (h.ra _ e hne)] at h1 ⊢
    exact h1, fun q hq => (h.t.px q hq).stays_ fun a e hne => hb _ ((h.t.px q hq).inside e hne) (h.pa q hq a e hne), h.t.thin⟩, h.ra, h.pa⟩
theorem info_parts {P : Program} {T : TypeId} {z : Option Value} {k b : Nat} (h : (P.info? T).map (fun i => (i.zero, i.size, i.bytes)) = some (z, k, b)) : ∃ i, P.info? T = some i ∧ i.zero = z ∧ i.size = k ∧ i.bytes = b := by
  cases hI : P.info? T with
  | none => rw [hI] at h; cases h
  | some i =>
    rw [hI] at h
    simp only [Option.map_some, Option.some.injEq, Prod.mk.injEq] at h
    exact ⟨i, rfl, h.1, h.2.1, h.2.2⟩
theorem make_ops (n : Nat) (hn : n ≤ 2000) : ∃ zs : List Value, zs.length = n * 23 ∧ ∀ w : World, (Instr.makeSlice tOps (.int .i64 (n : Nat)) (.int .i64 (n : Nat))).run Try.prog w = .ok (.slice (some ⟨w.heap.size, 0, none⟩) n n) (w.alloc (.cells zs.toArray 52)) := by
  obtain ⟨i, hi, hz, hsize, hby⟩ := info_parts info_op
  refine ⟨(madeCells (Value.agg op9z.toArray).cells (n * 23)).toList, by rw [Array.length_toList, size_madeCells], fun w => ?_⟩
  have h := run_make (P := Try.prog) w tOps 52 i _ Try.underlying22 hi hz .i64 .i64 n n (by omega) (by omega) (by rw [hby]; omega) (by omega)
  rw [hsize, Int.toNat_natCast] at h
  rw [Array.toArray_toList]
  exact h
/-- so far laid -/
def opK (zs : List Value) (d : List OpR) : List Value := d.flatMap OpR.cs ++ zs.drop (d.length * 23)
theorem opK_len {zs : List Value} {d : List OpR} {n : Nat} (hz : zs.length = n * 23) (hd : d.length ≤ n) : (opK zs d).length = n * 23 := by
  unfold opK
  rw [List.length_append, flat_len OpR.cs_len, List.length_drop, hz]
  omega
theorem opK_step {zs : List Value} {d : List OpR} (q : OpR) {k : Nat} (hk : d.length = k) : (opK zs d).take (k * 23) ++ q.cs ++ (opK zs d).drop (k * 23 + q.cs.length) = opK zs (d ++ [q]) := by
  subst hk
  unfold opK
  have h1 := flat_len OpR.cs_len d
  rw [OpR.cs_len, ← h1, List.take_left, List.drop_append, List.drop_of_length_le (by omega), List.nil_append, List.flatMap_append, List.length_append, List.drop_drop]
  simp only [List.flatMap_cons, List.flatMap_nil, List.append_nil, List.length_cons, List.length_nil]
  rw [h1, show d.length * 23 + (d.length * 23 + 23 - d.length * 23) = (d.length + (0 + 1)) * 23 by omega]
def EachQ (φ : Op9 → Op9) (l : List OpR) (w : World) (e : Ending) (w' : World) : Prop := ∃ A9 c9 l9, e = .returned (.slice A9 l9.length c9) ∧ l9.map (·.o) = l.map (fun q => φ q.o) ∧ OpsB w' w.heap.size A9 l9 ∧ Below w.heap.size w w'
theorem EachQ.of {φ : Op9 → Op9} {l l9 : List OpR} {n g : Nat} {w w' : World} (hn : l9.length = n) (hm : l9.map (·.o) = l.map (fun q => φ q.o)) (ho : OpsB w' w.heap.size (some ⟨g, 0, none⟩) l9) (hb : Below w.heap.size w w') : EachQ φ l w (.returned (.slice (some ⟨g, 0, none⟩) n n)) w' := ⟨_, n, l9, by rw [hn], hm, ho, hb⟩
/-- a function that tells an op of an op -/
def FnQ (φ : Op9 → Op9) (f : FuncId) : Prop := ∀ (o : Op9) (A : Option Addr) (c : Nat) (w : World), Row eW w A o.lk.l → o.lk.l.length ≤ 20000000 → Calls Try.prog f #[.agg (o.cs A c).toArray] w (OpQ (φ o) w)
set_option maxHeartbeats 4000000 in
set_option maxRecDepth 100000 in
theorem each_copy (l : List OpR) (A : Option Addr) (c : Nat) (w : World) (h : OpsT w A l) (hn : l.length ≤ 2000) :
    Calls Try.prog 16 #[.slice A l.length c, .func (.func 20) #[] #[]] w (EachQ (fun o => o) l w) := by
  obtain ⟨φ, hφe⟩ : ∃ φ : Op9 → Op9, (fun o => o) = φ := ⟨_, rfl⟩
  have hf : FnQ φ 20 := by rw [← hφe]; exact fun o A c w h n => copyop_any o A c w h n
  have hφ : ∀ o, (φ o).lk.l.length ≤ o.lk.l.length := by rw [← hφe]; exact fun o => Nat.le_refl _
  rw [hφe]
  clear hφe
  obtain ⟨zs, hz, hmk⟩ := make_ops l.length hn
  have HT := Lib.hid h
  have HF := Lib.hid hf
  have HPH := Lib.hid hφ
  have HZ := Lib.hid hz
  have HN := Lib.hid hn
  have hmk := hmk w
  have hlb : (l.length : Int) ≤ 2000 := by omega
  clear h hf hφ hz hn
  have HK2 : Hid (Blk (w.alloc (.cells zs.toArray 52)) w.heap.size zs) := blk_new w zs _
  have HB2 : Hid (Below w.heap.size w (w.alloc (.cells zs.toArray 52))) := (Below.refl _ _).alloc (Nat.le_refl _) _
  go_enter Try.func16, Try.ntmps16
  go_upto_region 2 with (fail)
  clear hmk
  generalize (w.alloc (.cells zs.toArray 52)) = w2 at *
  go_wp2_with (fail)
  go_loopw [13] (fun x13 wr => ∃ (k : Nat) (d : List OpR), k ≤ l.length ∧ x13 = .int .i64 (k : Nat) ∧ Hid (d.length = k ∧ d.map (·.o) = (l.take k).map (fun q => φ q.o)) ∧ Hid (∀ q ∈ d, Pa wr (w.heap.size + 1) q.A q.o.lk.l) ∧ Hid (Blk wr w.heap.size (opK zs d)) ∧ Hid (Below w.heap.size w wr)) (fun x13 _ => l.length - (intOf x13).toNat)
  case atStart => exact ⟨0, [], Nat.zero_le _, rfl, ⟨rfl, by simp⟩, (fun q hq => by cases hq), (by show Blk _ _ _; unfold opK; simpa using HK2.out), HB2.out⟩
  case round =>
    obtain ⟨k, d, hk, rfl, HD, HP, HG, HB⟩ := hrel
    generalize wr = wA at *
    by_cases hkl : k < l.length
    · have t2 : decide (k < l.length) = true := by simpa using hkl
      have HKL := Lib.hid hkl
      obtain ⟨pb, po, rP, pcell⟩ := (HT.out.below HB.out).row (by omega)
      rw [rP] at HT ⊢
      obtain ⟨p, hp⟩ : ∃ p, p = l[k]'hkl := ⟨_, rfl⟩
      have HPM : Hid (p ∈ l) := by rw [hp]; exact List.getElem_mem hkl
      have HPT : Hid (l.take (k + 1) = l.take k ++ [p]) := by rw [hp]; exact List.take_succ_eq_append_getElem hkl
      have HRG : Hid (wA.rangeAt pb (po + k * 23) p.cs) := by
        rw [hp]
        exact fun i v hv => pcell k hkl i v hv
      have HPX := Lib.hid (HT.out.px p HPM.out)
      have HTH := Lib.hid (HT.out.thin p HPM.out)
      have HZ2 : Hid (Blk (wA.alloc (.cells #[.int .i64 0, .int .i64 0, .int .i64 0, .int .i64 0, .int .i64 0, .int .i64 0, .int .i64 0, .int .i64 0, .int .i64 0, .int .i64 0, .int .i64 0, .int .i64 0, .int .i64 0, .int .i64 0, .bool false, .int .i64 0, .int .i64 0, .int .i64 0, .int .i64 0, .int .u32 0, .int .i64 0, .int .i64 0, .slice none 0 0] 52)) wA.heap.size [.int .i64 0, .int .i64 0, .int .i64 0, .int .i64 0, .int .i64 0, .int .i64 0, .int .i64 0, .int .i64 0, .int .i64 0, .int .i64 0, .int .i64 0, .int .i64 0, .int .i64 0, .int .i64 0, .bool false, .int .i64 0, .int .i64 0, .int .i64 0, .int .i64 0, .int .u32 0, .int .i64 0, .int .i64 0, .slice none 0 0]) := blk_new wA [.int .i64 0, .int .i64 0, .int .i64 0, .int .i64 0, .int .i64 0, .int .i64 0, .int .i64 0, .int .i64 0, .int .i64 0, .int .i64 0, .int .i64 0, .int .i64 0, .int .i64 0, .int .i64 0, .bool false, .int .i64 0, .int .i64 0, .int .i64 0, .int .i64 0, .int .u32 0, .int .i64 0, .int .i64 0, .slice none 0 0] _
      have HBa : Hid (Below wA.heap.size wA (wA.alloc (.cells #[.int .i64 0, .int .i64 0, .int .i64 0, .int .i64 0, .int .i64 0, .int .i64 0, .int .i64 0, .int .i64 0, .int .i64 0, .int .i64 0, .int .i64 0, .int .i64 0, .int .i64 0, .int .i64 0, .bool false, .int .i64 0, .int .i64 0, .int .i64 0, .int .i64 0, .int .u32 0, .int .i64 0, .int .i64 0, .slice none 0 0] 52))) := (Below.refl _ _).alloc (Nat.le_refl _) _
      have c0 := HRG.out 0 (.int .i64 p.o.k) rfl
      have i0 : pb < wA.heap.size := World.block_lt_of_cell? wA ⟨pb, _, none⟩ c0
      clear c0 rP pcell hp hkl
      go_upto_region 5 with (first | ((with_reducible show wpList _ _ _ (Oper.mk _ (Op.load _ _) _ _ _ _ :: _) _ _); refine wpl_row 52 _ rfl rfl _ _ rfl (p.cs) HRG.out _ Try.underlying52 rfl (by kernel_rfl) ?_) | ((with_reducible show wpList _ _ _ (Oper.mk _ (Op.store _ _ _) _ _ _ _ :: _) _ _); refine wpl_stow 52 _ _ rfl rfl rfl _ 0 rfl (p.cs) rfl ([.int .i64 0, .int .i64 0, .int .i64 0, .int .i64 0, .int .i64 0, .int .i64 0, .int .i64 0, .int .i64 0, .int .i64 0, .int .i64 0, .int .i64 0, .int .i64 0, .int .i64 0, .int .i64 0, .bool false, .int .i64 0, .int .i64 0, .int .i64 0, .int .i64 0, .int .u32 0, .int .i64 0, .int .i64 0, .slice none 0 0]) HZ2.out (p.cs) rfl (Nat.le_of_ble_eq_true rfl) (by kernel_rfl) (Op9.one _ _ _) ?_; intro w3 HW3 HK3))
      have HB3 : Hid (Below wA.heap.size wA w3) := HW3.out.below HBa.out (Nat.le_refl _)
      have HC : Hid (∀ W, Below w.heap.size w W → Calls Try.prog 20 #[.agg p.cs.toArray] W (OpQ (φ p.o) W)) := fun W hb => HF.out p.o p.A p.c W (Row.below HPX.out hb) (by have := HTH.out; omega)
      have i1 := HK3.out.inside
      unfold OpQ at HC
      clear HZ2 HBa HW3 HRG i0
      go_wp2_with (first | ((with_reducible show wpList _ _ _ (Oper.mk _ (Op.load _ _) _ _ _ _ :: _) _ _); refine wpl_take 52 _ rfl rfl _ 0 rfl _ HK3.out (p.cs) rfl _ Try.underlying52 rfl (by kernel_rfl) ?_))
      refine (HC.out w3 (HB.out.trans (HB3.out.mono HB.out.size))).mono ?_
      rintro e w5 ⟨A9, c9, rfl, hx, hb⟩
      obtain ⟨c0, hc0⟩ : ∃ c0, opK zs d = c0 := ⟨_, rfl⟩
      obtain ⟨c1, hc1⟩ : ∃ c1, opK zs (d ++ [⟨φ p.o, A9, c9⟩]) = c1 := ⟨_, rfl⟩
      have HC1 := Lib.hid hc1
      have HST : Hid (c0.take (k * 23) ++ (⟨φ p.o, A9, c9⟩ : OpR).cs ++ c0.drop (k * 23 + (⟨φ p.o, A9, c9⟩ : OpR).cs.length) = c1) := by
        rw [← hc0, ← hc1]
        exact opK_step _ HD.out.1
      have HLE : Hid (k * 23 + (⟨φ p.o, A9, c9⟩ : OpR).cs.length ≤ c0.length) := by
        show _ ≤ _
        rw [← hc0, opK_len HZ.out (by rw [HD.out.1]; omega), OpR.cs_len]
        have := HKL.out
        omega
      rw [hc0] at HG
      have HB5 : Hid (Below wA.heap.size wA w5) := HB3.out.trans (hb.mono HB3.out.size)
      have HG5 := Lib.hid (HG.out.below' HB5.out)
      have HX5 : Hid (Pa w5 (w.heap.size + 1) A9 (φ p.o).lk.l) := hx.ge (by have := HG.out.inside; have := HB3.out.size; omega)
      have HP5 : Hid (∀ q ∈ d, Pa w5 (w.heap.size + 1) q.A q.o.lk.l) := fun q hq => (HP.out q hq).stays fun k hk _ => HB5.out.block k hk
      have HBw : Hid (Below w.heap.size w w5) := HB.out.trans (HB5.out.mono HB.out.size)
      have i2 := HG5.out.inside
      clear hb hx hc0 hc1 HB3 HC HB5 HG HP HB HPX HTH
      go_wp2_with (first | ((with_reducible show wpList _ _ _ (Oper.mk _ (Op.store _ _ _) _ _ _ _ :: _) _ _); refine wpl_stow 52 _ _ rfl rfl rfl _ (k * 23) rfl ((⟨φ p.o, A9, c9⟩ : OpR).cs) rfl (c0) HG5.out (c1) HST.out (by have := HLE.out; exact this) (by kernel_rfl) (Op9.one _ _ _) ?_; intro w6 HW6 HK6))
      have HK7 : Hid (Blk w6 w.heap.size (opK zs (d ++ [⟨φ p.o, A9, c9⟩]))) := by show Blk _ _ _; rw [HC1.out]; exact HK6.out
      go_roundw
      case rel => exact ⟨k + 1, d ++ [(⟨φ p.o, A9, c9⟩ : OpR)], HKL.out, by go_num, ⟨by rw [List.length_append, HD.out.1]; rfl, by rw [List.map_append, HD.out.2, HPT.out, List.map_append]; rfl⟩, (fun q hq => by
        rcases List.mem_append.1 hq with h1 | h1
        · exact (HP5.out q h1).stays fun j _ hj => HW6.out.far (by omega)
        · obtain rfl := List.mem_singleton.1 h1
          exact HX5.out.stays fun j _ hj => HW6.out.far (by omega)), HK7.out, HW6.out.below HBw.out (Nat.le_refl _)⟩
      case measure => have := HKL.out; simp [intOf]; omega
    · obtain rfl : k = l.length := by omega
      have t2 : decide (l.length < l.length) = false := by simp
      have HD2 : Hid (d.map (·.o) = l.map (fun q => φ q.o)) := by have := HD.out.2; rwa [List.take_length] at this
      have HO : Hid (OpsT wA (some ⟨w.heap.size, 0, none⟩) d) := by
        refine ⟨fun _ => ⟨w.heap.size, 0, rfl, fun j hj i v hv => ?_⟩, fun q hq => (HP.out q hq).1, fun q hq => ?_⟩
        · rw [HG.out.cell, Nat.zero_add]
          unfold opK
          have h1 := flat_at OpR.cs_len hj hv
          rw [List.getElem?_append_left (List.getElem?_eq_some_iff.1 h1).1]
          exact h1
        · have h1 : q.o ∈ d.map (·.o) := List.mem_map_of_mem hq
          rw [HD2.out] at h1
          obtain ⟨r, hr, e⟩ := List.mem_map.1 h1
          rw [← e]
          exact Nat.le_trans (HPH.out r.o) (HT.out.thin r hr)
      clear hkl
      go_wp2_with (fail)
      go_ret
      exact EachQ.of HD.out.1 HD2.out ⟨HO.out, (fun a e _ => by obtain rfl := Option.some.inj e; exact Nat.le_refl _), fun q hq a e hne => Nat.le_of_succ_le ((HP.out q hq).2 a e hne)⟩ HB.out
theorem plainO_thin (o : Op9) : (plainO o).lk.l.length ≤ o.lk.l.length := by
  unfold plainO
  split
  · exact Nat.zero_le _
  split
  · exact Nat.zero_le _
  split
  · exact Nat.zero_le _
  split
  · exact Nat.zero_le _
  split
  · exact Nat.zero_le _
  split
  · exact Nat.le_refl _
  split <;> exact Nat.zero_le _
set_option maxHeartbeats 4000000 in
set_option maxRecDepth 100000 in
theorem each_plain (l : List OpR) (A : Option Addr) (c : Nat) (w : World) (h : OpsT w A l) (hn : l.length ≤ 2000) :
    Calls Try.prog 16 #[.slice A l.length c, .func (.func 17) #[] #[]] w (EachQ (plainO) l w) := by
  obtain ⟨φ, hφe⟩ : ∃ φ : Op9 → Op9, (plainO) = φ := ⟨_, rfl⟩
  have hf : FnQ φ 17 := by rw [← hφe]; exact fun o A c w h n => plainop_any o A c w h n
  have hφ : ∀ o, (φ o).lk.l.length ≤ o.lk.l.length := by rw [← hφe]; exact plainO_thin
  rw [hφe]
  clear hφe
  obtain ⟨zs, hz, hmk⟩ := make_ops l.length hn
  have HT := Lib.hid h
  have HF := Lib.hid hf
  have HPH := Lib.hid hφ
  have HZ := Lib.hid hz
  have HN := Lib.hid hn
  have hmk := hmk w
  have hlb : (l.length : Int) ≤ 2000 := by omega
  clear h hf hφ hz hn
  have HK2 : Hid (Blk (w.alloc (.cells zs.toArray 52)) w.heap.size zs) := blk_new w zs _
  have HB2 : Hid (Below w.heap.size w (w.alloc (.cells zs.toArray 52))) := (Below.refl _ _).alloc (Nat.le_refl _) _
  go_enter Try.func16, Try.ntmps16
  go_upto_region 2 with (fail)
  clear hmk
  generalize (w.alloc (.cells zs.toArray 52)) = w2 at *
  go_wp2_with (fail)
  go_loopw [13] (fun x13 wr => ∃ (k : Nat) (d : List OpR), k ≤ l.length ∧ x13 = .int .i64 (k : Nat) ∧ Hid (d.length = k ∧ d.map (·.o) = (l.take k).map (fun q => φ q.o)) ∧ Hid (∀ q ∈ d, Pa wr (w.heap.size + 1) q.A q.o.lk.l) ∧ Hid (Blk wr w.heap.size (opK zs d)) ∧ Hid (Below w.heap.size w wr)) (fun x13 _ => l.length - (intOf x13).toNat)
  case atStart => exact ⟨0, [], Nat.zero_le _, rfl, ⟨rfl, by simp⟩, (fun q hq => by cases hq), (by show Blk _ _ _; unfold opK; simpa using HK2.out), HB2.out⟩
  case round =>
    obtain ⟨k, d, hk, rfl, HD, HP, HG, HB⟩ := hrel
    generalize wr = wA at *
    by_cases hkl : k < l.length
    · have t2 : decide (k < l.length) = true := by simpa using hkl
      have HKL := Lib.hid hkl
      obtain ⟨pb, po, rP, pcell⟩ := (HT.out.below HB.out).row (by omega)
      rw [rP] at HT ⊢
      obtain ⟨p, hp⟩ : ∃ p, p = l[k]'hkl := ⟨_, rfl⟩
      have HPM : Hid (p ∈ l) := by rw [hp]; exact List.getElem_mem hkl
      have HPT : Hid (l.take (k + 1) = l.take k ++ [p]) := by rw [hp]; exact List.take_succ_eq_append_getElem hkl
      have HRG : Hid (wA.rangeAt pb (po + k * 23) p.cs) := by
        rw [hp]
        exact fun i v hv => pcell k hkl i v hv
      have HPX := Lib.hid (HT.out.px p HPM.out)
      have HTH := Lib.hid (HT.out.thin p HPM.out)
      have HZ2 : Hid (Blk (wA.alloc (.cells #[.int .i64 0, .int .i64 0, .int .i64 0, .int .i64 0, .int .i64 0, .int .i64 0, .int .i64 0, .int .i64 0, .int .i64 0, .int .i64 0, .int .i64 0, .int .i64 0, .int .i64 0, .int .i64 0, .bool false, .int .i64 0, .int .i64 0, .int .i64 0, .int .i64 0, .int .u32 0, .int .i64 0, .int .i64 0, .slice none 0 0] 52)) wA.heap.size [.int .i64 0, .int .i64 0, .int .i64 0, .int .i64 0, .int .i64 0, .int .i64 0, .int .i64 0, .int .i64 0, .int .i64 0, .int .i64 0, .int .i64 0, .int .i64 0, .int .i64 0, .int .i64 0, .bool false, .int .i64 0, .int .i64 0, .int .i64 0, .int .i64 0, .int .u32 0, .int .i64 0, .int .i64 0, .slice none 0 0]) := blk_new wA [.int .i64 0, .int .i64 0, .int .i64 0, .int .i64 0, .int .i64 0, .int .i64 0, .int .i64 0, .int .i64 0, .int .i64 0, .int .i64 0, .int .i64 0, .int .i64 0, .int .i64 0, .int .i64 0, .bool false, .int .i64 0, .int .i64 0, .int .i64 0, .int .i64 0, .int .u32 0, .int .i64 0, .int .i64 0, .slice none 0 0] _
      have HBa : Hid (Below wA.heap.size wA (wA.alloc (.cells #[.int .i64 0, .int .i64 0, .int .i64 0, .int .i64 0, .int .i64 0, .int .i64 0, .int .i64 0, .int .i64 0, .int .i64 0, .int .i64 0, .int .i64 0, .int .i64 0, .int .i64 0, .int .i64 0, .bool false, .int .i64 0, .int .i64 0, .int .i64 0, .int .i64 0, .int .u32 0, .int .i64 0, .int .i64 0, .slice none 0 0] 52))) := (Below.refl _ _).alloc (Nat.le_refl _) _
      have c0 := HRG.out 0 (.int .i64 p.o.k) rfl
      have i0 : pb < wA.heap.size := World.block_lt_of_cell? wA ⟨pb, _, none⟩ c0
      clear c0 rP pcell hp hkl
      go_upto_region 5 with (first | ((with_reducible show wpList _ _ _ (Oper.mk _ (Op.load _ _) _ _ _ _ :: _) _ _); refine wpl_row 52 _ rfl rfl _ _ rfl (p.cs) HRG.out _ Try.underlying52 rfl (by kernel_rfl) ?_) | ((with_reducible show wpList _ _ _ (Oper.mk _ (Op.store _ _ _) _ _ _ _ :: _) _ _); refine wpl_stow 52 _ _ rfl rfl rfl _ 0 rfl (p.cs) rfl ([.int .i64 0, .int .i64 0, .int .i64 0, .int .i64 0, .int .i64 0, .int .i64 0, .int .i64 0, .int .i64 0, .int .i64 0, .int .i64 0, .int .i64 0, .int .i64 0, .int .i64 0, .int .i64 0, .bool false, .int .i64 0, .int .i64 0, .int .i64 0, .int .i64 0, .int .u32 0, .int .i64 0, .int .i64 0, .slice none 0 0]) HZ2.out (p.cs) rfl (Nat.le_of_ble_eq_true rfl) (by kernel_rfl) (Op9.one _ _ _) ?_; intro w3 HW3 HK3))
      have HB3 : Hid (Below wA.heap.size wA w3) := HW3.out.below HBa.out (Nat.le_refl _)
      have HC : Hid (∀ W, Below w.heap.size w W → Calls Try.prog 17 #[.agg p.cs.toArray] W (OpQ (φ p.o) W)) := fun W hb => HF.out p.o p.A p.c W (Row.below HPX.out hb) (by have := HTH.out; omega)
      have i1 := HK3.out.inside
      unfold OpQ at HC
      clear HZ2 HBa HW3 HRG i0
      go_wp2_with (first | ((with_reducible show wpList _ _ _ (Oper.mk _ (Op.load _ _) _ _ _ _ :: _) _ _); refine wpl_take 52 _ rfl rfl _ 0 rfl _ HK3.out (p.cs) rfl _ Try.underlying52 rfl (by kernel_rfl) ?_))
      refine (HC.out w3 (HB.out.trans (HB3.out.mono HB.out.size))).mono ?_
      rintro e w5 ⟨A9, c9, rfl, hx, hb⟩
      obtain ⟨c0, hc0⟩ : ∃ c0, opK zs d = c0 := ⟨_, rfl⟩
      obtain ⟨c1, hc1⟩ : ∃ c1, opK zs (d ++ [⟨φ p.o, A9, c9⟩]) = c1 := ⟨_, rfl⟩
      have HC1 := Lib.hid hc1
      have HST : Hid (c0.take (k * 23) ++ (⟨φ p.o, A9, c9⟩ : OpR).cs ++ c0.drop (k * 23 + (⟨φ p.o, A9, c9⟩ : OpR).cs.length) = c1) := by
        rw [← hc0, ← hc1]
        exact opK_step _ HD.out.1
      have HLE : Hid (k * 23 + (⟨φ p.o, A9, c9⟩ : OpR).cs.length ≤ c0.length) := by
        show _ ≤ _
        rw [← hc0, opK_len HZ.out (by rw [HD.out.1]; omega), OpR.cs_len]
        have := HKL.out
        omega
      rw [hc0] at HG
      have HB5 : Hid (Below wA.heap.size wA w5) := HB3.out.trans (hb.mono HB3.out.size)
      have HG5 := Lib.hid (HG.out.below' HB5.out)
      have HX5 : Hid (Pa w5 (w.heap.size + 1) A9 (φ p.o).lk.l) := hx.ge (by have := HG.out.inside; have := HB3.out.size; omega)
      have HP5 : Hid (∀ q ∈ d, Pa w5 (w.heap.size + 1) q.A q.o.lk.l) := fun q hq => (HP.out q hq).stays fun k hk _ => HB5.out.block k hk
      have HBw : Hid (Below w.heap.size w w5) := HB.out.trans (HB5.out.mono HB.out.size)
      have i2 := HG5.out.inside
      clear hb hx hc0 hc1 HB3 HC HB5 HG HP HB HPX HTH
      go_wp2_with (first | ((with_reducible show wpList _ _ _ (Oper.mk _ (Op.store _ _ _) _ _ _ _ :: _) _ _); refine wpl_stow 52 _ _ rfl rfl rfl _ (k * 23) rfl ((⟨φ p.o, A9, c9⟩ : OpR).cs) rfl (c0) HG5.out (c1) HST.out (by have := HLE.out; exact this) (by kernel_rfl) (Op9.one _ _ _) ?_; intro w6 HW6 HK6))
      have HK7 : Hid (Blk w6 w.heap.size (opK zs (d ++ [⟨φ p.o, A9, c9⟩]))) := by show Blk _ _ _; rw [HC1.out]; exact HK6.out
      go_roundw
      case rel => exact ⟨k + 1, d ++ [(⟨φ p.o, A9, c9⟩ : OpR)], HKL.out, by go_num, ⟨by rw [List.length_append, HD.out.1]; rfl, by rw [List.map_append, HD.out.2, HPT.out, List.map_append]; rfl⟩, (fun q hq => by
        rcases List.mem_append.1 hq with h1 | h1
        · exact (HP5.out q h1).stays fun j _ hj => HW6.out.far (by omega)
        · obtain rfl := List.mem_singleton.1 h1
          exact HX5.out.stays fun j _ hj => HW6.out.far (by omega)), HK7.out, HW6.out.below HBw.out (Nat.le_refl _)⟩
      case measure => have := HKL.out; simp [intOf]; omega
    · obtain rfl : k = l.length := by omega
      have t2 : decide (l.length < l.length) = false := by simp
      have HD2 : Hid (d.map (·.o) = l.map (fun q => φ q.o)) := by have := HD.out.2; rwa [List.take_length] at this
      have HO : Hid (OpsT wA (some ⟨w.heap.size, 0, none⟩) d) := by
        refine ⟨fun _ => ⟨w.heap.size, 0, rfl, fun j hj i v hv => ?_⟩, fun q hq => (HP.out q hq).1, fun q hq => ?_⟩
        · rw [HG.out.cell, Nat.zero_add]
          unfold opK
          have h1 := flat_at OpR.cs_len hj hv
          rw [List.getElem?_append_left (List.getElem?_eq_some_iff.1 h1).1]
          exact h1
        · have h1 : q.o ∈ d.map (·.o) := List.mem_map_of_mem hq
          rw [HD2.out] at h1
          obtain ⟨r, hr, e⟩ := List.mem_map.1 h1
          rw [← e]
          exact Nat.le_trans (HPH.out r.o) (HT.out.thin r hr)
      clear hkl
      go_wp2_with (fail)
      go_ret
      exact EachQ.of HD.out.1 HD2.out ⟨HO.out, (fun a e _ => by obtain rfl := Option.some.inj e; exact Nat.le_refl _), fun q hq a e hne => Nat.le_of_succ_le ((HP.out q hq).2 a e hne)⟩ HB.out
end Go.Proofs.Ytgadheamldianaa
