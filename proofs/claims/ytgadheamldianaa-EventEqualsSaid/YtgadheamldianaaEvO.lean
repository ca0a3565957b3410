/-
  Layer 19: events made, and their plain forms, by the program.
-/
import Derived.Test.YtgadheamldianaaEvN
namespace Go.Proofs.Ytgadheamldianaa
open Go.RowKit pxm imm

/-- an event -/
structure EV where
  k : Int
  os : List Op9
  x : Int
  y : Int
  n : Int
def evl (k : Int) (A : Option Addr) (m c : Nat) (x y n : Int) : List Value := [.int .i64 k, .slice A m c, .int .i64 x, .int .i64 y, .int .u64 n]
def EV.cs (v : EV) (A : Option Addr) (c : Nat) : List Value := evl v.k A v.os.length c v.x v.y v.n
theorem EV.one (v : EV) (A : Option Addr) (c : Nat) : (v.cs A c).all (·.oneCell') = true := rfl
theorem evl_one (k : Int) (A : Option Addr) (m c : Nat) (x y n : Int) : (evl k A m c x y n).all (·.oneCell') = true := rfl
/-- an event's ops in memory, behind a border -/
def OpsE (w : World) (B : Nat) (A : Option Addr) (os : List Op9) : Prop := ∃ l : List OpR, l.map (·.o) = os ∧ OpsB w B A l
theorem OpsE.below {w w' : World} {B : Nat} {A : Option Addr} {os : List Op9} (h : OpsE w B A os) (hb : Below w.heap.size w w') : OpsE w' B A os := by
  obtain ⟨l, e, ho⟩ := h
  exact ⟨l, e, ho.below hb⟩
theorem OpsE.stays {w w' : World} {B : Nat} {A : Option Addr} {os : List Op9} (h : OpsE w B A os) (hb : ∀ k, k < w.heap.size → B ≤ k → w'.heap[k]? = w.heap[k]?) : OpsE w' B A os := by
  obtain ⟨l, e, ho⟩ := h
  exact ⟨l, e, ho.stays hb⟩
theorem OpsE.ge {w : World} {B B' : Nat} {A : Option Addr} {os : List Op9} (h : OpsE w B A os) (hb : B' ≤ B) : OpsE w B' A os := by
  obtain ⟨l, e, ho⟩ := h
  exact ⟨l, e, ho.ge hb⟩
theorem OpsE.no (w : World) (B : Nat) : OpsE w B none [] := ⟨[], rfl, ⟨fun h => absurd h (by simp), (fun _ h => by cases h), fun _ h => by cases h⟩, (fun _ e => nomatch e), fun _ h => by cases h⟩
def EvQ (v : EV) (w : World) (e : Ending) (w' : World) : Prop := ∃ A9 c9, e = .returned (.agg (v.cs A9 c9).toArray) ∧ OpsE w' w.heap.size A9 v.os ∧ Below w.heap.size w w'
theorem EvQ.of {v : EV} {w w' : World} {A9 : Option Addr} {c9 : Nat} {ls : List Value} (hl : ls = v.cs A9 c9) (h1 : OpsE w' w.heap.size A9 v.os) (h2 : Below w.heap.size w w') : EvQ v w (.returned (.agg ls.toArray)) w' := ⟨A9, c9, by rw [hl], h1, h2⟩
def plainE (v : EV) : EV :=
  if v.k = 1 then ⟨1, v.os.map plainO, 0, 0, 0⟩ else if v.k = 2 then ⟨2, [], v.x, v.y, 0⟩ else if v.k = 3 ∨ v.k = 4 ∨ v.k = 5 then ⟨v.k, [], 0, 0, v.n⟩ else ⟨v.k, [], 0, 0, 0⟩
theorem build_e1 (A : Option Addr) (m c : Nat) (w : World) : (Instr.build 25 #[(0, .int .i64 1), (1, .slice A m c)]).run Try.prog w = .ok (.agg (evl 1 A m c 0 0 0).toArray) w := by kernel_rfl
theorem build_e2 (x y : Int) (w : World) : (Instr.build 25 #[(0, .int .i64 2), (2, .int .i64 x), (3, .int .i64 y)]).run Try.prog w = .ok (.agg (evl 2 none 0 0 x y 0).toArray) w := by kernel_rfl
theorem build_e3 (k n : Int) (w : World) : (Instr.build 25 #[(0, .int .i64 k), (4, .int .u64 n)]).run Try.prog w = .ok (.agg (evl k none 0 0 0 0 n).toArray) w := by kernel_rfl
theorem build_e0 (k : Int) (w : World) : (Instr.build 25 #[(0, .int .i64 k)]).run Try.prog w = .ok (.agg (evl k none 0 0 0 0 0).toArray) w := by kernel_rfl
set_option maxHeartbeats 2000000 in
theorem at_any (x y : Int) (w : World) : Calls Try.prog 13 #[.int .i64 x, .int .i64 y] w (EvQ ⟨2, [], x, y, 0⟩ w) := by
  have HK0 : Hid (Blk (w.alloc (.cells #[.int .i64 0, .slice none 0 0, .int .i64 0, .int .i64 0, .int .u64 0] 25)) w.heap.size (evl 0 none 0 0 0 0 0)) := blk_new w (evl 0 none 0 0 0 0 0) _
  have HB0 : Hid (Below w.heap.size w (w.alloc (.cells #[.int .i64 0, .slice none 0 0, .int .i64 0, .int .i64 0, .int .u64 0] 25))) := (Below.refl _ _).alloc (Nat.le_refl _) _
  go_enter Try.func13, Try.ntmps13
  go_wp2_with (first | ((with_reducible show wpList _ _ _ (Oper.mk _ (Op.store _ _ _) _ _ _ _ :: _) _ _); refine wpl_stow 25 _ _ rfl rfl rfl _ 0 rfl (evl 2 none 0 0 x y 0) rfl ((evl 0 none 0 0 0 0 0)) HK0.out (evl 2 none 0 0 x y 0) rfl (Nat.le_of_ble_eq_true rfl) (by kernel_rfl) (evl_one _ _ _ _ _ _ _) ?_; intro w3 HW3 HK3) | ((with_reducible show wpList _ _ _ (Oper.mk _ (Op.build _ _) _ _ _ _ :: _) _ _); refine wpl_build _ _ rfl rfl (by simp [go_sem]) (build_e2 x y _) ?_))
  exact blk_ret rfl rfl HK3.out Try.underlying25 rfl (by kernel_rfl) (EvQ.of (A9 := none) (c9 := 0) rfl (OpsE.no _ _) (HW3.out.below HB0.out (Nat.le_refl _)))
set_option maxHeartbeats 2000000 in
theorem number_any (k n : Int) (w : World) : Calls Try.prog 14 #[.int .i64 k, .int .u64 n] w (EvQ ⟨k, [], 0, 0, n⟩ w) := by
  have HK0 : Hid (Blk (w.alloc (.cells #[.int .i64 0, .slice none 0 0, .int .i64 0, .int .i64 0, .int .u64 0] 25)) w.heap.size (evl 0 none 0 0 0 0 0)) := blk_new w (evl 0 none 0 0 0 0 0) _
  have HB0 : Hid (Below w.heap.size w (w.alloc (.cells #[.int .i64 0, .slice none 0 0, .int .i64 0, .int .i64 0, .int .u64 0] 25))) := (Below.refl _ _).alloc (Nat.le_refl _) _
  go_enter Try.func14, Try.ntmps14
  go_wp2_with (first | ((with_reducible show wpList _ _ _ (Oper.mk _ (Op.store _ _ _) _ _ _ _ :: _) _ _); refine wpl_stow 25 _ _ rfl rfl rfl _ 0 rfl (evl k none 0 0 0 0 n) rfl ((evl 0 none 0 0 0 0 0)) HK0.out (evl k none 0 0 0 0 n) rfl (Nat.le_of_ble_eq_true rfl) (by kernel_rfl) (evl_one _ _ _ _ _ _ _) ?_; intro w3 HW3 HK3) | ((with_reducible show wpList _ _ _ (Oper.mk _ (Op.build _ _) _ _ _ _ :: _) _ _); refine wpl_build _ _ rfl rfl (by simp [go_sem]) (build_e3 k n _) ?_))
  exact blk_ret rfl rfl HK3.out Try.underlying25 rfl (by kernel_rfl) (EvQ.of (A9 := none) (c9 := 0) rfl (OpsE.no _ _) (HW3.out.below HB0.out (Nat.le_refl _)))
set_option maxHeartbeats 2000000 in
theorem of_any (l : List OpR) (A : Option Addr) (c : Nat) (w : World) (h : OpsT w A l) (hn : l.length ≤ 2000) : Calls Try.prog 12 #[.slice A l.length c] w (EvQ ⟨1, l.map (·.o), 0, 0, 0⟩ w) := by
  have HC := Lib.hid (fun w h => each_copy l A c w h hn)
  have HT := Lib.hid h
  unfold EachQ at HC
  clear h hn
  have HK0 : Hid (Blk (w.alloc (.cells #[.int .i64 0, .slice none 0 0, .int .i64 0, .int .i64 0, .int .u64 0] 25)) w.heap.size (evl 0 none 0 0 0 0 0)) := blk_new w (evl 0 none 0 0 0 0 0) _
  have HB0 : Hid (Below w.heap.size w (w.alloc (.cells #[.int .i64 0, .slice none 0 0, .int .i64 0, .int .i64 0, .int .u64 0] 25))) := (Below.refl _ _).alloc (Nat.le_refl _) _
  go_enter Try.func12, Try.ntmps12
  go_wp2_with (fail)
  refine (HC.out _ (HT.out.below HB0.out)).mono ?_
  rintro e w1 ⟨A9, c9, l9, rfl, hm, ho, hb⟩
  have HM := Lib.hid hm
  have HL : Hid (l9.length = (l.map (·.o)).length) := by show _ = _; rw [← hm, List.length_map]
  have HO := Lib.hid ho
  have HB1 : Hid (Below w.heap.size w w1) := HB0.out.trans (hb.mono HB0.out.size)
  have HK1 := Lib.hid (HK0.out.below' hb)
  have HS0 : Hid (w.heap.size < (w.alloc (.cells #[.int .i64 0, .slice none 0 0, .int .i64 0, .int .i64 0, .int .u64 0] 25)).heap.size) := HK0.out.inside
  generalize (w.alloc (.cells #[.int .i64 0, .slice none 0 0, .int .i64 0, .int .i64 0, .int .u64 0] 25)) = w0 at *
  clear hm ho hb HK0 HB0 HC
  go_wp2_with (first | ((with_reducible show wpList _ _ _ (Oper.mk _ (Op.store _ _ _) _ _ _ _ :: _) _ _); refine wpl_stow 25 _ _ rfl rfl rfl _ 0 rfl (evl 1 A9 l9.length c9 0 0 0) rfl ((evl 0 none 0 0 0 0 0)) HK1.out (evl 1 A9 l9.length c9 0 0 0) rfl (Nat.le_of_ble_eq_true rfl) (by kernel_rfl) (evl_one _ _ _ _ _ _ _) ?_; intro w3 HW3 HK3) | ((with_reducible show wpList _ _ _ (Oper.mk _ (Op.build _ _) _ _ _ _ :: _) _ _); refine wpl_build _ _ rfl rfl (by simp [go_sem]) (build_e1 A9 l9.length c9 _) ?_))
  exact blk_ret rfl rfl HK3.out Try.underlying25 rfl (by kernel_rfl) (EvQ.of (A9 := A9) (c9 := c9) (by unfold EV.cs; rw [HL.out]) (((show OpsE _ _ _ _ from ⟨l9, HM.out, HO.out⟩).stays fun k _ hk => HW3.out.far (by have := HS0.out; omega)).ge (by have := HS0.out; omega)) (HW3.out.below HB1.out (Nat.le_refl _)))
set_option maxHeartbeats 4000000 in
set_option maxRecDepth 100000 in
theorem plain_any_ (v : EV) (A : Option Addr) (c : Nat) (w : World) (h : OpsE w 0 A v.os) (hn : v.os.length ≤ 2000) : Calls Try.prog 8 #[.agg (v.cs A c).toArray] w (EvQ (plainE v) w) := by
  obtain ⟨l, hlo, hob⟩ := h
  have hll : l.length = v.os.length := by rw [← hlo, List.length_map]
  have HLO := Lib.hid hlo
  have HCE : Hid (∀ W, Below w.heap.size w W → Calls Try.prog 16 #[.slice A v.os.length c, .func (.func 17) #[] #[]] W (EachQ plainO l W)) := fun W hb => by
    rw [← hll]
    exact each_plain l A c W (hob.t.below hb) (by omega)
  unfold EachQ at HCE
  clear hlo hob hll hn
  obtain ⟨X, hX⟩ : ∃ X, plainE v = X := ⟨_, rfl⟩
  rw [hX]
  have HPX := Lib.hid hX
  clear hX
  have HB0 : Hid (Below w.heap.size w ((w.alloc (.cells (v.cs A c).toArray 25)).alloc (.cells #[.int .i64 0, .slice none 0 0, .int .i64 0, .int .i64 0, .int .u64 0] 25))) := ((Below.refl _ _).alloc (Nat.le_refl _) _).alloc (by simp) _
  have HK0 : Hid (Blk ((w.alloc (.cells (v.cs A c).toArray 25)).alloc (.cells #[.int .i64 0, .slice none 0 0, .int .i64 0, .int .i64 0, .int .u64 0] 25)) w.heap.size (v.cs A c)) := (blk_new w (v.cs A c) _).alloc _
  have HKr0 : Hid (Blk ((w.alloc (.cells (v.cs A c).toArray 25)).alloc (.cells #[.int .i64 0, .slice none 0 0, .int .i64 0, .int .i64 0, .int .u64 0] 25)) (w.heap.size + 1) (evl 0 none 0 0 0 0 0)) := blk_at (w.alloc _) _ (by simp) (evl 0 none 0 0 0 0 0) _
  have HSZ : Hid (w.heap.size + 2 ≤ ((w.alloc (.cells (v.cs A c).toArray 25)).alloc (.cells #[.int .i64 0, .slice none 0 0, .int .i64 0, .int .i64 0, .int .u64 0] 25)).heap.size) := by simp [Hid]
  go_enter Try.func8, Try.ntmps8
  go_upto_region 1 with (fail)
  generalize ((w.alloc (.cells (v.cs A c).toArray 25)).alloc (.cells #[.int .i64 0, .slice none 0 0, .int .i64 0, .int .i64 0, .int .u64 0] 25)) = w0 at *
  have c0 : w0.cell? ⟨w.heap.size, 0, none⟩ = some (.int .i64 v.k) := HK0.out.cell 0
  have c1 : w0.cell? ⟨w.heap.size, 1, none⟩ = some (.slice A v.os.length c) := HK0.out.cell 1
  have c2 : w0.cell? ⟨w.heap.size, 2, none⟩ = some (.int .i64 v.x) := HK0.out.cell 2
  have c3 : w0.cell? ⟨w.heap.size, 3, none⟩ = some (.int .i64 v.y) := HK0.out.cell 3
  have c4 : w0.cell? ⟨w.heap.size, 4, none⟩ = some (.int .u64 v.n) := HK0.out.cell 4
  have i0 : w.heap.size < w0.heap.size := HK0.out.inside
  have i1 : w.heap.size + 1 < w0.heap.size := HKr0.out.inside
  by_cases h1 : v.k = 1
  · have t1 : (v.k == 1) = true := by simpa using h1
    obtain rfl : X = ⟨1, v.os.map plainO, 0, 0, 0⟩ := by rw [← HPX.out]; unfold plainE; rw [if_pos h1]
    clear h1 HPX
    go_wp2_with (fail)
    refine (HCE.out w0 HB0.out).mono ?_
    rintro e w1 ⟨A9, c9, l9, rfl, hm, ho, hb⟩
    have HM : Hid (l9.map (·.o) = v.os.map plainO) := by show _ = _; rw [hm, ← HLO.out, List.map_map]; rfl
    have HL : Hid (l9.length = (v.os.map plainO).length) := by show _ = _; rw [← HM.out, List.length_map]
    have HO := Lib.hid ho
    have HB1 : Hid (Below w.heap.size w w1) := HB0.out.trans (hb.mono HB0.out.size)
    have HK1 := Lib.hid (HKr0.out.below' hb)
    clear hm ho hb HCE HKr0 HB0 HK0 c0 c2 c3 c4 i0 i1
    go_wp2_with (first | ((with_reducible show wpList _ _ _ (Oper.mk _ (Op.store _ _ _) _ _ _ _ :: _) _ _); refine wpl_stow 25 _ _ rfl rfl rfl _ 0 rfl (evl 1 A9 l9.length c9 0 0 0) rfl ((evl 0 none 0 0 0 0 0)) HK1.out (evl 1 A9 l9.length c9 0 0 0) rfl (Nat.le_of_ble_eq_true rfl) (by kernel_rfl) (evl_one _ _ _ _ _ _ _) ?_; intro w3 HW3 HK3) | ((with_reducible show wpList _ _ _ (Oper.mk _ (Op.build _ _) _ _ _ _ :: _) _ _); refine wpl_build _ _ rfl rfl (by simp [go_sem]) (build_e1 A9 l9.length c9 _) ?_))
    exact blk_ret rfl rfl HK3.out Try.underlying25 rfl (by kernel_rfl) (EvQ.of (A9 := A9) (c9 := c9) (by unfold EV.cs; rw [HL.out]) (((show OpsE _ _ _ _ from ⟨l9, HM.out, HO.out⟩).stays fun k _ hk => HW3.out.far (by have := HSZ.out; omega)).ge (by have := HSZ.out; omega)) (HW3.out.below HB1.out (by omega)))
  by_cases h2 : v.k = 2
  · have t1 : (v.k == 1) = false := by simpa using h1
    have t2 : (v.k == 2) = true := by simpa using h2
    obtain rfl : X = ⟨2, [], v.x, v.y, 0⟩ := by rw [← HPX.out]; unfold plainE; rw [if_neg h1, if_pos h2]
    have hk2 := Lib.hid h2
    clear h1 h2 HPX
    have HC := Lib.hid (at_any v.x v.y w0)
    unfold EvQ at HC
    go_wp2_with (fail)
    refine HC.out.mono ?_
    rintro e w1 ⟨A9, c9, rfl, ho, hb⟩
    have HO := Lib.hid ho
    have HB1 : Hid (Below w.heap.size w w1) := HB0.out.trans (hb.mono HB0.out.size)
    have HK1 := Lib.hid (HKr0.out.below' hb)
    clear ho hb HC HKr0 HB0 HK0 c0 c2 c3 c4 i0 i1
    go_wp2_with (first | ((with_reducible show wpList _ _ _ (Oper.mk _ (Op.store _ _ _) _ _ _ _ :: _) _ _); refine wpl_stow 25 _ _ rfl rfl rfl _ 0 rfl ((⟨2, [], v.x, v.y, 0⟩ : EV).cs A9 c9) rfl ((evl 0 none 0 0 0 0 0)) HK1.out ((⟨2, [], v.x, v.y, 0⟩ : EV).cs A9 c9) rfl (Nat.le_of_ble_eq_true rfl) (by kernel_rfl) (EV.one _ _ _) ?_; intro w3 HW3 HK3))
    exact blk_ret rfl rfl HK3.out Try.underlying25 rfl (by kernel_rfl) (EvQ.of (A9 := A9) (c9 := c9) rfl ((HO.out.stays fun k _ hk => HW3.out.far (by have := HSZ.out; omega)).ge (by have := HSZ.out; omega)) (HW3.out.below HB1.out (by omega)))
  by_cases h3 : v.k = 3
  · have t1 : (v.k == 1) = false := by simpa using h1
    have t2 : (v.k == 2) = false := by simpa using h2
    have t3 : (v.k == 3) = true := by simpa using h3
    obtain rfl : X = ⟨v.k, [], 0, 0, v.n⟩ := by rw [← HPX.out]; unfold plainE; rw [if_neg h1, if_neg h2, if_pos (Or.inl h3)]
    clear h1 h2 h3 HPX
    have HC := Lib.hid (number_any v.k v.n w0)
    unfold EvQ at HC
    go_wp2_with (fail)
    refine HC.out.mono ?_
    rintro e w1 ⟨A9, c9, rfl, ho, hb⟩
    have HO := Lib.hid ho
    have HB1 : Hid (Below w.heap.size w w1) := HB0.out.trans (hb.mono HB0.out.size)
    have HK1 := Lib.hid (HKr0.out.below' hb)
    clear ho hb HC HKr0 HB0 HK0 c0 c2 c3 c4 i0 i1
    go_wp2_with (first | ((with_reducible show wpList _ _ _ (Oper.mk _ (Op.store _ _ _) _ _ _ _ :: _) _ _); refine wpl_stow 25 _ _ rfl rfl rfl _ 0 rfl ((⟨v.k, [], 0, 0, v.n⟩ : EV).cs A9 c9) rfl ((evl 0 none 0 0 0 0 0)) HK1.out ((⟨v.k, [], 0, 0, v.n⟩ : EV).cs A9 c9) rfl (Nat.le_of_ble_eq_true rfl) (by kernel_rfl) (EV.one _ _ _) ?_; intro w3 HW3 HK3))
    exact blk_ret rfl rfl HK3.out Try.underlying25 rfl (by kernel_rfl) (EvQ.of (A9 := A9) (c9 := c9) rfl ((HO.out.stays fun k _ hk => HW3.out.far (by have := HSZ.out; omega)).ge (by have := HSZ.out; omega)) (HW3.out.below HB1.out (by omega)))
  by_cases h4 : v.k = 4
  · have t1 : (v.k == 1) = false := by simpa using h1
    have t2 : (v.k == 2) = false := by simpa using h2
    have t3 : (v.k == 3) = false := by simpa using h3
    have t4 : (v.k == 4) = true := by simpa using h4
    obtain rfl : X = ⟨v.k, [], 0, 0, v.n⟩ := by rw [← HPX.out]; unfold plainE; rw [if_neg h1, if_neg h2, if_pos (Or.inr (Or.inl h4))]
    clear h1 h2 h3 h4 HPX
    have HC := Lib.hid (number_any v.k v.n w0)
    unfold EvQ at HC
    go_wp2_with (fail)
    refine HC.out.mono ?_
    rintro e w1 ⟨A9, c9, rfl, ho, hb⟩
    have HO := Lib.hid ho
    have HB1 : Hid (Below w.heap.size w w1) := HB0.out.trans (hb.mono HB0.out.size)
    have HK1 := Lib.hid (HKr0.out.below' hb)
    clear ho hb HC HKr0 HB0 HK0 c0 c2 c3 c4 i0 i1
    go_wp2_with (first | ((with_reducible show wpList _ _ _ (Oper.mk _ (Op.store _ _ _) _ _ _ _ :: _) _ _); refine wpl_stow 25 _ _ rfl rfl rfl _ 0 rfl ((⟨v.k, [], 0, 0, v.n⟩ : EV).cs A9 c9) rfl ((evl 0 none 0 0 0 0 0)) HK1.out ((⟨v.k, [], 0, 0, v.n⟩ : EV).cs A9 c9) rfl (Nat.le_of_ble_eq_true rfl) (by kernel_rfl) (EV.one _ _ _) ?_; intro w3 HW3 HK3))
    exact blk_ret rfl rfl HK3.out Try.underlying25 rfl (by kernel_rfl) (EvQ.of (A9 := A9) (c9 := c9) rfl ((HO.out.stays fun k _ hk => HW3.out.far (by have := HSZ.out; omega)).ge (by have := HSZ.out; omega)) (HW3.out.below HB1.out (by omega)))
  by_cases h5 : v.k = 5
  · have t1 : (v.k == 1) = false := by simpa using h1
    have t2 : (v.k == 2) = false := by simpa using h2
    have t3 : (v.k == 3) = false := by simpa using h3
    have t4 : (v.k == 4) = false := by simpa using h4
    have t5 : (v.k == 5) = true := by simpa using h5
    obtain rfl : X = ⟨v.k, [], 0, 0, v.n⟩ := by rw [← HPX.out]; unfold plainE; rw [if_neg h1, if_neg h2, if_pos (Or.inr (Or.inr h5))]
    clear h1 h2 h3 h4 h5 HPX
    have HC := Lib.hid (number_any v.k v.n w0)
    unfold EvQ at HC
    go_wp2_with (fail)
    refine HC.out.mono ?_
    rintro e w1 ⟨A9, c9, rfl, ho, hb⟩
    have HO := Lib.hid ho
    have HB1 : Hid (Below w.heap.size w w1) := HB0.out.trans (hb.mono HB0.out.size)
    have HK1 := Lib.hid (HKr0.out.below' hb)
    clear ho hb HC HKr0 HB0 HK0 c0 c2 c3 c4 i0 i1
    go_wp2_with (first | ((with_reducible show wpList _ _ _ (Oper.mk _ (Op.store _ _ _) _ _ _ _ :: _) _ _); refine wpl_stow 25 _ _ rfl rfl rfl _ 0 rfl ((⟨v.k, [], 0, 0, v.n⟩ : EV).cs A9 c9) rfl ((evl 0 none 0 0 0 0 0)) HK1.out ((⟨v.k, [], 0, 0, v.n⟩ : EV).cs A9 c9) rfl (Nat.le_of_ble_eq_true rfl) (by kernel_rfl) (EV.one _ _ _) ?_; intro w3 HW3 HK3))
    exact blk_ret rfl rfl HK3.out Try.underlying25 rfl (by kernel_rfl) (EvQ.of (A9 := A9) (c9 := c9) rfl ((HO.out.stays fun k _ hk => HW3.out.far (by have := HSZ.out; omega)).ge (by have := HSZ.out; omega)) (HW3.out.below HB1.out (by omega)))
  have t1 : (v.k == 1) = false := by simpa using h1
  have t2 : (v.k == 2) = false := by simpa using h2
  have t3 : (v.k == 3) = false := by simpa using h3
  have t4 : (v.k == 4) = false := by simpa using h4
  have t5 : (v.k == 5) = false := by simpa using h5
  obtain rfl : X = ⟨v.k, [], 0, 0, 0⟩ := by rw [← HPX.out]; unfold plainE; rw [if_neg h1, if_neg h2, if_neg (by omega)]
  clear h1 h2 h3 h4 h5 HPX
  go_wp2_with (first | ((with_reducible show wpList _ _ _ (Oper.mk _ (Op.store _ _ _) _ _ _ _ :: _) _ _); refine wpl_stow 25 _ _ rfl rfl rfl _ 0 rfl (evl v.k none 0 0 0 0 0) rfl ((evl 0 none 0 0 0 0 0)) HKr0.out (evl v.k none 0 0 0 0 0) rfl (Nat.le_of_ble_eq_true rfl) (by kernel_rfl) (evl_one _ _ _ _ _ _ _) ?_; intro w3 HW3 HK3) | ((with_reducible show wpList _ _ _ (Oper.mk _ (Op.build _ _) _ _ _ _ :: _) _ _); refine wpl_build _ _ rfl rfl (by simp [go_sem]) (build_e0 v.k _) ?_))
  exact blk_ret rfl rfl HK3.out Try.underlying25 rfl (by kernel_rfl) (EvQ.of (A9 := none) (c9 := 0) rfl (OpsE.no _ _) (HW3.out.below HB0.out (by omega)))
end Go.Proofs.Ytgadheamldianaa
