/-
  PixelEnds: the law's walk.
-/
import Derived.Test.YtolekbgbcahfgaaPxH
import Derived.Deep.DeepCutAuto
import Derived.Deep.CutBlock
namespace Go.Proofs.Ytolekbgbcahfgaa
open Go.RowKit pxm

theorem info_px' : ∃ i, Try.prog.info? 24 = some i ∧ i.size = 1 := by
  have h := info_px
  cases hi : Try.prog.info? 24 with
  | none => rw [hi] at h; cases h
  | some i =>
    rw [hi] at h
    simp only [Option.map_some, Option.some.injEq, Prod.mk.injEq] at h
    exact ⟨i, rfl, h.2.1⟩
/-- append of a slice of the call's own, nil too -/
theorem app_own {w : World} {base b2 : Nat} {v v2 : Value} {l xs : List P4} (h : POwn w base v l) (h2 : POwn w b2 v2 xs) (hn : l.length + xs.length ≤ 1000000000) (hbase : base ≤ w.heap.size) :
    ∃ v' w', (Builtin.append_ #[39, 39] 39 #[v, v2]).run Try.prog w = .ok v' w' ∧ POwn w' base v' (l ++ xs) ∧ w.grownBy w' v.ownBlock ∧ (v'.ownBlock = v.ownBlock ∨ v'.ownBlock = some w.heap.size) := by
  obtain ⟨A, c, hv, -, -, hr⟩ := h2.prow
  rcases h2.2 with ⟨hnil, h0⟩ | ⟨g, cap, cur, he, _⟩
  · obtain ⟨i, hi, hs⟩ := info_px'
    have hx : xs = [] := List.eq_nil_of_length_eq_zero h0
    rw [hnil, hx, List.append_nil]
    exact ⟨v, w, run_append_owned_none w base _ _ _ i 1 Try.underlying39 hi v l.length _ h, h, grown_of_below (Below.refl _ _) _, .inl rfl⟩
  · rw [hv] at he
    injection he with e1 e2 e3
    rw [hv, e1]
    rw [e1] at hr
    exact SOwn.app (P := Try.prog) (xs := xs) Try.underlying39 info_px rfl (by decide) (by decide) ep_len ep_plain h (fun _ => srow_of hr) hn hbase
theorem app_px2 {w : World} {base : Nat} {v : Value} {l : List P4} (h : POwn w base v l) (d f : P4) (hn : l.length ≤ 900000000) (hbase : base ≤ w.heap.size) :
    ∃ v' w', (Builtin.append_ #[39, 39] 39 #[v, .slice (some ⟨w.heap.size, 0, none⟩) 2 2]).run Try.prog (w.alloc (.cells #[.int .u32 (d.num : Nat), .int .u32 (f.num : Nat)] 24)) = .ok v' w' ∧ POwn w' base v' (l ++ [d, f]) ∧
      (w.alloc (.cells #[.int .u32 (d.num : Nat), .int .u32 (f.num : Nat)] 24)).grownBy w' v.ownBlock :=
  let ⟨v', w', h1, h2, h3, _⟩ := SOwn.app (P := Try.prog) (xs := [d, f]) (c := 2) (g := w.heap.size) (o := 0) Try.underlying39 info_px rfl (by decide) (by decide) ep_len ep_plain
    (h.below ((Below.refl _ _).alloc (Nat.le_refl _) (.cells #[.int .u32 (d.num : Nat), .int .u32 (f.num : Nat)] 24))) (fun _ => srow_new (enc := ep) ep_len w [d, f] _ rfl) (by simp; omega) (by simp; omega)
  ⟨v', w', h1, h2, h3⟩
theorem over_one (p d : P4) (hp : p.Right) (hd : d.Right) (w : World) : Calls Try.prog 19 #[.int .u32 (p.num : Nat), .slice (some ⟨w.heap.size, 0, none⟩) 1 1] (w.alloc (.cells #[.int .u32 (d.num : Nat)] 24)) fun e w' => e = .returned (.int .u32 ((p.over d).num : Nat)) ∧ Below (w.alloc (.cells #[.int .u32 (d.num : Nat)] 24)).heap.size (w.alloc (.cells #[.int .u32 (d.num : Nat)] 24)) w' := by
  have hr : Row eP (w.alloc (.cells #[.int .u32 (d.num : Nat)] 24)) (some ⟨w.heap.size, 0, none⟩) [d] := row_new (enc := eP) w [d] 24
  generalize w.alloc (.cells #[.int .u32 (d.num : Nat)] 24) = W at *
  have hl : [d].length ≤ maxLen := by unfold maxLen; simp
  exact over_any p hp (some ⟨w.heap.size, 0, none⟩) [d] 1 W (fun z hz => by rw [List.mem_singleton.1 hz]; exact hd) hr hl
theorem by_one (p : P4) (hp : p.Right) (q : Nat) (hq : q < 256) (w : World) : Calls Try.prog 22 #[.int .u32 (p.num : Nat), .slice (some ⟨w.heap.size, 0, none⟩) 1 1] (w.alloc (.cells #[.int .i64 (q : Nat)] 3)) fun e w' => e = .returned (.int .u32 ((p.times q).num : Nat)) ∧ Below (w.alloc (.cells #[.int .i64 (q : Nat)] 3)).heap.size (w.alloc (.cells #[.int .i64 (q : Nat)] 3)) w' := by
  have hr : Row eN (w.alloc (.cells #[.int .i64 (q : Nat)] 3)) (some ⟨w.heap.size, 0, none⟩) [q] := row_new (enc := eN) w [q] 3
  generalize w.alloc (.cells #[.int .i64 (q : Nat)] 3) = W at *
  have hl : [q].length ≤ maxLen := by unfold maxLen; simp
  exact bys_any p hp (some ⟨w.heap.size, 0, none⟩) [q] 1 W (fun z hz => by rw [List.mem_singleton.1 hz]; exact hq) hr hl
theorem by_two (p : P4) (hp : p.Right) (q r : Nat) (hq : q < 256) (hr0 : r < 256) (w : World) : Calls Try.prog 22 #[.int .u32 (p.num : Nat), .slice (some ⟨w.heap.size, 0, none⟩) 2 2] (w.alloc (.cells #[.int .i64 (q : Nat), .int .i64 (r : Nat)] 3)) fun e w' => e = .returned (.int .u32 (((p.times q).times r).num : Nat)) ∧ Below (w.alloc (.cells #[.int .i64 (q : Nat), .int .i64 (r : Nat)] 3)).heap.size (w.alloc (.cells #[.int .i64 (q : Nat), .int .i64 (r : Nat)] 3)) w' := by
  have hr : Row eN (w.alloc (.cells #[.int .i64 (q : Nat), .int .i64 (r : Nat)] 3)) (some ⟨w.heap.size, 0, none⟩) [q, r] := row_new (enc := eN) w [q, r] 3
  generalize w.alloc (.cells #[.int .i64 (q : Nat), .int .i64 (r : Nat)] 3) = W at *
  have hl : [q, r].length ≤ maxLen := by unfold maxLen; simp
  exact bys_any p hp (some ⟨w.heap.size, 0, none⟩) [q, r] 2 W (fun z hz => by simp only [List.mem_cons, List.not_mem_nil, or_false] at hz; rcases hz with rfl | rfl <;> assumption) hr hl
theorem stack_own {w : World} {base : Nat} {v : Value} {l : List P4} (h : POwn w base v l) (hl : ∀ d ∈ l, d.Right) (hn : l.length ≤ 1000000) : Calls Try.prog 20 #[v] w fun e w' => e = .returned (.int .u32 ((stack zero l).num : Nat)) ∧ Below w.heap.size w w' := by
  obtain ⟨A, c, rfl, -, -, hr⟩ := h.prow
  exact stack_any A l c w hl hr (by unfold maxLen; omega)
theorem stack_two (l : List P4) (a b : P4) : stack zero (l ++ [a, b]) = b.over (a.over (stack zero l)) := stack_app zero l [a, b]
theorem stack_zeros (l : List P4) : stack zero ([zero, zero] ++ l) = stack zero l := by
  rw [stack_app]
  have : stack zero [zero, zero] = zero := by
    show zero.over (zero.over zero) = zero
    rw [zero_over, zero_over]
  rw [this]
theorem right_app {l : List P4} {a b : P4} (hl : ∀ d ∈ l, d.Right) (ha : a.Right) (hb : b.Right) : ∀ d ∈ l ++ [a, b], d.Right := by
  intro d hd
  rcases List.mem_append.1 hd with h | h
  · exact hl d h
  · simp only [List.mem_cons, List.not_mem_nil, or_false] at h
    rcases h with rfl | rfl <;> assumption
theorem right_zeros {l : List P4} (hl : ∀ d ∈ l, d.Right) : ∀ d ∈ [zero, zero] ++ l, d.Right := by
  intro d hd
  rcases List.mem_append.1 hd with h | h
  · simp only [List.mem_cons, List.not_mem_nil, or_false] at h
    rcases h with rfl | rfl <;> exact zero_right
  · exact hl d h
/-- a slice of the call's own stays where an append writes a younger block -/
theorem POwn.grow {w w' : World} {base N : Nat} {v : Value} {l : List P4} {row : Option Nat} (h : POwn w base v l) (hlt : ∀ j, v.ownBlock = some j → j < N) (hg : w.grownBy w' row) (hr : ∀ j, row = some j → N ≤ j) : POwn w' base v l :=
  SOwn.stays h fun j hj => hg.block j (SOwn.block h hj).2 (fun e => by have := hlt j hj; have := hr j e.symm; omega)
set_option maxRecDepth 100000 in
set_option maxHeartbeats 4000000 in
theorem ends_law (p0 q0 : Int) (A : Option Addr) (l : List Nat) (c : Nat) (w : World) (h1 : 0 ≤ p0) (h2 : p0 ≤ 4294967295) (h3 : 0 ≤ q0) (h4 : q0 ≤ 4294967295) (hrow : Row eW w A l) (_hc : l.length ≤ c) (hm : c ≤ maxLen) (h32 : ∀ z ∈ l, z < 4294967296) :
    Calls Try.prog 7 #[.int .u32 p0, .int .u32 q0, .slice A l.length c] w fun e w' => e = .returned (.bool true) ∧ Below w.heap.size w w' := by
  have HAW := Lib.hid (fun w => awake_any w)
  have hln : l.length ≤ maxLen := Nat.le_trans _hc hm
  have HRL := Lib.hid (rightl_any A l c w h32 hrow hln)
  unfold maxLen at hln
  obtain ⟨n, rfl⟩ : ∃ n : Nat, p0 = (n : Nat) := ⟨p0.toNat, by omega⟩
  obtain ⟨m, rfl⟩ : ∃ n : Nat, q0 = (n : Nat) := ⟨q0.toNat, by omega⟩
  have hn : n < 4294967296 := by omega
  have hm2 : m < 4294967296 := by omega
  have HROW := Lib.hid hrow
  have HRT := Lib.hid (fun w => rightl2 n m hn hm2 w)
  clear hrow _hc hm h32 h1 h2 h3 h4
  cases hRL : rightL l with
  | false =>
    rw [hRL] at HRL
    clear hRL HRT
    go_enter Try.func7, Try.ntmps7
    go_wp2_with (fail)
    refine HRL.out.mono ?_
    rintro e w1 ⟨rfl, hb⟩
    have HB1 := Lib.hid hb
    clear hb
    go_wp2_with (fail)
    refine (HAW.out _).mono ?_
    rintro e w2 ⟨rfl, hb⟩
    have HB2 := Lib.hid (bel_step HB1.out (Nat.le_refl _) hb)
    clear hb
    go_wp2_with (fail)
    go_ret
    exact ⟨rfl, HB2.out⟩
  | true =>
    rw [hRL] at HRL
    have HPR := Lib.hid (px_right hRL)
    have HL60 := Lib.hid (rightL_yes hRL).2
    clear hRL
    cases hR : rightL [n, m] with
    | false =>
      rw [hR] at HRT
      clear hR
      go_enter Try.func7, Try.ntmps7
      go_wp2_with (fail)
      refine HRL.out.mono ?_
      rintro e w0 ⟨rfl, hb⟩
      have HB0 := Lib.hid hb
      clear hb
      go_wp2_with (fail)
      refine (HRT.out _).mono ?_
      rintro e w1 ⟨rfl, hb⟩
      have HB1 := Lib.hid (bel_new HB0.out hb)
      clear hb
      go_wp2_with (fail)
      refine (HAW.out _).mono ?_
      rintro e w2 ⟨rfl, hb⟩
      have HB2 := Lib.hid (bel_step HB1.out (Nat.le_refl _) hb)
      clear hb
      go_wp2_with (fail)
      go_ret
      exact ⟨rfl, HB2.out⟩
    | true =>
      rw [hR] at HRT
      have ha : (frm n).Right := (rightL_yes hR).1 n (by simp)
      have hb : (frm m).Right := (rightL_yes hR).1 m (by simp)
      have HNA : Hid ((frm n).num = n) := num_frm
      have HNB : Hid ((frm m).num = m) := num_frm
      have HFA : Hid ((frm n).a = n % 256) := rfl
      have HA := Lib.hid ha
      have HB := Lib.hid hb
      clear hR ha hb
      generalize frm n = a at *
      generalize frm m = b at *
      have H0B : Hid (∀ w : World, Calls Try.prog 19 #[.int .u32 0, .slice (some ⟨w.heap.size, 0, none⟩) 1 1] (w.alloc (.cells #[.int .u32 (m : Nat)] 24)) fun e w' => e = .returned (.int .u32 (m : Nat)) ∧ Below (w.alloc (.cells #[.int .u32 (m : Nat)] 24)).heap.size (w.alloc (.cells #[.int .u32 (m : Nat)] 24)) w') := fun w => by
        have h := over_one zero b zero_right HB.out w
        rw [zero_over, HNB.out] at h
        exact h
      have HA255 : Hid (∀ w : World, Calls Try.prog 22 #[.int .u32 (n : Nat), .slice (some ⟨w.heap.size, 0, none⟩) 1 1] (w.alloc (.cells #[.int .i64 255] 3)) fun e w' => e = .returned (.int .u32 (n : Nat)) ∧ Below (w.alloc (.cells #[.int .i64 255] 3)).heap.size (w.alloc (.cells #[.int .i64 255] 3)) w') := fun w => by
        have h := by_one a HA.out 255 (by omega) w
        rw [times_255, HNA.out] at h
        exact h
      have HA0 : Hid (∀ w : World, Calls Try.prog 22 #[.int .u32 (n : Nat), .slice (some ⟨w.heap.size, 0, none⟩) 1 1] (w.alloc (.cells #[.int .i64 0] 3)) fun e w' => e = .returned (.int .u32 0) ∧ Below (w.alloc (.cells #[.int .i64 0] 3)).heap.size (w.alloc (.cells #[.int .i64 0] 3)) w') := fun w => by
        have h := by_one a HA.out 0 (by omega) w
        rw [times_0, HNA.out] at h
        exact h
      have HA2 : Hid (∀ w : World, Calls Try.prog 22 #[.int .u32 (n : Nat), .slice (some ⟨w.heap.size, 0, none⟩) 2 2] (w.alloc (.cells #[.int .i64 255, .int .i64 0] 3)) fun e w' => e = .returned (.int .u32 0) ∧ Below (w.alloc (.cells #[.int .i64 255, .int .i64 0] 3)).heap.size (w.alloc (.cells #[.int .i64 255, .int .i64 0] 3)) w') := fun w => by
        have h := by_two a HA.out 255 0 (by omega) (by omega) w
        rw [times_0, HNA.out] at h
        exact h
      go_enter Try.func7, Try.ntmps7
      go_wp2_with (fail)
      refine HRL.out.mono ?_
      rintro e w0 ⟨rfl, hb⟩
      have HB0 := Lib.hid hb
      clear hb
      go_wp2_with (fail)
      refine (HRT.out _).mono ?_
      rintro e w2 ⟨rfl, hb⟩
      have HB2 := Lib.hid (bel_new HB0.out hb)
      have HRW2 := Lib.hid (HROW.out.below HB2.out)
      clear hb HRT HROW HRL HB0
      go_wp2_with (fail)
      go_loopw [9, 28] (fun v i wr => ∃ k : Nat, k ≤ l.length ∧ i = .int .i64 k ∧ Hid (POwn wr w2.heap.size v ((px l).take k)) ∧ Hid (Below w2.heap.size w2 wr)) (fun _ i _ => l.length - (intOf i).toNat)
      case atStart => exact ⟨0, Nat.zero_le _, rfl, SOwn.nil _ _, Below.refl _ _⟩
      case round =>
        obtain ⟨k, hk, rfl, HO, HBW⟩ := hrel
        by_cases hlt : k < l.length
        · obtain ⟨bb, off, rfl, hc⟩ := Row.at_ (HRW2.out.below HBW.out) hlt
          unfold eW at hc
          have HT := Lib.hid (px_take hlt)
          obtain ⟨v', w3, hrun, own3, hgr⟩ := app_px HO.out (frm l[k]) (by rw [List.length_take, px_len]; have := HL60.out; omega) HBW.out.size
          rw [← HT.out] at own3
          rw [num_frm] at hrun hgr
          have hbk : ∀ j, u9.ownBlock = some j → w2.heap.size ≤ j := fun j hj => (SOwn.block HO.out hj).1
          have HB3 : Hid (Below w2.heap.size w2 w3) := (HBW.out.alloc HBW.out.size _).grown hgr (by have := HBW.out.size; simp; omega) hbk
          have HO3 := Lib.hid own3
          clear own3 hgr hbk HO HT HBW
          generalize l[k] = d at *
          go_wp2_with (at_builtin; refine wpl_append rfl _ _ 39 39 39 rfl rfl _ _ _ _ rfl rfl hrun ?_)
          clear hrun hc
          go_roundw
          case rel => exact ⟨k + 1, by omega, by go_num, HO3, HB3⟩
          case measure => simp [intOf]; omega
        · obtain rfl : k = l.length := by omega
          have hA : (px l).take l.length = px l := List.take_of_length_le (by rw [px_len]; exact Nat.le_refl _)
          rw [hA] at HO
          have HBR : Hid (Below w.heap.size w wr) := HB2.out.trans (HBW.out.mono HB2.out.size)
          have HBS := Lib.hid HBW.out.size
          have HPL : Hid ((px l).length ≤ 60) := by show _ ≤ _; rw [px_len]; exact HL60.out
          clear hA HRW2 HB2 HBW hlt hk hln HL60
          generalize px l = L at *
          go_upto_region 10 with (fail)
          go_cut [73] from 37 (fun u wx => u = .bool false ∧ Hid (Below w.heap.size w wx) ∧ Hid (POwn wx w2.heap.size u9 L) ∧ Hid (w2.heap.size ≤ wx.heap.size))
          case first =>
            have HBwr := HBR
            have HOwr := HO
            have HSwr := HBS
            clear HBR HO HBS
            by_cases hf : n % 256 = 255
            · have t : ((n : Int) % 256 == 255) = true := by simp; omega
              have HAB : Hid (∀ w : World, Calls Try.prog 19 #[.int .u32 (n : Nat), .slice (some ⟨w.heap.size, 0, none⟩) 1 1] (w.alloc (.cells #[.int .u32 (m : Nat)] 24)) fun e w' => e = .returned (.int .u32 (n : Nat)) ∧ Below (w.alloc (.cells #[.int .u32 (m : Nat)] 24)).heap.size (w.alloc (.cells #[.int .u32 (m : Nat)] 24)) w') := fun w => by
                have h := over_one a b HA.out HB.out w
                rw [over_full b (HFA.out.trans hf), HNA.out, HNB.out] at h
                exact h
              clear hf
              go_wp2_with (fail)
              refine (HAB.out _).mono ?_
              rintro e x0 ⟨rfl, hb⟩
              have HBx0 := Lib.hid (bel_new HBwr.out hb)
              have HOx0 : Hid (POwn x0 w2.heap.size u9 L) := own_new HOwr.out hb
              have HSx0 : Hid (w2.heap.size ≤ x0.heap.size) := sz_new HSwr.out hb
              clear hb HBwr HOwr HSwr HAB
              go_wp2_with (fail)
              refine (H0B.out _).mono ?_
              rintro e x1 ⟨rfl, hb⟩
              have HBx1 := Lib.hid (bel_new HBx0.out hb)
              have HOx1 : Hid (POwn x1 w2.heap.size u9 L) := own_new HOx0.out hb
              have HSx1 : Hid (w2.heap.size ≤ x1.heap.size) := sz_new HSx0.out hb
              clear hb HBx0 HOx0 HSx0 H0B
              go_wp2_with (fail)
              refine (HA255.out _).mono ?_
              rintro e x2 ⟨rfl, hb⟩
              have HBx2 := Lib.hid (bel_new HBx1.out hb)
              have HOx2 : Hid (POwn x2 w2.heap.size u9 L) := own_new HOx1.out hb
              have HSx2 : Hid (w2.heap.size ≤ x2.heap.size) := sz_new HSx1.out hb
              clear hb HBx1 HOx1 HSx1 HA255
              go_wp2_with (fail)
              refine (HA0.out _).mono ?_
              rintro e x3 ⟨rfl, hb⟩
              have HBx3 := Lib.hid (bel_new HBx2.out hb)
              have HOx3 : Hid (POwn x3 w2.heap.size u9 L) := own_new HOx2.out hb
              have HSx3 : Hid (w2.heap.size ≤ x3.heap.size) := sz_new HSx2.out hb
              clear hb HBx2 HOx2 HSx2 HA0
              go_wp2_with (fail)
              refine (HA2.out _).mono ?_
              rintro e x4 ⟨rfl, hb⟩
              have HBx4 := Lib.hid (bel_new HBx3.out hb)
              have HOx4 : Hid (POwn x4 w2.heap.size u9 L) := own_new HOx3.out hb
              have HSx4 : Hid (w2.heap.size ≤ x4.heap.size) := sz_new HSx3.out hb
              clear hb HBx3 HOx3 HSx3 HA2
              go_wp2_with (fail)
              go_meet
              case rel => exact ⟨rfl, HBx4, HOx4, HSx4⟩
            · have t : ((n : Int) % 256 == 255) = false := by simp; omega
              clear hf
              go_wp2_with (fail)
              refine (H0B.out _).mono ?_
              rintro e x0 ⟨rfl, hb⟩
              have HBx0 := Lib.hid (bel_new HBwr.out hb)
              have HOx0 : Hid (POwn x0 w2.heap.size u9 L) := own_new HOwr.out hb
              have HSx0 : Hid (w2.heap.size ≤ x0.heap.size) := sz_new HSwr.out hb
              clear hb HBwr HOwr HSwr H0B
              go_wp2_with (fail)
              refine (HA255.out _).mono ?_
              rintro e x1 ⟨rfl, hb⟩
              have HBx1 := Lib.hid (bel_new HBx0.out hb)
              have HOx1 : Hid (POwn x1 w2.heap.size u9 L) := own_new HOx0.out hb
              have HSx1 : Hid (w2.heap.size ≤ x1.heap.size) := sz_new HSx0.out hb
              clear hb HBx0 HOx0 HSx0 HA255
              go_wp2_with (fail)
              refine (HA0.out _).mono ?_
              rintro e x2 ⟨rfl, hb⟩
              have HBx2 := Lib.hid (bel_new HBx1.out hb)
              have HOx2 : Hid (POwn x2 w2.heap.size u9 L) := own_new HOx1.out hb
              have HSx2 : Hid (w2.heap.size ≤ x2.heap.size) := sz_new HSx1.out hb
              clear hb HBx1 HOx1 HSx1 HA0
              go_wp2_with (fail)
              refine (HA2.out _).mono ?_
              rintro e x3 ⟨rfl, hb⟩
              have HBx3 := Lib.hid (bel_new HBx2.out hb)
              have HOx3 : Hid (POwn x3 w2.heap.size u9 L) := own_new HOx2.out hb
              have HSx3 : Hid (w2.heap.size ≤ x3.heap.size) := sz_new HSx2.out hb
              clear hb HBx2 HOx2 HSx2 HA2
              go_wp2_with (fail)
              go_meet
              case rel => exact ⟨rfl, HBx3, HOx3, HSx3⟩
          case rest =>
            obtain ⟨rfl, HBc, HOc, HSc⟩ := hcut
            clear H0B HA255 HA0 HA2 HBR HO HBS HFA
            have HLT : Hid (∀ d ∈ L ++ [a, b], d.Right) := right_app HPR.out HA.out HB.out
            have HPL2 : Hid ((L ++ [a, b]).length ≤ 1000000) := by have := HPL.out; show _ ≤ _; simp; omega
            have HSTK : Hid (∀ (w : World) (v : Value), POwn w wc.heap.size v (L ++ [a, b]) → Calls Try.prog 20 #[v] w fun e w' => e = .returned (.int .u32 ((b.over (a.over (stack zero L))).num : Nat)) ∧ Below w.heap.size w w') := fun w v h => by
              have h := stack_own h HLT.out HPL2.out
              rw [stack_two] at h
              exact h
            obtain ⟨N, HN⟩ : ∃ N, Hid ((b.over (a.over (stack zero L))).num = N) := ⟨_, rfl⟩
            rw [HN.out] at HSTK
            clear HLT HPL2
            have own0 : POwn (wc.alloc (.cells #[] 24)) wc.heap.size (.slice (some ⟨wc.heap.size, 0, none⟩) 0 0) [] := SOwn.lit ep_len wc [] (Nat.le_refl _) (by unfold maxLen; simp)
            obtain ⟨v1, w1, hrun, own1, hgr, -⟩ := app_own own0 (SOwn.below HOc.out ((Below.refl _ _).alloc (Nat.le_refl _) _)) (by have := HPL.out; simp; omega) (by simp)
            rw [List.nil_append] at own1
            have HB1 : Hid (Below wc.heap.size wc w1) := ((Below.refl _ _).alloc (Nat.le_refl _) _).grown hgr (by simp) (fun q hq => (SOwn.block own0 hq).1)
            have HO1 := Lib.hid own1
            clear own0 own1 hgr
            obtain ⟨v2, w3, hrunB, own2, hgr2⟩ := app_px2 HO1.out a b (by have := HPL.out; omega) HB1.out.size
            rw [HNA.out, HNB.out] at hrunB hgr2
            have HB3 : Hid (Below wc.heap.size wc w3) := (HB1.out.alloc HB1.out.size _).grown hgr2 (by have := HB1.out.size; simp; omega) (fun q hq => (SOwn.block HO1.out hq).1)
            have HS := Lib.hid (HSTK.out _ _ own2)
            have HBd := Lib.hid (HBc.out.trans (HB3.out.mono HBc.out.size))
            have HO3 : Hid (POwn w3 w2.heap.size u9 L) := SOwn.below HOc.out HB3.out
            have HS3 : Hid (w2.heap.size ≤ w3.heap.size) := Nat.le_trans HSc.out HB3.out.size
            clear own2 hgr2 HO1 HB1 HB3 HOc HSc HBc HSTK
            go_wp2_with (at_builtin; refine wpl_append rfl _ _ 39 39 39 rfl rfl _ _ _ _ rfl rfl hrun ?_; clear hrun; try (have hrun := hrunB; clear hrunB))
            refine HS.out.mono ?_
            rintro e w4 ⟨rfl, hb⟩
            have HB4 := Lib.hid (bel_step HBd.out (Nat.le_refl _) hb)
            have HO4 : Hid (POwn w4 w2.heap.size u9 L) := SOwn.below HO3.out hb
            have HS4 : Hid (w2.heap.size ≤ w4.heap.size) := Nat.le_trans HS3.out hb.size
            clear hb HS HBd HO3 HS3
            go_wp2_with (fail)
            refine (stack_own HO4.out HPR.out (by have := HPL.out; omega)).mono ?_
            rintro e w5 ⟨rfl, hb⟩
            have HB5 := Lib.hid (bel_step HB4.out (Nat.le_refl _) hb)
            have HO5 : Hid (POwn w5 w2.heap.size u9 L) := SOwn.below HO4.out hb
            clear hb HB4 HO4 HS4
            have HSR : Hid (stack zero L).Right := stack_right zero_right HPR.out
            have HZ : Hid (stack zero ([zero, zero] ++ L) = stack zero L) := stack_zeros L
            have HZR : Hid (∀ d ∈ [zero, zero] ++ L, d.Right) := right_zeros HPR.out
            obtain ⟨S, HSE⟩ : ∃ S, Hid (stack zero L = S) := ⟨_, rfl⟩
            rw [HSE.out] at HZ HSR
            have HN2 : Hid ((b.over (a.over S)).num = N) := by rw [← HSE.out]; exact HN.out
            rw [HSE.out]
            have HV1 := Lib.hid (fun w => over_one a S HA.out HSR.out w)
            have HASR : Hid (a.over S).Right := P4.Right.over HA.out HSR.out
            have HV2 := Lib.hid (fun w => over_one b (a.over S) HB.out HASR.out w)
            rw [HNA.out] at HV1
            rw [HNB.out, HN2.out] at HV2
            clear HASR HSR HN HN2 HNA HNB HA HB
            generalize a.over S = AS at *
            generalize AS.num = ASn at *
            generalize hSn : S.num = Sn at *
            have HSN := Lib.hid hSn
            clear hSn
            go_wp2_with (fail)
            refine (HV1.out _).mono ?_
            rintro e w6 ⟨rfl, hb⟩
            have HB6 := Lib.hid (bel_new HB5.out hb)
            have HO6 : Hid (POwn w6 w2.heap.size u9 L) := own_new HO5.out hb
            clear hb HB5 HO5 HV1
            go_wp2_with (fail)
            refine (HV2.out _).mono ?_
            rintro e w7 ⟨rfl, hb⟩
            have HB7 := Lib.hid (bel_new HB6.out hb)
            have HO7 : Hid (POwn w7 w2.heap.size u9 L) := own_new HO6.out hb
            clear hb HB6 HO6 HV2
            have own0 : POwn (w7.alloc (.cells #[.int .u32 0, .int .u32 0] 24)) w7.heap.size (.slice (some ⟨w7.heap.size, 0, none⟩) 2 2) [zero, zero] := SOwn.lit ep_len w7 [zero, zero] (Nat.le_refl _) (by unfold maxLen; simp)
            obtain ⟨v8, w8, hrun, own8, hgr, -⟩ := app_own own0 (SOwn.below HO7.out ((Below.refl _ _).alloc (Nat.le_refl _) _)) (by have := HPL.out; simp; omega) (by simp)
            have HB78 : Hid (Below w7.heap.size w7 w8) := ((Below.refl _ _).alloc (Nat.le_refl _) _).grown hgr (by simp) (fun q hq => (SOwn.block own0 hq).1)
            have HB8 := Lib.hid (bel_step HB7.out (Nat.le_refl _) HB78.out)
            have HO8 : Hid (POwn w8 w2.heap.size u9 L) := SOwn.below HO7.out HB78.out
            have HS8 := Lib.hid (stack_own own8 HZR.out (by have := HPL.out; simp; omega))
            rw [HZ.out, HSN.out] at HS8
            clear own0 own8 hgr HB78 HB7 HO7 HZ HZR
            go_wp2_with (at_builtin; refine wpl_append rfl _ _ 39 39 39 rfl rfl _ _ _ _ rfl rfl hrun ?_; clear hrun)
            refine HS8.out.mono ?_
            rintro e w9 ⟨rfl, hb⟩
            have HB9 := Lib.hid (bel_step HB8.out (Nat.le_refl _) hb)
            have HS9 := Lib.hid (stack_own (SOwn.below HO8.out hb) HPR.out (by have := HPL.out; omega))
            rw [HSE.out, HSN.out] at HS9
            clear hb HS8 HB8 HO8
            go_wp2_with (fail)
            refine HS9.out.mono ?_
            rintro e w10 ⟨rfl, hb⟩
            have HB10 := Lib.hid (bel_step HB9.out (Nat.le_refl _) hb)
            clear hb HS9 HB9
            go_wp2_with (fail)
            refine (HAW.out _).mono ?_
            rintro e w11 ⟨rfl, hb⟩
            have HB11 := Lib.hid (bel_step HB10.out (Nat.le_refl _) hb)
            clear hb HB10
            go_wp2_with (fail)
            go_ret
            exact ⟨rfl, HB11.out⟩
end Go.Proofs.Ytolekbgbcahfgaa
