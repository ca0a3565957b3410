/-
  The walk of the law CoderMany.
-/
import Derived.Test.YtbopijlacdkpeaaCoL
namespace Go.Proofs.Ytbopijlacdkpeaa
open Go.RowKit numb

def sayBytes (L : List Nat) : regs.Say regs.bl := ⟨fun v w => ∃ a c, v = .slice a L.length c ∧ Bs w a L, fun _ _ _ h hb => by
  obtain ⟨a, c, h1, h2⟩ := h
  exact ⟨a, c, h1, h2.below hb⟩⟩
theorem OutStep.fresh {b : Nat} {v v' : Value} {w w' : World} {B : Nat} (h : OutStep b v w v' w') (hB : B ≤ w.heap.size) (hb : B ≤ b) (hv : ∀ g, v.ownBlock = some g → B ≤ g) : ∀ g, v'.ownBlock = some g → B ≤ g := fun g hg => by
  rcases Nat.lt_or_ge g B with hl | hl
  · exact absurd hg (h.far g (by omega) (by omega) (fun e => by have := hv g e; omega)).1
  · exact hl
theorem far_old {α : Type} {enc : α → Value} {w : World} {A : Option Addr} {l : List α} {b : Nat} {v : Value} (h : Row enc w A l) (hb : w.heap.size ≤ b) (hv : ∀ g, v.ownBlock = some g → w.heap.size ≤ g) : Far b v A l.length := fun hn x hx => by
  obtain ⟨g, off, e, hc⟩ := h hn
  rw [hx] at e
  obtain rfl := Option.some.inj e
  have hg : g < w.heap.size := World.block_lt_of_cell? w _ (hc 0 hn)
  exact ⟨fun e => by have : g = b := e; omega, fun e => by have := hv g e; omega⟩
/-- one Out of the call's own -/
structure Mine (w0 w : World) (b : Nat) (v : Value) (l : List Nat) : Prop where
  at_ : OutAt w b v l
  new : w0.heap.size ≤ b
  own : ∀ g, v.ownBlock = some g → w0.heap.size ≤ g
  below : Below w0.heap.size w0 w
theorem Mine.step {w0 w w' : World} {b : Nat} {v v' : Value} {l l' : List Nat} (h : Mine w0 w b v l) (ho : OutAt w' b v' l') (hs : OutStep b v w v' w') : Mine w0 w' b v' l' :=
  ⟨ho, h.new, hs.fresh h.below.size h.new h.own, h.below.trans (hs.to_below h.below.size h.new h.own)⟩
theorem Mine.on {w0 w w' : World} {b : Nat} {v : Value} {l : List Nat} (h : Mine w0 w b v l) (hb : Below w.heap.size w w') : Mine w0 w' b v l :=
  ⟨h.at_.below hb, h.new, h.own, h.below.trans (hb.mono h.below.size)⟩
/-- two Outs of the call's own, that don't meet -/
structure Two (w0 w : World) (bo : Nat) (vo : Value) (lo : List Nat) (bp : Nat) (vp : Value) (lp : List Nat) : Prop where
  o : OutAt w bo vo lo
  p : Mine w0 w bp vp lp
  ne : bo ≠ bp
  po : vp.ownBlock ≠ some bo
  op : vo.ownBlock ≠ some bp
  oo : ∀ g, vo.ownBlock = some g → vp.ownBlock ≠ some g
theorem Two.step {w0 w w' : World} {bo bp : Nat} {vo vp vp' : Value} {lo lp lp' : List Nat} (h : Two w0 w bo vo lo bp vp lp) (hp : OutAt w' bp vp' lp') (hs : OutStep bp vp w vp' w') : Two w0 w' bo vo lo bp vp' lp' := by
  obtain ⟨h1, h2, h3⟩ := h.o.step hs h.ne h.po h.op h.oo
  exact ⟨h1, h.p.step hp hs, h.ne, h2, h.op, h3⟩

def manyL (a : List Nat) (b : List Int) (c : List Bool) : List Nat := a.flatMap uint ++ (b.flatMap fun n => uint (zig n)) ++ c.map bit
theorem bit_are (c : List Bool) : AreBytes (c.map bit) := fun z hz => by
  simp only [List.mem_map] at hz
  obtain ⟨x, _, rfl⟩ := hz
  cases x <;> simp [bit]
theorem flat_are {α : Type} (l : List α) (f : α → Nat) : AreBytes (l.flatMap fun x => uint (f x)) := fun z hz => by
  simp only [List.mem_flatMap] at hz
  obtain ⟨x, _, hz⟩ := hz
  exact uint_bytes _ z hz

set_option maxHeartbeats 1000000 in
theorem many_long (A : Option Addr) (a : List Nat) (ca : Nat) (B : Option Addr) (b : List Int) (cb : Nat) (C : Option Addr) (c : List Bool) (cc : Nat) (w : World) (h : 60 < a.length ∨ 60 < b.length ∨ 60 < c.length) :
    Calls Try.prog 6 #[.slice A a.length ca, .slice B b.length cb, .slice C c.length cc] w fun e w' => e = .returned (.bool true) ∧ Below w.heap.size w w' := by
  have t : decide ((60 : Int) < (a.length : Int)) = true ∨ (decide ((60 : Int) < (a.length : Int)) = false ∧ decide ((60 : Int) < (b.length : Int)) = true) ∨
      (decide ((60 : Int) < (a.length : Int)) = false ∧ decide ((60 : Int) < (b.length : Int)) = false ∧ decide ((60 : Int) < (c.length : Int)) = true) := by
    simp; omega
  clear h
  rcases t with t1 | ⟨t1, t2⟩ | ⟨t1, t2, t3⟩
  all_goals
    go_enter Try.func6, Try.ntmps6
    go_wp2_with (fail)
    refine (awake_any w).mono ?_
    rintro e w' ⟨rfl, hb⟩
    go_wp2_with (fail)
    go_ret
    exact ⟨rfl, hb⟩

set_option maxHeartbeats 4000000 in
theorem many_walk (A : Option Addr) (a : List Nat) (ca : Nat) (B : Option Addr) (b : List Int) (cb : Nat) (C : Option Addr) (c : List Bool) (cc : Nat) (w : World) (ha : Row eU w A a) (hua : ∀ z ∈ a, U64 z) (hb : Row eI w B b) (hub : ∀ z ∈ b, I64 z) (hc : Row Value.bool w C c)
    (h1 : a.length ≤ 60) (h2 : b.length ≤ 60) (h3 : c.length ≤ 60) :
    Calls Try.prog 6 #[.slice A a.length ca, .slice B b.length cb, .slice C c.length cc] w fun e w' => e = .returned (.bool true) ∧ Below w.heap.size w w' := by
  have t1 : decide ((60 : Int) < (a.length : Int)) = false := by simp; omega
  have t2 : decide ((60 : Int) < (b.length : Int)) = false := by simp; omega
  have t3 : decide ((60 : Int) < (c.length : Int)) = false := by simp; omega
  have hla := pre_length a a.length hua (Nat.le_refl _)
  rw [List.take_length] at hla
  have hlb := pre_length_int b b.length hub (Nat.le_refl _)
  rw [List.take_length] at hlb
  have HA := Lib.hid ha
  have HB := Lib.hid hb
  have HC := Lib.hid hc
  have HUA := Lib.hid hua
  have HUB := Lib.hid hub
  have two0 : Hid (Two w ((w.alloc (.cells #[.slice none 0 0] 26)).alloc (.cells #[.slice none 0 0] 26)) (w.heap.size + 1) (.slice none 0 0) [] w.heap.size (.slice none 0 0) []) := by
    have hbw : Below w.heap.size w ((w.alloc (.cells #[.slice none 0 0] 26)).alloc (.cells #[.slice none 0 0] 26)) := ((Below.refl _ _).alloc (Nat.le_refl _) _).alloc (by simp) _
    exact ⟨out_new' _ _ (by simp), ⟨(out_new w).alloc _, Nat.le_refl _, fun g hg => absurd hg (nil_own g), hbw⟩, by omega, nil_own _, nil_own _, fun g hg => absurd hg (nil_own g)⟩
  clear ha hb hc hua hub
  go_enter Try.func6, Try.ntmps6
  go_wp2_with (fail)
  refine (out_uint_any w.heap.size _ [] A a ca _ two0.out.p.at_ (HA.out.below two0.out.p.below) (far_old HA.out (Nat.le_refl _) (fun g hg => absurd hg (nil_own g))) HUA.out (by omega) (by simp; omega)).mono ?_
  rintro e w1 ⟨rfl, v1, o1, s1⟩
  rw [List.nil_append] at o1
  have T1 := Lib.hid (two0.out.step o1 s1)
  clear o1 s1 two0
  go_wp2_with (fail)
  refine (out_int_any w.heap.size _ _ B b cb _ T1.out.p.at_ (HB.out.below T1.out.p.below) (far_old HB.out T1.out.p.new T1.out.p.own) HUB.out (by omega) (by omega)).mono ?_
  rintro e w2 ⟨rfl, v2, o2, s2⟩
  have T2 := Lib.hid (T1.out.step o2 s2)
  clear o2 s2 T1
  go_wp2_with (fail)
  refine (out_bool_any w.heap.size _ _ C c cc _ T2.out.p.at_ (HC.out.below T2.out.p.below) (far_old HC.out T2.out.p.new T2.out.p.own) (by omega) (by rw [List.length_append]; omega)).mono ?_
  rintro e w3 ⟨rfl, v3, o3, s3⟩
  have T3a := T2.out.step o3 s3
  -- now the other one grows
  have T3 : Hid (Two w w3 w.heap.size v3 (manyL a b c) (w.heap.size + 1) (.slice none 0 0) []) :=
    ⟨o3, ⟨T3a.o, by omega, fun g hg => absurd hg (nil_own g), T3a.p.below⟩, by omega, nil_own _, T3a.po, fun g _ => nil_own g⟩
  clear o3 s3 T2 T3a
  go_wp2_with (fail)
  go_loopw [10, 37] (fun _ i wr => ∃ (k : Nat) (v' : Value), k ≤ a.length ∧ i = .int .i64 k ∧ Hid (Two w wr w.heap.size v3 (manyL a b c) (w.heap.size + 1) v' ((a.take k).flatMap uint))) (fun _ i _ => a.length - (intOf i).toNat)
  case atStart => exact ⟨0, _, Nat.zero_le _, rfl, T3.out⟩
  case round =>
    obtain ⟨k, v', hk, rfl, tk⟩ := hrel
    by_cases hlt : k < a.length
    · obtain ⟨g, off, rfl, hcell⟩ := (HA.out.below tk.out.p.below) (by omega)
      have ck : wr.cell? ⟨g, off + k, none⟩ = some (.int .u64 (a[k] : Nat)) := hcell k hlt
      have hz := Lib.hid (HUA.out a[k] (List.getElem_mem hlt))
      have hpl := pre_length a k HUA.out hk
      have E := Lib.hid (List.take_succ_eq_append_getElem hlt)
      clear hcell T3
      generalize a[k] = z at *
      go_wp2_with (fail)
      refine (out_uint_one (w.heap.size + 1) v' _ z wr tk.out.p.at_ hz.out (by omega)).mono ?_
      rintro e w4 ⟨rfl, v4, o4, s4⟩
      have T4 := Lib.hid (tk.out.step o4 s4)
      clear o4 s4
      go_wp2_with (fail)
      go_roundw
      case rel => exact ⟨k + 1, v4, by omega, by go_num, by
        have := T4.out
        rw [E.out, List.flatMap_append, List.flatMap_cons, List.flatMap_nil, List.append_nil]
        exact this⟩
      case measure => simp [intOf]; omega
    · have hk' : k = a.length := by omega
      subst hk'
      have T5 : Hid (Two w wr w.heap.size v3 (manyL a b c) (w.heap.size + 1) v' (a.flatMap uint)) := by
        have := tk.out
        rw [List.take_length] at this
        exact this
      clear tk T3
      go_wp2_with (fail)
      go_loopw [12, 47] (fun _ i ws => ∃ (k : Nat) (v' : Value), k ≤ b.length ∧ i = .int .i64 k ∧ Hid (Two w ws w.heap.size v3 (manyL a b c) (w.heap.size + 1) v' (a.flatMap uint ++ (b.take k).flatMap fun n => uint (zig n)))) (fun _ i _ => b.length - (intOf i).toNat)
      case atStart => exact ⟨0, _, Nat.zero_le _, rfl, by simpa [Hid] using T5.out⟩
      case round =>
        obtain ⟨k, v', hk, rfl, tk⟩ := hrel
        by_cases hlt : k < b.length
        · obtain ⟨g, off, rfl, hcell⟩ := (HB.out.below tk.out.p.below) (by omega)
          have ck : wr.cell? ⟨g, off + k, none⟩ = some (.int .i64 b[k]) := hcell k hlt
          have hz := Lib.hid (HUB.out b[k] (List.getElem_mem hlt))
          have hpl := pre_length_int b k HUB.out hk
          have E := Lib.hid (List.take_succ_eq_append_getElem hlt)
          clear hcell T5
          generalize b[k] = z at *
          go_wp2_with (fail)
          refine (out_int_laid (w.heap.size + 1) v' _ [z] _ rfl (0, 0) 1 1 rfl _ _ rfl tk.out.p.at_ (fun n hn => by simp at hn; subst hn; exact hz.out) (by simp) (by simp only [List.length_append, List.length_cons, List.length_nil]; omega)).mono ?_
          rintro e w4 ⟨rfl, v4, o4, s4⟩
          have T4 := Lib.hid (tk.out.step o4 s4)
          clear o4 s4
          go_wp2_with (fail)
          go_roundw
          case rel => exact ⟨k + 1, v4, by omega, by go_num, by
            have := T4.out
            rw [E.out, List.flatMap_append, ← List.append_assoc]
            exact this⟩
          case measure => simp [intOf]; omega
        · have hk' : k = b.length := by omega
          subst hk'
          have T6 : Hid (Two w wr w.heap.size v3 (manyL a b c) (w.heap.size + 1) v' (a.flatMap uint ++ b.flatMap fun n => uint (zig n))) := by
            have := tk.out
            rw [List.take_length] at this
            exact this
          clear tk T5
          go_wp2_with (fail)
          go_loopw [14, 57] (fun _ i wt => ∃ (k : Nat) (v' : Value), k ≤ c.length ∧ i = .int .i64 k ∧ Hid (Two w wt w.heap.size v3 (manyL a b c) (w.heap.size + 1) v' (a.flatMap uint ++ (b.flatMap fun n => uint (zig n)) ++ (c.take k).map bit))) (fun _ i _ => c.length - (intOf i).toNat)
          case atStart => exact ⟨0, _, Nat.zero_le _, rfl, by simpa [Hid] using T6.out⟩
          case round =>
            obtain ⟨k, v', hk, rfl, tk⟩ := hrel
            by_cases hlt : k < c.length
            · obtain ⟨g, off, rfl, hcell⟩ := (HC.out.below tk.out.p.below) (by omega)
              have ck : wr.cell? ⟨g, off + k, none⟩ = some (.bool c[k]) := hcell k hlt
              have E := Lib.hid (List.take_succ_eq_append_getElem hlt)
              have hpl : ((c.take k).map bit).length ≤ 60 := by rw [List.length_map, List.length_take]; omega
              clear hcell T6
              generalize c[k] = z at *
              go_wp2_with (fail)
              refine (out_bool_laid (w.heap.size + 1) v' _ [z] _ rfl (0, 0) 1 1 rfl _ _ rfl tk.out.p.at_ (by simp) (by simp only [List.length_append, List.length_cons, List.length_nil]; omega)).mono ?_
              rintro e w4 ⟨rfl, v4, o4, s4⟩
              have T4 := Lib.hid (tk.out.step o4 s4)
              clear o4 s4
              go_wp2_with (fail)
              go_roundw
              case rel => exact ⟨k + 1, v4, by omega, by go_num, by
                have := T4.out
                rw [E.out, List.map_append, ← List.append_assoc]
                exact this⟩
              case measure => simp [intOf]; omega
            · have hk' : k = c.length := by omega
              subst hk'
              have T7 : Hid (Two w wr w.heap.size v3 (manyL a b c) (w.heap.size + 1) v' (manyL a b c)) := by
                have := tk.out
                rw [List.take_length] at this
                exact this
              have hAL : Hid (AreBytes (manyL a b c)) := ((flat_are a fun x => x).append (flat_are b zig)).append (bit_are c)
              have hSZ : Hid ((manyL a b c).length ≤ 1099511627776) := by
                show _ ≤ _
                unfold manyL
                simp only [List.length_append, List.length_map]
                omega
              clear tk T6
              generalize manyL a b c = lb at *
              have HO := Lib.hid T7.out.o
              have HP := Lib.hid T7.out.p.at_
              have HBW := Lib.hid T7.out.p.below
              clear T7
              go_wp2_with (fail)
              refine regs.wp_region_put (regs.bl) (regs.noJ) [65, 66, 67, 68, 69, 70, 71, 72, 6] (by kernel_rfl) (by kernel_rfl) (fun _ => regs.bl_refl _) (regs.bl_trans) (fun i => (match i with
                | 0 => sayBytes lb
                | 1 => regs.Say.val _ (.string (strOf lb))
                | 2 => sayBytes lb
                | 3 => regs.Say.val _ (.string (strOf lb))
                | 4 => regs.Say.val _ (.bool true)
                | 5 => regs.Say.val _ (.bool true)
                | 6 => regs.Say.val _ (.bool true)
                | 7 => regs.Say.val _ (.bool true)
                | 8 => regs.Say.val _ (.bool true)
                | _ => regs.Say.any _ : regs.Say (regs.bl)).p) (fun _ => regs.Say.mono _) (by kernel_rfl) ((Below.refl _ _).drew) (regs.noJ_ok _ _) ⟨?_, ?_, ?_, ?_, ?_, ?_, ?_, ?_, ?_, trivial⟩ ?_
              · refine regs.StepOK.plain rfl fun L a w1 hh => ?_
                have h7 : a.tmps[7]?.getD undef = .pointer (some ⟨w.heap.size, 0, none⟩) := by rw [← Array.getD_eq_getD_getElem?]; exact hh.old 7 rfl
                have HO := (HO.out).below hh.rel
                have hJ := Lib.hid hh.st
                clear hh
                go_simp
                refine (out_bytes_any _ _ _ w1 HO hAL.out hSZ.out).mono ?_
                rintro e w2 ⟨v2, rfl, own2, hb2⟩
                obtain ⟨a2, c2, rfl, hp2, _, _⟩ := own2.part hAL.out
                exact ⟨_, rfl, hb2, ⟨a2, c2, rfl, hp2.at_⟩, hJ.out⟩
              · refine regs.StepOK.plain rfl fun L a w1 hh => ?_
                obtain ⟨a2, c2, h65, hat⟩ : ∃ a2 c2, a.tmps[65]?.getD undef = .slice a2 lb.length c2 ∧ Bs w1 a2 lb := by rw [← Array.getD_eq_getD_getElem?]; exact hh.dep 0 65 (by kernel_rfl) (by kernel_rfl)
                have hcv := conv_str w1 a2 lb c2 hat
                have hJ := Lib.hid hh.st
                clear hh
                go_simp
                exact ⟨_, rfl, regs.bl_refl _, rfl, hJ.out⟩
              · refine regs.StepOK.plain rfl fun L a w1 hh => ?_
                have h8 : a.tmps[8]?.getD undef = .pointer (some ⟨w.heap.size + 1, 0, none⟩) := by rw [← Array.getD_eq_getD_getElem?]; exact hh.old 8 rfl
                have HO := (HP.out).below hh.rel
                have hJ := Lib.hid hh.st
                clear hh
                go_simp
                refine (out_bytes_any _ _ _ w1 HO hAL.out hSZ.out).mono ?_
                rintro e w2 ⟨v2, rfl, own2, hb2⟩
                obtain ⟨a2, c2, rfl, hp2, _, _⟩ := own2.part hAL.out
                exact ⟨_, rfl, hb2, ⟨a2, c2, rfl, hp2.at_⟩, hJ.out⟩
              · refine regs.StepOK.plain rfl fun L a w1 hh => ?_
                obtain ⟨a2, c2, h67, hat⟩ : ∃ a2 c2, a.tmps[67]?.getD undef = .slice a2 lb.length c2 ∧ Bs w1 a2 lb := by rw [← Array.getD_eq_getD_getElem?]; exact hh.dep 2 67 (by kernel_rfl) (by kernel_rfl)
                have hcv := conv_str w1 a2 lb c2 hat
                have hJ := Lib.hid hh.st
                clear hh
                go_simp
                exact ⟨_, rfl, regs.bl_refl _, rfl, hJ.out⟩
              · refine regs.StepOK.plain rfl fun L a w1 hh => ?_
                have h66 : a.tmps[66]?.getD undef = .string (strOf lb) := by rw [← Array.getD_eq_getD_getElem?]; exact hh.dep 1 66 (by kernel_rfl) (by kernel_rfl)
                have h68 : a.tmps[68]?.getD undef = .string (strOf lb) := by rw [← Array.getD_eq_getD_getElem?]; exact hh.dep 3 68 (by kernel_rfl) (by kernel_rfl)
                have hJ := Lib.hid hh.st
                clear hh
                go_simp
                exact ⟨_, rfl, regs.bl_refl _, rfl, hJ.out⟩
              · refine regs.StepOK.plain rfl fun L a w1 hh => ?_
                have h69 : a.tmps[69]?.getD undef = .bool true := by rw [← Array.getD_eq_getD_getElem?]; exact hh.dep 4 69 (by kernel_rfl) (by kernel_rfl)
                have hJ := Lib.hid hh.st
                clear hh
                go_simp
                exact ⟨_, rfl, regs.bl_refl _, rfl, hJ.out⟩
              · refine regs.StepOK.yes 5 true 70 rfl rfl (fun L a w1 hh => hh.dep 5 70 (by kernel_rfl) (by kernel_rfl)) fun L a w1 hh => ?_
                have hJ := Lib.hid hh.st
                clear hh
                go_simp
                refine (awake_any w1).mono ?_
                rintro e w2 ⟨rfl, hb2⟩
                exact ⟨_, rfl, hb2, rfl, hJ.out⟩
              · refine regs.StepOK.plain rfl fun L a w1 hh => ?_
                have h70 : a.tmps[70]?.getD undef = .bool true := by rw [← Array.getD_eq_getD_getElem?]; exact hh.dep 5 70 (by kernel_rfl) (by kernel_rfl)
                have h71 : a.tmps[71]?.getD undef = .bool true := by rw [← Array.getD_eq_getD_getElem?]; exact hh.dep 6 71 (by kernel_rfl) (by kernel_rfl)
                have hJ := Lib.hid hh.st
                clear hh
                go_simp
                exact ⟨_, rfl, regs.bl_refl _, rfl, hJ.out⟩
              · refine regs.StepOK.plain rfl fun L a w1 hh => ?_
                have h72 : a.tmps[72]?.getD undef = .bool true := by rw [← Array.getD_eq_getD_getElem?]; exact hh.dep 7 72 (by kernel_rfl) (by kernel_rfl)
                have hJ := Lib.hid hh.st
                clear hh
                go_simp
                exact ⟨_, rfl, regs.bl_refl _, rfl, hJ.out⟩
              intro Lf w5 val _ _ hb5 hf
              have v6 : val 6 = .bool true := hf 8 6 (by kernel_rfl)
              clear hf
              simp only [regs.putAll, List.map_cons, List.map_nil]
              rw [v6]
              go_simp
              go_wp2_with (fail)
              go_ret
              exact ⟨rfl, HBW.out.trans (Below.mono hb5 HBW.out.size)⟩

theorem coderMany.walk (A : Option Addr) (a : List Nat) (ca : Nat) (B : Option Addr) (b : List Int) (cb : Nat) (C : Option Addr) (c : List Bool) (cc : Nat) (w : World) (ha : Row eU w A a) (hua : ∀ z ∈ a, U64 z) (hb : Row eI w B b) (hub : ∀ z ∈ b, I64 z) (hc : Row Value.bool w C c) :
    Calls Try.prog 6 #[.slice A a.length ca, .slice B b.length cb, .slice C c.length cc] w fun e w' => e = .returned (.bool true) ∧ Below w.heap.size w w' := by
  by_cases h : a.length ≤ 60 ∧ b.length ≤ 60 ∧ c.length ≤ 60
  · exact many_walk A a ca B b cb C c cc w ha hua hb hub hc h.1 h.2.1 h.2.2
  · exact many_long A a ca B b cb C c cc w (by omega)
end Go.Proofs.Ytbopijlacdkpeaa
