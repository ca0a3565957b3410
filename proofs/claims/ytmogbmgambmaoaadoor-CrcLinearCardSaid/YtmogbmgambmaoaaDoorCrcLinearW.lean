/-
  The walk of the law CrcLinear.
-/
import Derived.Test.YtmogbmgambmaoaaDoorCrcApp
import Derived.Test.YtmogbmgambmaoaaDoorRegFacts
import Derived.Deep.RegionHeld3
import Derived.WalkLawsBesides
namespace Go.Proofs.YtmogbmgambmaoaaDoor
open Go.RowKit crcm

/-- the bytes, exclusively ored, up to k -/
def xors (p q r : List Nat) (k : Nat) : List Nat := (List.range k).map fun i => p.getD i 0 ^^^ q.getD i 0 ^^^ r.getD i 0
theorem xors_length (p q r : List Nat) (k : Nat) : (xors p q r k).length = k := by simp [xors]
theorem xors_succ (p q r : List Nat) (k : Nat) : xors p q r (k + 1) = xors p q r k ++ [p.getD k 0 ^^^ q.getD k 0 ^^^ r.getD k 0] := by simp [xors, List.range_succ]
theorem getD_at {l : List Nat} {k : Nat} (h : k < l.length) : l.getD k 0 = l[k] := by simp [List.getD, h]

theorem xors_are {p q r : List Nat} (hp : AreBytes p) (hq : AreBytes q) (hr : AreBytes r) (k : Nat) : AreBytes (xors p q r k) := by
  have g : ∀ {l : List Nat} (_ : AreBytes l) (i : Nat), l.getD i 0 < 256 := fun {l} h i => by
    rcases Nat.lt_or_ge i l.length with hi | hi
    · rw [getD_at hi]; exact h.at_ hi
    · simp [List.getD, List.getElem?_eq_none hi]
  intro z hz
  simp only [xors, List.mem_map] at hz
  obtain ⟨i, _, rfl⟩ := hz
  exact Nat.xor_lt_two_pow (n := 8) (Nat.xor_lt_two_pow (n := 8) (g hp i) (g hq i)) (g hr i)
theorem take_range {l : List Nat} {k : Nat} (h : k ≤ l.length) : l.take k = (List.range k).map fun i => l.getD i 0 := by
  apply List.ext_getElem?
  intro i
  rw [List.getElem?_take]
  by_cases hi : i < k
  · simp [hi, List.getD, show i < l.length by omega]
  · simp [hi]
theorem sum_xors {p q r : List Nat} {k : Nat} (hp : k ≤ p.length) (hq : k ≤ q.length) (hr : k ≤ r.length) : sum (xors p q r k) = sum (p.take k) ^^^ sum (q.take k) ^^^ sum (r.take k) := by
  have h := crc_three 4294967295 4294967295 4294967295 ((List.range k).map fun i => (p.getD i 0, q.getD i 0, r.getD i 0))
  simp only [List.map_map] at h
  have e : (4294967295 : Nat) ^^^ 4294967295 ^^^ 4294967295 = 4294967295 := by decide
  rw [e] at h
  have e1 : p.take k = (List.range k).map ((fun x : Nat × Nat × Nat => x.1) ∘ fun i => (p.getD i 0, q.getD i 0, r.getD i 0)) := take_range hp
  have e2 : q.take k = (List.range k).map ((fun x : Nat × Nat × Nat => x.2.1) ∘ fun i => (p.getD i 0, q.getD i 0, r.getD i 0)) := take_range hq
  have e3 : r.take k = (List.range k).map ((fun x : Nat × Nat × Nat => x.2.2) ∘ fun i => (p.getD i 0, q.getD i 0, r.getD i 0)) := take_range hr
  have e0 : xors p q r k = (List.range k).map ((fun x : Nat × Nat × Nat => x.1 ^^^ x.2.1 ^^^ x.2.2) ∘ fun i => (p.getD i 0, q.getD i 0, r.getD i 0)) := rfl
  rw [← e0, ← e1, ← e2, ← e3] at h
  unfold sum
  rw [h]
  generalize crc 4294967295 (p.take k) = A
  generalize crc 4294967295 (q.take k) = B
  generalize crc 4294967295 (r.take k) = C
  have : (A ^^^ 4294967295) ^^^ (B ^^^ 4294967295) ^^^ (C ^^^ 4294967295) = A ^^^ B ^^^ C ^^^ (4294967295 ^^^ 4294967295 ^^^ 4294967295) := by ac_rfl
  rw [this, e]
theorem Part.ok.take {w : World} {a : Option Addr} {l : List Nat} {c : Nat} (h : (⟨a, l, c⟩ : Part).ok w) {k : Nat} (hk : k ≤ l.length) : (⟨a, l.take k, c⟩ : Part).ok w := by
  have hl : (l.take k).length = k := by rw [List.length_take]; omega
  have hr : l.length ≤ c := h.room
  have ha : Bs w a l := h.at_
  refine ⟨by simp only [hl]; omega, h.max, fun hn => ?_, h.bytes.take k⟩
  simp only [hl] at hn
  obtain ⟨b, off, rfl, hc⟩ := ha (by omega)
  refine ⟨b, off, rfl, fun j hj => ?_⟩
  have hj' : j < k := by simpa [hl] using hj
  rw [hc j (by omega)]
  simp
/-- the sum of one part that was just laid -/
theorem sum_bld {w : World} {a : Option Addr} {l : List Nat} {c n g : Nat} (hok : (⟨a, l, c⟩ : Part).ok w) (hn : l.length = n) (ht : TabAt w) (hc : w.cell? ⟨g, 0, none⟩ = some (.slice a n c)) :
    Calls Tryd.prog 9 #[.slice (some ⟨g, 0, none⟩) 1 1] w fun e w' => e = .returned (.int .u32 (sum l : Nat)) ∧ Below w.heap.size w w' := by
  subst hn
  refine (sum_one g 0 a l c 1 w hc hok.room hok.max hok.at_ hok.bytes ht).mono ?_
  rintro e w' ⟨rfl, hd⟩
  exact ⟨rfl, below_drew (Below.refl _ _) hd⟩

/-- append of one byte, laid in a block of its own, at a step of a region -/
theorem step_app {ops : Array Oper} {o : Oper} {a : Act} {K : Act → World → Prop} {Q : Exit → Act → World → Prop} {E : Prop} {w : World} (hgd : o.guard = none) (s x : Operand)
    (ho : o.op = .call { callee := .builtin .append, args := #[s, x], argTypes := #[22, 22] }) (hty : o.type = 22) (W0 : World) (base : Nat) (v : Value) (l : List Nat) (hown : Own W0 base v l) (hw : Below W0.heap.size W0 w)
    (hs : a.eval s = v) (H z : Nat) (hx : a.eval x = .slice (some ⟨H, 0, none⟩) 1 1) (hz : w.cell? ⟨H, 0, none⟩ = some (.int .u8 (z : Nat))) (hb : z < 256) (hsz : l.length + 1 ≤ 1099511627776) (hbase : base ≤ W0.heap.size)
    (h : ∀ v' w', Own w' base v' (l ++ [z]) → Below base w w' → K (a.put o.dst v') w') : if Region.wanted o (yielded ops a.tmps) = true then Oper.wp Tryd.prog o a w K Q else E := by
  have hwt : Region.wanted o (yielded ops a.tmps) = true := by simp [Region.wanted, hgd]
  rw [if_pos hwt]
  obtain ⟨v', w', hrun, h2, h3⟩ := app_run w base v l (own_below hown hw) ⟨some ⟨H, 0, none⟩, [z], 1⟩ ⟨Nat.le_refl _, by simp [maxLen], fun _ => ⟨H, 0, rfl, fun j hj => by
    have : j = 0 := by simpa using hj
    subst this
    exact hz⟩, fun y hy => by
      have : y = z := by simpa using hy
      rw [this]
      exact hb⟩ hsz (Nat.le_trans hbase hw.size)
  simp only [List.length_cons, List.length_nil, Nat.zero_add] at hrun
  unfold Oper.wp execOp
  rw [ho, hty]
  simp only [resolve, invoke, builtin, Sem.run_bind, Sem.run_pure, Result.andThen_ok, List.map_toArray, List.map_cons, List.map_nil, hs, hx, hrun]
  exact h v' w' h2 h3

set_option maxHeartbeats 1000000 in
theorem linear_walk (p q r : Part) (m n : Nat) (w : World) (hp : p.ok w) (hq : q.ok w) (hr : r.ok w) (ht : TabAt w) (hm : m = min p.l.length q.l.length) (hn : n = min m r.l.length) (h0 : n ≤ 2000) :
    Calls Tryd.prog 6 #[.slice p.a p.l.length p.c, .slice q.a q.l.length q.c, .slice r.a r.l.length r.c] w fun e w' => e = .returned (.bool true) ∧ Below w.heap.size w w' := by
  obtain ⟨pa, pl, pc⟩ := p
  obtain ⟨qa, ql, qc⟩ := q
  obtain ⟨ra, rl, rc⟩ := r
  simp only at hm hn ⊢
  have m1 : (if ql.length < pl.length then ((ql.length : Nat) : Int) else (pl.length : Nat)) = (m : Nat) := by split <;> omega
  have m2 : (if rl.length < m then ((rl.length : Nat) : Int) else (m : Nat)) = (n : Nat) := by split <;> omega
  have l1 : n ≤ pl.length := by omega
  have l2 : n ≤ ql.length := by omega
  have l3 : n ≤ rl.length := by omega
  have t0 : decide ((2000 : Int) < (n : Int)) = false := by simp; omega
  clear hm hn
  go_enter Tryd.func6, Tryd.ntmps6
  go_wp2_with (fail)
  have hBn : Below w.heap.size w w := Below.refl _ _
  go_loopw [8, 21] (fun v i wr => ∃ k : Nat, k ≤ n ∧ i = .int .i64 k ∧ Own wr w.heap.size v (xors pl ql rl k) ∧ Below w.heap.size w wr) (fun _ i _ => n - (intOf i).toNat)
  case atStart => exact ⟨0, Nat.zero_le _, rfl, own_nil _ _, hBn⟩
  case round =>
    obtain ⟨k, hk, rfl, hown, hbw⟩ := hrel
    clear hBn
    by_cases hlt : k < n
    · obtain ⟨b1, o1, e1, hc1⟩ := hp.at_ (by simp only; omega)
      obtain ⟨b2, o2, e2, hc2⟩ := hq.at_ (by simp only; omega)
      obtain ⟨b3, o3, e3, hc3⟩ := hr.at_ (by simp only; omega)
      simp only at e1 e2 e3 hc1 hc2 hc3
      subst e1 e2 e3
      have lb1 := World.block_lt_of_cell? w _ (hc1 k (by omega))
      have lb2 := World.block_lt_of_cell? w _ (hc2 k (by omega))
      have lb3 := World.block_lt_of_cell? w _ (hc3 k (by omega))
      simp only at lb1 lb2 lb3
      have ck1 := (hbw.cell (p := ⟨b1, o1 + k, none⟩) lb1).trans (hc1 k (by omega))
      have ck2 := (hbw.cell (p := ⟨b2, o2 + k, none⟩) lb2).trans (hc2 k (by omega))
      have ck3 := (hbw.cell (p := ⟨b3, o3 + k, none⟩) lb3).trans (hc3 k (by omega))
      have w1 : pl[k] < 256 := hp.bytes.at_ (by simp only; omega)
      have w2 : ql[k] < 256 := hq.bytes.at_ (by simp only; omega)
      have w3 : rl[k] < 256 := hr.bytes.at_ (by simp only; omega)
      have hx := Lib.hid (xors_succ pl ql rl k)
      rw [getD_at (show k < pl.length by omega), getD_at (show k < ql.length by omega), getD_at (show k < rl.length by omega)] at hx
      clear hc1 hc2 hc3 hp hq hr
      generalize pl[k] = z1 at *
      generalize ql[k] = z2 at *
      generalize rl[k] = z3 at *
      have x12 : z1 ^^^ z2 < 256 := Nat.xor_lt_two_pow (n := 8) w1 w2
      have x123 : z1 ^^^ z2 ^^^ z3 < 256 := Nat.xor_lt_two_pow (n := 8) x12 w3
      have y1 : bits .xor .u8 (z1 : Int) (z2 : Int) = ((z1 ^^^ z2 : Nat) : Int) := u8_xor_nat z1 z2 w1 w2
      have y2 : bits .xor .u8 ((z1 ^^^ z2 : Nat) : Int) (z3 : Int) = ((z1 ^^^ z2 ^^^ z3 : Nat) : Int) := u8_xor_nat _ z3 x12 w3
      generalize z1 ^^^ z2 = z12 at *
      generalize z12 ^^^ z3 = z at *
      have i1 : (k : Int) < (pl.length : Int) := by omega
      have i2 : (k : Int) < (ql.length : Int) := by omega
      have i3 : (k : Int) < (rl.length : Int) := by omega
      have HW := Lib.hid hbw
      have HO := Lib.hid hown
      clear hown hbw
      go_wp2
      go_region_held3 (fun w' => w'.cell? ⟨b1, o1 + k, none⟩ = some (.int .u8 (z1 : Nat)) ∧ w'.cell? ⟨b2, o2 + k, none⟩ = some (.int .u8 (z2 : Nat)) ∧ w'.cell? ⟨b3, o3 + k, none⟩ = some (.int .u8 (z3 : Nat)))
        (first
          | go_keep
          | exact ⟨(hb'.cell (p := ⟨b1, o1 + k, none⟩) lb1).trans (by go_keep), (hb'.cell (p := ⟨b2, o2 + k, none⟩) lb2).trans (by go_keep), (hb'.cell (p := ⟨b3, o3 + k, none⟩) lb3).trans (by go_keep)⟩)
        ((refine step_app (by rfl) _ _ (by rfl) (by rfl) wr w.heap.size _ _ HO.out (((Below.refl _ _).drew).alloc (by simp) _) (by rfl) _ z (by rfl) (by simp) x123 (by rw [xors_length]; omega) HW.out.size ?_; intro v' w' hown' hb'))
      go_wp2
      go_roundw
      case rel => exact ⟨k + 1, by omega, by go_num, by rw [hx.out]; exact hown', ((HW.out.drew).alloc HW.out.size _).trans hb'⟩
      case measure => simp [intOf]; omega
    · have hkn : k = n := by omega
      subst hkn
      obtain ⟨da, dc, rfl, hdok⟩ := own_part hown (xors_are hp.bytes hq.bytes hr.bytes k)
      have hLl := xors_length pl ql rl k
      rw [hLl]
      have hS := sum_xors l1 l2 l3
      have s1 := sum_lt (hp.take l1).bytes
      have s2 := sum_lt (hq.take l2).bytes
      have s3 := sum_lt (hr.take l3).bytes
      simp only at s1 s2 s3
      have x1 : bits .xor .u32 (sum (pl.take k) : Nat) (sum (ql.take k) : Nat) = (sum (pl.take k) ^^^ sum (ql.take k) : Nat) := u32_xor_nat _ _ s1 s2
      have x2 : bits .xor .u32 (sum (pl.take k) ^^^ sum (ql.take k) : Nat) (sum (rl.take k) : Nat) = (sum (xors pl ql rl k) : Nat) := by
        rw [hS]
        exact u32_xor_nat _ _ (xor_lt s1 s2) s3
      have hpt := (hp.below hbw).take l1
      have hqt := (hq.below hbw).take l2
      have hrt := (hr.below hbw).take l3
      have htr := ht.below hbw
      have q1 : k ≤ pc := Nat.le_trans l1 hp.room
      have q2 : k ≤ qc := Nat.le_trans l2 hq.room
      have q3 : k ≤ rc := Nat.le_trans l3 hr.room
      have n1 : (pl.take k).length = k := by rw [List.length_take]; omega
      have n2 : (ql.take k).length = k := by rw [List.length_take]; omega
      have n3 : (rl.take k).length = k := by rw [List.length_take]; omega
      clear hown hlt hk hp hq hr ht hS s1 s2 s3
      generalize xors pl ql rl k = L at *
      generalize pl.take k = pk at *
      generalize ql.take k = qk at *
      generalize rl.take k = rk at *
      have X1 := Lib.hid x1
      have X2 := Lib.hid x2
      have N0 := Lib.hid hLl
      have N1 := Lib.hid n1
      have N2 := Lib.hid n2
      have N3 := Lib.hid n3
      clear x1 x2 hLl n1 n2 n3 m1 m2 l1 l2 l3 t0 h0
      go_wp2_with (fail)
      refine regf.wp_region_hand (by kernel_rfl) (fun i => (match i with
        | 0 => regf.Say.val (.slice da k dc)
        | 1 => regf.Say.one (.slice da k dc)
        | 2 => regf.Say.val (.int .u32 (sum L : Nat))
        | 3 => regf.Say.val (.slice pa pl.length pc)
        | 4 => regf.Say.val (.int .i64 k)
        | 5 => regf.Say.val (.slice pa k pc)
        | 6 => regf.Say.one (.slice pa k pc)
        | 7 => regf.Say.val (.int .u32 (sum pk : Nat))
        | 8 => regf.Say.val (.slice qa ql.length qc)
        | 9 => regf.Say.val (.int .i64 k)
        | 10 => regf.Say.val (.slice qa k qc)
        | 11 => regf.Say.one (.slice qa k qc)
        | 12 => regf.Say.val (.int .u32 (sum qk : Nat))
        | 13 => regf.Say.val (.int .u32 (sum pk ^^^ sum qk : Nat))
        | 14 => regf.Say.val (.slice ra rl.length rc)
        | 15 => regf.Say.val (.int .i64 k)
        | 16 => regf.Say.val (.slice ra k rc)
        | 17 => regf.Say.one (.slice ra k rc)
        | 18 => regf.Say.val (.int .u32 (sum rk : Nat))
        | 19 => regf.Say.val (.int .u32 (sum L : Nat))
        | _ => regf.Say.val (.bool true) : regf.Say).p) (fun _ => regf.Say.mono _) (by kernel_rfl) ⟨?_, ?_, ?_, ?_, ?_, ?_, ?_, ?_, ?_, ?_, ?_, ?_, ?_, ?_, ?_, ?_, ?_, ?_, ?_, ?_, ?_, ?_, ?_, ?_, ?_, trivial⟩ ?_
      · refine regf.StepOK.plain rfl fun a w1 hh => ?_
        have h8 : a.tmps[8]?.getD undef = .slice da k dc := by rw [← Array.getD_eq_getD_getElem?]; exact hh.old 8 rfl
        clear hh
        go_simp
        exact ⟨_, rfl, Below.refl _ _, rfl⟩
      · refine regf.StepOK.plain rfl fun a w1 hh => ?_
        have h42 : a.tmps[42]?.getD undef = .slice da k dc := by rw [← Array.getD_eq_getD_getElem?]; exact hh.dep 0 42 (by kernel_rfl) (by kernel_rfl)
        clear hh
        go_simp
        exact ⟨_, rfl, (Below.refl _ _).alloc (Nat.le_refl _) _, _, rfl, cell_new _ _ _ _ 0⟩
      · refine regf.StepOK.plain rfl fun a w1 hh => ?_
        obtain ⟨g, h43, hcell⟩ : ∃ g, a.tmps[43]?.getD undef = .slice (some ⟨g, 0, none⟩) 1 1 ∧ w1.cell? ⟨g, 0, none⟩ = some (.slice da k dc) := by rw [← Array.getD_eq_getD_getElem?]; exact hh.dep 1 43 (by kernel_rfl) (by kernel_rfl)
        have hc := sum_bld (hdok.below hh.below) N0.out (htr.below hh.below) hcell
        clear hh
        go_simp
        refine hc.mono ?_
        rintro e w2 ⟨rfl, hb2⟩
        exact ⟨_, rfl, hb2, rfl⟩
      · refine regf.StepOK.plain rfl fun a w1 hh => ?_
        have h0 : a.tmps[0]?.getD undef = .slice pa pl.length pc := by rw [← Array.getD_eq_getD_getElem?]; exact hh.old 0 rfl
        clear hh
        go_simp
        exact ⟨_, rfl, Below.refl _ _, rfl⟩
      · refine regf.StepOK.plain rfl fun a w1 hh => ?_
        have h7 : a.tmps[7]?.getD undef = .int .i64 k := by rw [← Array.getD_eq_getD_getElem?]; exact hh.old 7 rfl
        clear hh
        go_simp
        exact ⟨_, rfl, Below.refl _ _, rfl⟩
      · refine regf.StepOK.plain rfl fun a w1 hh => ?_
        have h45 : a.tmps[45]?.getD undef = .slice pa pl.length pc := by rw [← Array.getD_eq_getD_getElem?]; exact hh.dep 3 45 (by kernel_rfl) (by kernel_rfl)
        have h46 : a.tmps[46]?.getD undef = .int .i64 k := by rw [← Array.getD_eq_getD_getElem?]; exact hh.dep 4 46 (by kernel_rfl) (by kernel_rfl)
        clear hh
        go_simp
        exact ⟨_, rfl, Below.refl _ _, rfl⟩
      · refine regf.StepOK.plain rfl fun a w1 hh => ?_
        have h47 : a.tmps[47]?.getD undef = .slice pa k pc := by rw [← Array.getD_eq_getD_getElem?]; exact hh.dep 5 47 (by kernel_rfl) (by kernel_rfl)
        clear hh
        go_simp
        exact ⟨_, rfl, (Below.refl _ _).alloc (Nat.le_refl _) _, _, rfl, cell_new _ _ _ _ 0⟩
      · refine regf.StepOK.plain rfl fun a w1 hh => ?_
        obtain ⟨g, h48, hcell⟩ : ∃ g, a.tmps[48]?.getD undef = .slice (some ⟨g, 0, none⟩) 1 1 ∧ w1.cell? ⟨g, 0, none⟩ = some (.slice pa k pc) := by rw [← Array.getD_eq_getD_getElem?]; exact hh.dep 6 48 (by kernel_rfl) (by kernel_rfl)
        have hc := sum_bld (hpt.below hh.below) N1.out (htr.below hh.below) hcell
        clear hh
        go_simp
        refine hc.mono ?_
        rintro e w2 ⟨rfl, hb2⟩
        exact ⟨_, rfl, hb2, rfl⟩
      · refine regf.StepOK.plain rfl fun a w1 hh => ?_
        have h1 : a.tmps[1]?.getD undef = .slice qa ql.length qc := by rw [← Array.getD_eq_getD_getElem?]; exact hh.old 1 rfl
        clear hh
        go_simp
        exact ⟨_, rfl, Below.refl _ _, rfl⟩
      · refine regf.StepOK.plain rfl fun a w1 hh => ?_
        have h7 : a.tmps[7]?.getD undef = .int .i64 k := by rw [← Array.getD_eq_getD_getElem?]; exact hh.old 7 rfl
        clear hh
        go_simp
        exact ⟨_, rfl, Below.refl _ _, rfl⟩
      · refine regf.StepOK.plain rfl fun a w1 hh => ?_
        have h50 : a.tmps[50]?.getD undef = .slice qa ql.length qc := by rw [← Array.getD_eq_getD_getElem?]; exact hh.dep 8 50 (by kernel_rfl) (by kernel_rfl)
        have h51 : a.tmps[51]?.getD undef = .int .i64 k := by rw [← Array.getD_eq_getD_getElem?]; exact hh.dep 9 51 (by kernel_rfl) (by kernel_rfl)
        clear hh
        go_simp
        exact ⟨_, rfl, Below.refl _ _, rfl⟩
      · refine regf.StepOK.plain rfl fun a w1 hh => ?_
        have h52 : a.tmps[52]?.getD undef = .slice qa k qc := by rw [← Array.getD_eq_getD_getElem?]; exact hh.dep 10 52 (by kernel_rfl) (by kernel_rfl)
        clear hh
        go_simp
        exact ⟨_, rfl, (Below.refl _ _).alloc (Nat.le_refl _) _, _, rfl, cell_new _ _ _ _ 0⟩
      · refine regf.StepOK.plain rfl fun a w1 hh => ?_
        obtain ⟨g, h53, hcell⟩ : ∃ g, a.tmps[53]?.getD undef = .slice (some ⟨g, 0, none⟩) 1 1 ∧ w1.cell? ⟨g, 0, none⟩ = some (.slice qa k qc) := by rw [← Array.getD_eq_getD_getElem?]; exact hh.dep 11 53 (by kernel_rfl) (by kernel_rfl)
        have hc := sum_bld (hqt.below hh.below) N2.out (htr.below hh.below) hcell
        clear hh
        go_simp
        refine hc.mono ?_
        rintro e w2 ⟨rfl, hb2⟩
        exact ⟨_, rfl, hb2, rfl⟩
      · refine regf.StepOK.plain rfl fun a w1 hh => ?_
        have h49 : a.tmps[49]?.getD undef = .int .u32 (sum pk : Nat) := by rw [← Array.getD_eq_getD_getElem?]; exact hh.dep 7 49 (by kernel_rfl) (by kernel_rfl)
        have h54 : a.tmps[54]?.getD undef = .int .u32 (sum qk : Nat) := by rw [← Array.getD_eq_getD_getElem?]; exact hh.dep 12 54 (by kernel_rfl) (by kernel_rfl)
        have x1 := X1.out
        clear hh
        go_simp
        exact ⟨_, rfl, Below.refl _ _, rfl⟩
      · refine regf.StepOK.plain rfl fun a w1 hh => ?_
        have h2 : a.tmps[2]?.getD undef = .slice ra rl.length rc := by rw [← Array.getD_eq_getD_getElem?]; exact hh.old 2 rfl
        clear hh
        go_simp
        exact ⟨_, rfl, Below.refl _ _, rfl⟩
      · refine regf.StepOK.plain rfl fun a w1 hh => ?_
        have h7 : a.tmps[7]?.getD undef = .int .i64 k := by rw [← Array.getD_eq_getD_getElem?]; exact hh.old 7 rfl
        clear hh
        go_simp
        exact ⟨_, rfl, Below.refl _ _, rfl⟩
      · refine regf.StepOK.plain rfl fun a w1 hh => ?_
        have h56 : a.tmps[56]?.getD undef = .slice ra rl.length rc := by rw [← Array.getD_eq_getD_getElem?]; exact hh.dep 14 56 (by kernel_rfl) (by kernel_rfl)
        have h57 : a.tmps[57]?.getD undef = .int .i64 k := by rw [← Array.getD_eq_getD_getElem?]; exact hh.dep 15 57 (by kernel_rfl) (by kernel_rfl)
        clear hh
        go_simp
        exact ⟨_, rfl, Below.refl _ _, rfl⟩
      · refine regf.StepOK.plain rfl fun a w1 hh => ?_
        have h58 : a.tmps[58]?.getD undef = .slice ra k rc := by rw [← Array.getD_eq_getD_getElem?]; exact hh.dep 16 58 (by kernel_rfl) (by kernel_rfl)
        clear hh
        go_simp
        exact ⟨_, rfl, (Below.refl _ _).alloc (Nat.le_refl _) _, _, rfl, cell_new _ _ _ _ 0⟩
      · refine regf.StepOK.plain rfl fun a w1 hh => ?_
        obtain ⟨g, h59, hcell⟩ : ∃ g, a.tmps[59]?.getD undef = .slice (some ⟨g, 0, none⟩) 1 1 ∧ w1.cell? ⟨g, 0, none⟩ = some (.slice ra k rc) := by rw [← Array.getD_eq_getD_getElem?]; exact hh.dep 17 59 (by kernel_rfl) (by kernel_rfl)
        have hc := sum_bld (hrt.below hh.below) N3.out (htr.below hh.below) hcell
        clear hh
        go_simp
        refine hc.mono ?_
        rintro e w2 ⟨rfl, hb2⟩
        exact ⟨_, rfl, hb2, rfl⟩
      · refine regf.StepOK.plain rfl fun a w1 hh => ?_
        have h55 : a.tmps[55]?.getD undef = .int .u32 (sum pk ^^^ sum qk : Nat) := by rw [← Array.getD_eq_getD_getElem?]; exact hh.dep 13 55 (by kernel_rfl) (by kernel_rfl)
        have h60 : a.tmps[60]?.getD undef = .int .u32 (sum rk : Nat) := by rw [← Array.getD_eq_getD_getElem?]; exact hh.dep 18 60 (by kernel_rfl) (by kernel_rfl)
        have x2 := X2.out
        clear hh
        go_simp
        exact ⟨_, rfl, Below.refl _ _, rfl⟩
      · refine regf.StepOK.plain rfl fun a w1 hh => ?_
        have h44 : a.tmps[44]?.getD undef = .int .u32 (sum L : Nat) := by rw [← Array.getD_eq_getD_getElem?]; exact hh.dep 2 44 (by kernel_rfl) (by kernel_rfl)
        have h61 : a.tmps[61]?.getD undef = .int .u32 (sum L : Nat) := by rw [← Array.getD_eq_getD_getElem?]; exact hh.dep 19 61 (by kernel_rfl) (by kernel_rfl)
        clear hh
        go_simp
        exact ⟨_, rfl, Below.refl _ _, rfl⟩
      · refine regf.StepOK.plain rfl fun a w1 hh => ?_
        have h62 : a.tmps[62]?.getD undef = .bool true := by rw [← Array.getD_eq_getD_getElem?]; exact hh.dep 20 62 (by kernel_rfl) (by kernel_rfl)
        clear hh
        go_simp
        exact ⟨_, rfl, Below.refl _ _, rfl⟩
      · refine regf.StepOK.yes 21 true 63 rfl (by kernel_rfl) (fun a w1 hh => hh.dep 21 63 (by kernel_rfl) (by kernel_rfl)) fun a w1 hh => ?_
        have hc := awake_any w1 (htr.below hh.below)
        clear hh
        go_simp
        refine hc.mono ?_
        rintro e w2 ⟨rfl, hb2⟩
        exact ⟨_, rfl, hb2, rfl⟩
      · refine regf.StepOK.plain rfl fun a w1 hh => ?_
        have h63 : a.tmps[63]?.getD undef = .bool true := by rw [← Array.getD_eq_getD_getElem?]; exact hh.dep 21 63 (by kernel_rfl) (by kernel_rfl)
        have h64 : a.tmps[64]?.getD undef = .bool true := by rw [← Array.getD_eq_getD_getElem?]; exact hh.dep 22 64 (by kernel_rfl) (by kernel_rfl)
        clear hh
        go_simp
        exact ⟨_, rfl, Below.refl _ _, rfl⟩
      · refine regf.StepOK.plain rfl fun a w1 hh => ?_
        have h65 : a.tmps[65]?.getD undef = .bool true := by rw [← Array.getD_eq_getD_getElem?]; exact hh.dep 23 65 (by kernel_rfl) (by kernel_rfl)
        clear hh
        go_simp
        exact ⟨_, rfl, Below.refl _ _, rfl⟩
      · intro a w1 hdef hsz hb hold hfact
        have h6 : a.tmps[6]?.getD undef = .bool true := by rw [← Array.getD_eq_getD_getElem?]; exact hfact 24 6 (by kernel_rfl)
        have hfin := hbw.trans (hb.mono hbw.size)
        have hd0 : a.defers = [] := hdef
        clear hdef hsz hold hfact X1 X2 N0 N1 N2 N3 hpt hqt hrt hdok
        go_wp2
        refine bodyPost_ret (results_tmp rfl _ _ _) hd0 ?_
        rw [Array.getD_eq_getD_getElem?, h6]
        exact ⟨rfl, hfin⟩

set_option maxHeartbeats 1000000 in
theorem linear_walk_long (p q r : Part) (m n : Nat) (w : World) (ht : TabAt w) (hm : m = min p.l.length q.l.length) (hn : n = min m r.l.length) (h0 : 2000 < n) :
    Calls Tryd.prog 6 #[.slice p.a p.l.length p.c, .slice q.a q.l.length q.c, .slice r.a r.l.length r.c] w fun e w' => e = .returned (.bool true) ∧ Below w.heap.size w w' := by
  obtain ⟨pa, pl, pc⟩ := p
  obtain ⟨qa, ql, qc⟩ := q
  obtain ⟨ra, rl, rc⟩ := r
  simp only at hm hn ⊢
  have m1 : (if ql.length < pl.length then ((ql.length : Nat) : Int) else (pl.length : Nat)) = (m : Nat) := by split <;> omega
  have m2 : (if rl.length < m then ((rl.length : Nat) : Int) else (m : Nat)) = (n : Nat) := by split <;> omega
  have t0 : decide ((2000 : Int) < (n : Int)) = true := by simp; omega
  clear hm hn
  go_enter Tryd.func6, Tryd.ntmps6
  go_wp2_with (fail)
  refine (awake_any w ht).mono ?_
  rintro e w' ⟨rfl, hb⟩
  go_wp2
  go_ret
  exact ⟨rfl, hb⟩

theorem crcLinear.walk (p q r : Part) (w : World) (hp : p.ok w) (hq : q.ok w) (hr : r.ok w) (ht : TabAt w) :
    Calls Tryd.prog 6 #[.slice p.a p.l.length p.c, .slice q.a q.l.length q.c, .slice r.a r.l.length r.c] w fun e w' => e = .returned (.bool true) ∧ Below w.heap.size w w' := by
  by_cases h : min (min p.l.length q.l.length) r.l.length ≤ 2000
  · exact linear_walk p q r _ _ w hp hq hr ht rfl rfl h
  · exact linear_walk_long p q r _ _ w ht rfl rfl (by omega)
end Go.Proofs.YtmogbmgambmaoaaDoor
