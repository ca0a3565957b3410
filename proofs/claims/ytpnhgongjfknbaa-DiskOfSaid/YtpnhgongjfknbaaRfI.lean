/-
  The document's own disk: a crash.
-/
import Derived.Test.YtpnhgongjfknbaaPyA
import Derived.Laws.IdiomStrings
namespace Go.Proofs.Ytpnhgongjfknbaa
open Go.RowKit omap

theorem crashAll_take {cs : List Ch} {fs : Fs} {k : Nat} (h : k < fs.length) : (crashAll cs fs).take (k + 1) = (crashAll cs fs).take k ++ [(fs[k].1, crashF (chAt cs k) fs[k].2)] := by
  have hl : k < (crashAll cs fs).length := by rw [crashAll_length]; exact h
  rw [List.take_succ_eq_append_getElem hl]
  simp [crashAll]
theorem ChRow.below {w w' : World} {A : Option Addr} {l : List Ch} (h : ChRow w A l) (hb : Below w.heap.size w w') : ChRow w' A l := fun hn => by
  obtain ⟨b, off, e, hc⟩ := h hn
  refine ⟨b, off, e, fun j hj => ?_⟩
  obtain ⟨h0, h1, h2⟩ := hc j hj
  have hl := World.block_lt_of_cell? w _ h0
  have hs := hb.block b hl
  exact ⟨(World.cell?_of_block (a := ⟨b, off + j * 3, none⟩) hs).trans h0, (World.cell?_of_block (a := ⟨b, off + j * 3 + 1, none⟩) hs).trans h1, (World.cell?_of_block (a := ⟨b, off + j * 3 + 2, none⟩) hs).trans h2⟩
/-- a text's bytes in a new block -/
theorem bytes_new (w : World) (g : Nat) (hg : g = w.heap.size) (s : ByteArray) :
    ∃ c w2, (convert 9 35 (.string s)).run Try.prog w = .ok (.slice (some ⟨g, 0, none⟩) s.size c) w2 ∧ Below w.heap.size w w2 ∧ Bs w2 (some ⟨g, 0, none⟩) (natsOf s) ∧ (∀ i, i < s.size → w2.frozen? ⟨g, i, none⟩ = false) ∧ g < w2.heap.size := by
  subst hg
  have h := run_bytes_of_string (P := Try.prog) w 9 35 5 s Try.underlying9 Try.underlying35 Try.underlying5
  refine ⟨_, _, h, ((Below.refl _ _).drew).alloc (Nat.le_refl _) _, fun _ => ⟨_, 0, rfl, fun j hj => ?_⟩, fun i hi => ?_, ?_⟩
  · rw [Nat.zero_add]
    have hj' : j < s.size := by rw [natsOf_length] at hj; exact hj
    refine (cell_of_row _ _ j _ _ _ (heap_alloc_new w.drew _)).trans ?_
    unfold bytesRow
    rw [Array.getElem?_append_left (by simp; exact hj')]
    have := natsOf_at s hj'
    simp only [this]
    simp [e8]
    exact ⟨s[j], Array.getElem?_eq_getElem hj', rfl⟩
  · have hsz : s.size ≤ (bytesRow s (grownCap w s.size 0 5)).size := by unfold bytesRow; rw [Array.size_append, Array.size_map]; exact Nat.le_add_right _ _
    have hne : ¬ (bytesRow s (grownCap w s.size 0 5)).size ≤ i := by omega
    unfold World.frozen?
    rw [show (w.drew.alloc (.cells (bytesRow s (grownCap w s.size 0 5)) 5 ((bytesRow s (grownCap w s.size 0 5)).size, (bytesRow s (grownCap w s.size 0 5)).size + 1))).heap[(⟨w.heap.size, i, none⟩ : Addr).block]? = _ from heap_alloc_new w.drew _]
    simp [hne]
  · simp
theorem row_set {w : World} {g : Nat} {l : List Nat} (h : Bs w (some ⟨g, 0, none⟩) l) {i : Nat} (hi : i < l.length) (z : Nat) : Bs (w.setCell ⟨g, i, none⟩ (.int .u8 (z : Nat))) (some ⟨g, 0, none⟩) (l.set i z) := fun hn => by
  rw [List.length_set] at hn
  obtain ⟨b, off, e, hc⟩ := h hn
  obtain ⟨rfl, rfl⟩ : b = g ∧ off = 0 := by
    have := Option.some.inj e
    simp only [Addr.mk.injEq] at this
    exact ⟨this.1.symm, this.2.1.symm⟩
  refine ⟨b, 0, rfl, fun j hj => ?_⟩
  rw [List.length_set] at hj
  have hcj := hc j hj
  have hci := hc i hi
  rw [Nat.zero_add] at hcj hci ⊢
  by_cases hji : j = i
  · subst hji
    rw [List.getElem_set_self]
    exact World.cell?_setCell_same' _ _ _ (by rw [hcj]; rfl)
  · rw [List.getElem_set_ne (Ne.symm hji)]
    rw [← hcj]
    apply World.cell?_setCell_other
    intro e
    apply hji
    simpa using (congrArg Addr.off e).symm
set_option maxRecDepth 100000 in
set_option maxHeartbeats 8000000 in
theorem rcrash_any (x : Rf) (A2 : Option Addr) (cs : List Ch) (cc : Nat) (w : World) (hx : x.ok w) (hfew : x.d.fs.length < 900000) (hcs : ChRow w A2 cs) (hok : ∀ z ∈ cs, z.ok) (hcl : cs.length ≤ 1000000) (hfb : ∀ y ∈ x.d.fs, AreBytes y.2.l ∧ y.2.l.length ≤ 67108864 ∧ y.2.s ≤ y.2.l.length) :
    Calls Try.prog 32 #[x.v, .slice A2 cs.length cc] w fun e w' => ∃ r : Rf, e = .returned r.v ∧ r.ok w' ∧ r.d = crashS cs x.d ∧ Below w.heap.size w w' ∧ (∀ a, r.A = some a → w.heap.size ≤ a.block) := by
  have HX := Lib.hid hx
  have HCS := Lib.hid hcs
  have HOK := Lib.hid hok
  have HFB := Lib.hid hfb
  obtain ⟨A, c, d⟩ := x
  obtain ⟨⟨steps, left, down⟩, cap, fs⟩ := d
  simp only at hfew HFB
  have HFEW := Lib.hid hfew
  unfold Rf.v
  simp only
  clear hx hcs hok hfb hfew
  go_enter Try.func32, Try.ntmps32
  go_wp2_with (fail)
  go_loopw [5, 6] (fun v i wr => ∃ k : Nat, k ≤ fs.length ∧ i = .int .i64 k ∧ Hid (WoAt w wr ⟨A, c, ⟨⟨steps, left, down⟩, cap, fs⟩⟩ v ((crashAll cs fs).take k))) (fun _ i _ => fs.length - (intOf i).toNat)
  case atStart =>
    refine ⟨0, Nat.zero_le _, rfl, ?_⟩
    show WoAt _ _ _ _ _
    refine ⟨(blk_new w _ _).stays (heap_alloc_old _ _ (by simp)), ⟨[.slice none 0 0, .int .i64 0, .int .i64 0, .int .i64 0, .bool false], rfl, ?_⟩, FOwn.nil _ _, ((Below.refl _ _).alloc (Nat.le_refl _) _).alloc (by simp) _, by simp⟩
    exact blk_new_at (w.alloc (.cells #[.slice A fs.length c, .int .i64 (cap : Nat), .int .i64 (left : Nat), .int .i64 (steps : Nat), .bool down] 32)) _ (by simp) [.slice none 0 0, .int .i64 0, .int .i64 0, .int .i64 0, .bool false] 32
  case round =>
    obtain ⟨k, hk, rfl, hW⟩ := hrel
    have c0 : wr.cell? ⟨w.heap.size, 0, none⟩ = some (.slice A fs.length c) := hW.out.self.cell 0
    have hwz := hW.out.big
    by_cases hlt : k < fs.length
    · obtain ⟨rb, off, ra, hcell⟩ := (HX.out.row.below hW.out.bel) (by simp only; omega)
      simp only at ra hcell
      subst ra
      obtain ⟨q0, q1, q2⟩ := hcell k hlt
      have hrbl : rb < wr.heap.size := World.block_lt_of_cell? wr _ q0
      obtain ⟨hby, hfl, hsl⟩ := HFB.out fs[k] (List.getElem_mem hlt)
      have hct := crashAll_take (cs := cs) hlt
      obtain ⟨nm, hnm⟩ : ∃ z, z = fs[k].1 := ⟨_, rfl⟩
      obtain ⟨f, hf⟩ : ∃ z, z = fs[k].2 := ⟨_, rfl⟩
      rw [← hnm] at q0 hct
      rw [← hf] at q1 q2 hby hfl hsl hct
      obtain ⟨ch, hch⟩ : ∃ z, z = chAt cs k := ⟨_, rfl⟩
      rw [← hch] at hct
      have hco : ch.ok := by
        rw [hch]
        by_cases h : k < cs.length
        · rw [chAt_lt h]; exact HOK.out _ (List.getElem_mem h)
        · rw [chAt_ge h]; exact ⟨by decide, by decide, by decide⟩
      have HCT := Lib.hid hct
      have HCO := Lib.hid hco
      have HBY := Lib.hid hby
      have HCH := Lib.hid hch
      have hki : (k : Int) < (fs.length : Int) := by omega
      have hkb : (k : Int) < 900000 := by have := HFEW.out; omega
      obtain ⟨kk, ka, kf⟩ := ch
      clear hcell hnm hf hct hco hby hch
      by_cases hck : k < cs.length
      have tck : decide (k < cs.length) = true := by simpa using hck
      obtain ⟨cb, co, ca', hcc⟩ := (HCS.out.below hW.out.bel) (by omega)
      subst ca'
      obtain ⟨w0, w1, w2⟩ := hcc k hck
      have hcbl : cb < wr.heap.size := World.block_lt_of_cell? wr _ w0
      have he := HCH.out
      rw [chAt_lt hck] at he
      rw [← he] at w0 w1 w2
      simp only at w0 w1 w2
      clear hcc he
      go_upto_region 9 with (fail)
      have hBB : Below wr.heap.size wr ((wr.alloc (.cells #[.string ⟨nm.toArray⟩, .string (strOf f.l), .int .i64 (f.s : Nat)] 48)).alloc (.cells #[.int .u64 (kk : Nat), .int .u64 (ka : Nat), .int .u8 (kf : Nat)] 76)) := ((Below.refl _ _).alloc (Nat.le_refl _) _).alloc (by simp) _
      have bF : Blk ((wr.alloc (.cells #[.string ⟨nm.toArray⟩, .string (strOf f.l), .int .i64 (f.s : Nat)] 48)).alloc (.cells #[.int .u64 (kk : Nat), .int .u64 (ka : Nat), .int .u8 (kf : Nat)] 76)) wr.heap.size [.string ⟨nm.toArray⟩, .string (strOf f.l), .int .i64 (f.s : Nat)] := (blk_new wr _ _).stays (heap_alloc_old _ _ (by simp))
      have bC : Blk ((wr.alloc (.cells #[.string ⟨nm.toArray⟩, .string (strOf f.l), .int .i64 (f.s : Nat)] 48)).alloc (.cells #[.int .u64 (kk : Nat), .int .u64 (ka : Nat), .int .u8 (kf : Nat)] 76)) (wr.heap.size + 1) [.int .u64 (kk : Nat), .int .u64 (ka : Nat), .int .u8 (kf : Nat)] := blk_new_at (wr.alloc _) _ (by simp) _ _
      have hzB : ((wr.alloc (.cells #[.string ⟨nm.toArray⟩, .string (strOf f.l), .int .i64 (f.s : Nat)] 48)).alloc (.cells #[.int .u64 (kk : Nat), .int .u64 (ka : Nat), .int .u8 (kf : Nat)] 76)).heap.size = wr.heap.size + 2 := by simp
      generalize ((wr.alloc (.cells #[.string ⟨nm.toArray⟩, .string (strOf f.l), .int .i64 (f.s : Nat)] 48)).alloc (.cells #[.int .u64 (kk : Nat), .int .u64 (ka : Nat), .int .u8 (kf : Nat)] 76)) = wB at *
      clear w0 w1 w2 hcbl
      have HCK : Hid True := trivial
      rotate_left 1
      have tck : decide (k < cs.length) = false := by simpa using hck
      have he := HCH.out
      rw [chAt_ge hck] at he
      obtain ⟨e1, e2, e3⟩ : kk = 0 ∧ ka = 0 ∧ kf = 0 := by simpa using he
      have hZ : [Value.int .u64 (kk : Nat), .int .u64 (ka : Nat), .int .u8 (kf : Nat)] = [Value.int .u64 0, .int .u64 0, .int .u8 0] := by rw [e1, e2, e3]; rfl
      have HZZ := Lib.hid hZ
      clear he e1 e2 e3 hZ
      go_upto_region 9 with (fail)
      have hBB : Below wr.heap.size wr ((wr.alloc (.cells #[.string ⟨nm.toArray⟩, .string (strOf f.l), .int .i64 (f.s : Nat)] 48)).alloc (.cells #[.int .u64 0, .int .u64 0, .int .u8 0] 76)) := ((Below.refl _ _).alloc (Nat.le_refl _) _).alloc (by simp) _
      have bF : Blk ((wr.alloc (.cells #[.string ⟨nm.toArray⟩, .string (strOf f.l), .int .i64 (f.s : Nat)] 48)).alloc (.cells #[.int .u64 0, .int .u64 0, .int .u8 0] 76)) wr.heap.size [.string ⟨nm.toArray⟩, .string (strOf f.l), .int .i64 (f.s : Nat)] := (blk_new wr _ _).stays (heap_alloc_old _ _ (by simp))
      have bC : Blk ((wr.alloc (.cells #[.string ⟨nm.toArray⟩, .string (strOf f.l), .int .i64 (f.s : Nat)] 48)).alloc (.cells #[.int .u64 0, .int .u64 0, .int .u8 0] 76)) (wr.heap.size + 1) [.int .u64 (kk : Nat), .int .u64 (ka : Nat), .int .u8 (kf : Nat)] := by rw [HZZ.out]; exact blk_new_at (wr.alloc _) _ (by simp) _ _
      have hzB : ((wr.alloc (.cells #[.string ⟨nm.toArray⟩, .string (strOf f.l), .int .i64 (f.s : Nat)] 48)).alloc (.cells #[.int .u64 0, .int .u64 0, .int .u8 0] 76)).heap.size = wr.heap.size + 2 := by simp
      generalize ((wr.alloc (.cells #[.string ⟨nm.toArray⟩, .string (strOf f.l), .int .i64 (f.s : Nat)] 48)).alloc (.cells #[.int .u64 0, .int .u64 0, .int .u8 0] 76)) = wB at *
      clear HZZ
      have HCK : Hid True := trivial
      all_goals
        clear q0 q1 q2 hrbl tck
        obtain ⟨l, sy⟩ := f
        simp only at hfl hsl HBY HCT bF
        obtain ⟨T, hT⟩ : ∃ T, T = l.length - sy := ⟨_, rfl⟩
        obtain ⟨q, hq⟩ : ∃ q, q = keepOf ⟨kk, ka, kf⟩ ⟨l, sy⟩ := ⟨_, rfl⟩
        have hqT : q ≤ T := by rw [hq, hT]; exact keepOf_le _ _
        have hqe : (kk : Int) % ((T : Int) + 1) = (q : Int) := by
          rw [hq]
          unfold keepOf
          rw [← hT]
          simp
        obtain ⟨t, ht⟩ : ∃ t, t = strOf l := ⟨_, rfl⟩
        have hts : t.size = l.length := by rw [ht]; exact strOf_size _
        rw [← ht] at bF
        have hsub : (t.size : Int) - (sy : Int) = (T : Int) := by omega
        have htb : t.size ≤ 67108864 := by omega
        have hqs : (sy : Int) + (q : Int) ≤ (t.size : Int) := by omega
        have hkb2 : (kk : Int) ≤ 18446744073709551615 := by have := HCO.out.k; simp only at this; omega
        have hkab : (ka : Int) ≤ 18446744073709551615 := by have := HCO.out.a; simp only at this; omega
        have hTb : (T : Int) ≤ 67108864 := by omega
        have hsb : (sy : Int) ≤ 67108864 := by omega
        have F0 : wB.cell? ⟨wr.heap.size, 0, none⟩ = some (.string ⟨nm.toArray⟩) := bF.cell 0
        have F1 : wB.cell? ⟨wr.heap.size, 1, none⟩ = some (.string t) := bF.cell 1
        have F2 : wB.cell? ⟨wr.heap.size, 2, none⟩ = some (.int .i64 (sy : Nat)) := bF.cell 2
        have C0 : wB.cell? ⟨wr.heap.size + 1, 0, none⟩ = some (.int .u64 (kk : Nat)) := bC.cell 0
        have HQ := Lib.hid hq
        have HTT := Lib.hid hT
        have HTS := Lib.hid hts
        have HT := Lib.hid ht
        have HQT := Lib.hid hqT
        have HBB := Lib.hid hBB
        have HSL := Lib.hid hsl
        have HFL := Lib.hid hfl
        clear hq hT hqT hts hsl hfl ht c0 hBB
        obtain ⟨n, hn⟩ : ∃ n, n = sy + q := ⟨_, rfl⟩
        have HN := Lib.hid hn
        have hse : (t.extract 0 (sy + q)).size = n := by
          rw [← natsOf_length, natsOf_extract, List.drop_zero, List.length_take, natsOf_length]
          omega
        obtain ⟨c2, w2, hrun, hb2, hbs, hfz, hg2⟩ := bytes_new wB (wr.heap.size + 2) hzB.symm (t.extract 0 (sy + q))
        rw [hse] at hrun hfz
        have hL : natsOf (t.extract 0 (sy + q)) = l.take n := by rw [natsOf_extract, List.drop_zero, HT.out, natsOf_strOf HBY.out, hn]
        rw [hL] at hbs
        have hLl : (l.take n).length = n := by rw [List.length_take]; have := HTS.out; omega
        have b2F := bF.stays (hb2.block _ (by omega))
        have b2C := bC.stays (hb2.block _ (by omega))
        have HB2 := Lib.hid (HBB.out.trans (hb2.mono HBB.out.size))
        have F20 : w2.cell? ⟨wr.heap.size, 0, none⟩ = some (.string ⟨nm.toArray⟩) := b2F.cell 0
        have F22 : w2.cell? ⟨wr.heap.size, 2, none⟩ = some (.int .i64 (sy : Nat)) := b2F.cell 2
        have C21 : w2.cell? ⟨wr.heap.size + 1, 1, none⟩ = some (.int .u64 (ka : Nat)) := b2C.cell 1
        have C22 : w2.cell? ⟨wr.heap.size + 1, 2, none⟩ = some (.int .u8 (kf : Nat)) := b2C.cell 2
        have HSE := Lib.hid hse
        have HBS := Lib.hid hbs
        have HLL := Lib.hid hLl
        have HFZ := Lib.hid hfz
        have hz2 : wr.heap.size + 2 < w2.heap.size := hg2
        clear hn hse hL hbs hLl hfz hb2 b2F b2C hg2 bF bC
        go_upto_region 11 with (fail)
        by_cases hq0 : q = 0
        · have t1 : decide (0 < q) = false := by simp; omega
          have hcs := conv_str (w2) (some ⟨wr.heap.size + 2, 0, none⟩) (l.take n) c2 (HBS.out)
          rw [HLL.out] at hcs
          have hWX : Below wr.heap.size wr (w2) := HB2.out
          have hWF : Below wr.heap.size wr ((w2).alloc (.cells #[.string ⟨nm.toArray⟩, .string (strOf (l.take n)), .int .i64 (n : Nat)] 48)) := hWX.alloc hWX.size _
          obtain ⟨v', w5, run5, own5, hg5, -⟩ := app_file ((w2).alloc (.cells #[.string ⟨nm.toArray⟩, .string (strOf (l.take n)), .int .i64 (n : Nat)] 48)) (w.heap.size + 2) u5 _ (hW.out.own.below hWF) (w2).heap.size 1 (nm, ⟨l.take n, n⟩) (cell_of_row _ _ 0 _ _ _ (heap_alloc_new _ _)) (cell_of_row _ _ 1 _ _ _ (heap_alloc_new _ _)) (cell_of_row _ _ 2 _ _ _ (heap_alloc_new _ _)) (by rw [List.length_take]; have := HFEW.out; omega) (by have := hWF.size; omega)
          have hcf : crashF ⟨kk, ka, kf⟩ ⟨l, sy⟩ = ⟨l.take n, n⟩ := by unfold crashF; rw [← HQ.out, if_pos hq0, HN.out, hq0]; rfl
          have HW5 : Hid (WoAt w w5 ⟨some ⟨rb, off, none⟩, c, ⟨⟨steps, left, down⟩, cap, fs⟩⟩ v' ((crashAll cs fs).take (k + 1))) := by
            show WoAt _ _ _ _ _
            rw [HCT.out, hcf]
            exact hW.out.grow hWF hg5 own5
          have g0 : (w2).cell? ⟨wr.heap.size, 0, none⟩ = some (.string ⟨nm.toArray⟩) := F20
          have hki2 : (k : Int) + 1 ≤ 900000 := by omega
          clear hWX hWF own5 hg5 hcf
          clear hq0
          go_wp2_with (at_builtin; refine wpList_append_run rfl _ _ 30 30 30 rfl rfl _ _ _ _ rfl rfl run5 ?_)
          go_roundw
          case rel => exact ⟨k + 1, by omega, by go_num, HW5.out⟩
          case measure => simp [intOf]; omega
        · have t1 : decide (0 < q) = true := by simp; omega
          have hqI : (q : Int) ≤ 67108864 := by omega
          have hkf := HCO.out.f
          simp only at hkf
          obtain ⟨j, hj⟩ : ∃ j, j = ka % q := ⟨_, rfl⟩
          have hjq : j < q := by rw [hj]; exact Nat.mod_lt _ (by omega)
          have hje : (ka : Int) % (q : Int) = (j : Int) := by rw [hj]; simp
          have hje2 : (ka : Int).tmod (q : Int) = (j : Int) := by rw [Int.tmod_eq_emod_of_nonneg (by omega)]; exact hje
          have hjl : sy + j < (l.take n).length := by rw [HLL.out]; have := HN.out; omega
          obtain ⟨gb, go, eg, hcb⟩ := HBS.out (by omega)
          obtain ⟨rfl, rfl⟩ : wr.heap.size + 2 = gb ∧ 0 = go := by
            have := Option.some.inj eg
            simp only [Addr.mk.injEq] at this
            exact ⟨this.1, this.2.1⟩
          have cj := hcb (sy + j) hjl
          rw [Nat.zero_add] at cj
          have frj := HFZ.out (sy + j) (by have := HN.out; omega)
          have hz := (HBY.out.take n).at_ hjl
          have hjl2 : sy + j < l.length := by have h := hjl; rw [List.length_take] at h; omega
          obtain ⟨z, hzz⟩ : ∃ z, z = l.getD (sy + j) 0 := ⟨_, rfl⟩
          have hzg : (l.take n)[sy + j] = z := by rw [hzz, List.getElem_take, List.getD_eq_getElem?_getD, List.getElem?_eq_getElem hjl2]; rfl
          rw [hzg] at cj hz
          unfold e8 at cj
          have hx := u8_xor_nat z kf hz hkf
          have hjI : (j : Int) < (q : Int) := by omega
          have hjn : (sy : Int) + (j : Int) < (n : Int) := by have := HN.out; omega
          have HJ := Lib.hid hj
          have HZZ2 := Lib.hid hzz
          have HX2 := Lib.hid hx
          have HCF : Hid (crashF ⟨kk, ka, kf⟩ ⟨l, sy⟩ = ⟨(l.take n).set (sy + j) (z ^^^ kf), n⟩) := by
            show _ = _
            unfold crashF
            rw [← HQ.out, if_neg hq0, ← HJ.out, ← HZZ2.out, HN.out]
          have hrs := row_set (w := w2) (g := wr.heap.size + 2) HBS.out hjl (z ^^^ kf)
          have HRS := Lib.hid hrs
          have HLS : Hid (((l.take n).set (sy + j) (z ^^^ kf)).length = n) := by show _ = _; rw [List.length_set]; exact HLL.out
          clear hj hjl hjl2 hcb eg hzz hzg hrs hkf hz hq0 hx
          go_wp2_with (fail)
          go_region
          rw [HX2.out]
          have hcs := conv_str ((w2.setCell ⟨wr.heap.size + 2, sy + j, none⟩ (.int .u8 ((z ^^^ kf : Nat) : Int))).drew) (some ⟨wr.heap.size + 2, 0, none⟩) ((l.take n).set (sy + j) (z ^^^ kf)) c2 (Row.below HRS.out ((Below.refl _ _).drew))
          rw [HLS.out] at hcs
          have hWX : Below wr.heap.size wr ((w2.setCell ⟨wr.heap.size + 2, sy + j, none⟩ (.int .u8 ((z ^^^ kf : Nat) : Int))).drew) := (HB2.out.trans ((Turn.set (S := [wr.heap.size + 2]) (a := ⟨wr.heap.size + 2, sy + j, none⟩) (by simp) _).to_below HB2.out.size (by simp))).drew
          have hWF : Below wr.heap.size wr (((w2.setCell ⟨wr.heap.size + 2, sy + j, none⟩ (.int .u8 ((z ^^^ kf : Nat) : Int))).drew).alloc (.cells #[.string ⟨nm.toArray⟩, .string (strOf ((l.take n).set (sy + j) (z ^^^ kf))), .int .i64 (n : Nat)] 48)) := hWX.alloc hWX.size _
          obtain ⟨v', w5, run5, own5, hg5, -⟩ := app_file (((w2.setCell ⟨wr.heap.size + 2, sy + j, none⟩ (.int .u8 ((z ^^^ kf : Nat) : Int))).drew).alloc (.cells #[.string ⟨nm.toArray⟩, .string (strOf ((l.take n).set (sy + j) (z ^^^ kf))), .int .i64 (n : Nat)] 48)) (w.heap.size + 2) u5 _ (hW.out.own.below hWF) ((w2.setCell ⟨wr.heap.size + 2, sy + j, none⟩ (.int .u8 ((z ^^^ kf : Nat) : Int))).drew).heap.size 1 (nm, ⟨(l.take n).set (sy + j) (z ^^^ kf), n⟩) (cell_of_row _ _ 0 _ _ _ (heap_alloc_new _ _)) (cell_of_row _ _ 1 _ _ _ (heap_alloc_new _ _)) (cell_of_row _ _ 2 _ _ _ (heap_alloc_new _ _)) (by rw [List.length_take]; have := HFEW.out; omega) (by have := hWF.size; omega)
          have hcf : crashF ⟨kk, ka, kf⟩ ⟨l, sy⟩ = ⟨(l.take n).set (sy + j) (z ^^^ kf), n⟩ := HCF.out
          have HW5 : Hid (WoAt w w5 ⟨some ⟨rb, off, none⟩, c, ⟨⟨steps, left, down⟩, cap, fs⟩⟩ v' ((crashAll cs fs).take (k + 1))) := by
            show WoAt _ _ _ _ _
            rw [HCT.out, hcf]
            exact hW.out.grow hWF hg5 own5
          have g0 : ((w2.setCell ⟨wr.heap.size + 2, sy + j, none⟩ (.int .u8 ((z ^^^ kf : Nat) : Int))).drew).cell? ⟨wr.heap.size, 0, none⟩ = some (.string ⟨nm.toArray⟩) := by have := F20; rw [← this]; exact World.cell?_of_block (a := ⟨wr.heap.size, 0, none⟩) (heap_setCell_other _ _ _ _ (by simp))
          have hki2 : (k : Int) + 1 ≤ 900000 := by omega
          clear hWX hWF own5 hg5 hcf
          obtain ⟨LF, hLF⟩ : ∃ LF, LF = (l.take n).set (sy + j) (z ^^^ kf) := ⟨_, rfl⟩
          rw [← hLF] at hcs run5
          have hnz : n ≤ 100000000 := by have := HN.out; omega
          clear hLF cj frj hje hje2 hjq hjI hjn
          generalize (w2.setCell ⟨wr.heap.size + 2, sy + j, none⟩ (.int .u8 ((z ^^^ kf : Nat) : Int))).drew = wY at *
          go_wp2_with (at_builtin; refine wpList_append_run rfl _ _ 30 30 30 rfl rfl _ _ _ _ rfl rfl run5 ?_)
          go_roundw
          case rel => exact ⟨k + 1, by omega, by go_num, HW5.out⟩
          case measure => simp [intOf]; omega
    · have hk' : k = fs.length := by omega
      subst hk'
      have hta : (crashAll cs fs).take fs.length = crashAll cs fs := List.take_of_length_le (by rw [crashAll_length]; exact Nat.le_refl _)
      rw [hta] at hW
      obtain ⟨A', c', rfl, hc', hrow⟩ := hW.out.own.row
      have hnew : ∀ a, A' = some a → w.heap.size + 2 ≤ a.block := fun a ha => by
        subst ha
        exact (hW.out.own.block (g := a.block) rfl).1
      have c1 : wr.cell? ⟨w.heap.size, 1, none⟩ = some (.int .i64 (cap : Nat)) := hW.out.self.cell 1
      have c3 : wr.cell? ⟨w.heap.size, 3, none⟩ = some (.int .i64 (steps : Nat)) := hW.out.self.cell 3
      obtain ⟨css, hcss, hres⟩ := hW.out.res
      match css, hcss with
      | [a0, a1, a2, a3, a4], _ =>
      have r0 : wr.cell? ⟨w.heap.size + 1, 0, none⟩ = some a0 := hres.cell 0
      have r1 : wr.cell? ⟨w.heap.size + 1, 1, none⟩ = some a1 := hres.cell 1
      have r2 : wr.cell? ⟨w.heap.size + 1, 2, none⟩ = some a2 := hres.cell 2
      have r3 : wr.cell? ⟨w.heap.size + 1, 3, none⟩ = some a3 := hres.cell 3
      have r4 : wr.cell? ⟨w.heap.size + 1, 4, none⟩ = some a4 := hres.cell 4
      have g0 : wr.frozen? ⟨w.heap.size + 1, 0, none⟩ = false := hres.free 0
      have g1 : wr.frozen? ⟨w.heap.size + 1, 1, none⟩ = false := hres.free 1
      have g2 : wr.frozen? ⟨w.heap.size + 1, 2, none⟩ = false := hres.free 2
      have g3 : wr.frozen? ⟨w.heap.size + 1, 3, none⟩ = false := hres.free 3
      have g4 : wr.frozen? ⟨w.heap.size + 1, 4, none⟩ = false := hres.free 4
      obtain ⟨fs4, hfs4⟩ : ∃ z, z = crashAll cs fs := ⟨_, rfl⟩
      rw [← hfs4] at hc' hrow ⊢
      have hll := laid5 hW.out.bel (by omega) rfl hres (.slice A' fs4.length c') (.int .i64 (cap : Nat)) (.int .i64 0) (.int .i64 (steps : Nat)) (.bool false)
      have HT := Lib.hid hll.1
      have HBZ := Lib.hid hll.2.1
      have HFAR := Lib.hid hll.2.2
      have HROW := Lib.hid hrow
      have HNEW := Lib.hid hnew
      have HCC := Lib.hid hc'
      have HFS4 := Lib.hid hfs4
      have HL4 : Hid (fs4.length ≤ 1000000) := by show _ ≤ _; rw [hfs4, crashAll_length]; have := HFEW.out; omega
      clear hll hrow hnew hc' hres hfs4 hta hlt hk
      go_wp2_with (fail)
      obtain ⟨T, hT⟩ := HT.out
      refine bodyPost_ret_by (results_cell_row rfl _ _ (w.heap.size + 1) T _ _ _ (by kernel_rfl) hT Try.underlying32 rfl (by kernel_rfl)) rfl ?_
      refine ⟨⟨A', c', ⟨⟨steps, 0, false⟩, cap, fs4⟩⟩, rfl, ⟨HROW.out.stays fun hn a ha => HFAR.out _ (by have := HNEW.out a ha; omega), HCC.out, HL4.out⟩, ?_, HBZ.out, fun a ha => by have := HNEW.out a ha; omega⟩
      rw [HFS4.out]
      rfl
end Go.Proofs.Ytpnhgongjfknbaa
