/-
  The walk of the law DiskKeeps.
-/
import Derived.Test.YtjobmfgmklmdbaaDiskPlaysW
import Derived.Test.YtjobmfgmklmdbaaDkOpen
namespace Go.Proofs.Ytjobmfgmklmdbaa
open Go.RowKit omap

theorem crash_names (cs : List Ch) (fs : Fs) : (crashAll cs fs).map (·.1) = fs.map (·.1) := by
  refine List.ext_getElem (by simp [crashAll]) fun i h1 h2 => ?_
  simp [crashAll]
/-- what a crash leaves of a file -/
theorem keeps_of {c : Ch} {f : Fl} (hs : f.s ≤ f.l.length) : (crashF c f).l.length = (crashF c f).s ∧ f.s ≤ (crashF c f).s ∧ (crashF c f).s ≤ f.l.length ∧ (crashF c f).l.take f.s = f.l.take f.s ∧ ∃ J, ∀ i (h1 : i < (crashF c f).l.length) (h2 : i < f.l.length), i ≠ J → (crashF c f).l[i] = f.l[i] := by
  have hl := crashF_length (c := c) hs
  have hq := keepOf_le c f
  refine ⟨hl, Nat.le_add_right _ _, ?_, ?_, f.s + c.a % keepOf c f, fun i h1 h2 hne => ?_⟩
  · show f.s + keepOf c f ≤ f.l.length
    omega
  · unfold crashF
    simp only
    split
    · rw [List.take_take, Nat.min_self]
    · rw [List.take_set_of_le (by omega), List.take_take, Nat.min_eq_left (by omega)]
  · unfold crashF
    simp only
    split
    · rw [List.getElem_take]
    · rw [List.getElem_set_ne (Ne.symm hne), List.getElem_take]
set_option maxRecDepth 100000 in
set_option maxHeartbeats 1000000 in
theorem keeps_off (A : Option Addr) (l : List Cm) (c : Nat) (A2 : Option Addr) (cs : List Ch) (c2 : Nat) (w : World) (hr : CmRow w A l) (hlen : l.length ≤ 9223372036854775807) (hs : smallB l = false ∨ 60 < cs.length) (hcs : cs.length ≤ 9223372036854775807) :
    Calls Try.prog 6 #[.slice A l.length c, .slice A2 cs.length c2] w fun e w' => e = .returned (.bool true) ∧ Below w.heap.size w w' := by
  have HS := Lib.hid (small_any A l c w hr hlen)
  clear hr hlen
  cases hb : smallB l with
  | false =>
    rw [hb] at HS
    clear hs hb
    go_enter Try.func6, Try.ntmps6
    go_wp2_with (fail)
    refine HS.out.mono ?_
    rintro r w1 ⟨rfl, hb1⟩
    have HB1 := Lib.hid hb1
    clear hb1 HS
    go_wp2_with (fail)
    refine (awake_any w1).mono ?_
    rintro r w2 ⟨rfl, hb2⟩
    have HB2 := Lib.hid (HB1.out.trans (hb2.mono HB1.out.size))
    clear hb2 HB1
    go_wp2_with (fail)
    go_ret
    exact ⟨rfl, HB2.out⟩
  | true =>
    have hf : 60 < cs.length := hs.resolve_left (by rw [hb]; simp)
    rw [hb] at HS
    have tc : decide (60 < cs.length) = true := by simpa using hf
    have tc2 : decide ((60 : Int) < (cs.length : Int)) = true := by simp; omega
    clear hs hb hf
    go_enter Try.func6, Try.ntmps6
    go_wp2_with (fail)
    refine HS.out.mono ?_
    rintro r w1 ⟨rfl, hb1⟩
    have HB1 := Lib.hid hb1
    clear hb1 HS
    go_wp2_with (fail)
    refine (awake_any w1).mono ?_
    rintro r w2 ⟨rfl, hb2⟩
    have HB2 := Lib.hid (HB1.out.trans (hb2.mono HB1.out.size))
    clear hb2 HB1
    go_wp2_with (fail)
    go_ret
    exact ⟨rfl, HB2.out⟩
set_option maxRecDepth 100000 in
set_option maxHeartbeats 16000000 in
theorem keeps_on (A : Option Addr) (l : List Cm) (c : Nat) (A2 : Option Addr) (cs : List Ch) (c2 : Nat) (w : World) (hr : CmRow w A l) (hx : ∀ x ∈ l, x.ok w) (hcr : ChRow w A2 cs) (hco : ∀ z ∈ cs, z.ok) (hs : smallB l = true) (hcl : cs.length ≤ 60) :
    Calls Try.prog 6 #[.slice A l.length c, .slice A2 cs.length c2] w fun e w' => e = .returned (.bool true) ∧ Below w.heap.size w w' := by
  obtain ⟨hll, hall⟩ := small_of hs
  have HS := Lib.hid (small_any A l c w hr (by omega))
  rw [hs] at HS
  have tc : decide (60 < cs.length) = false := by simp; omega
  have tc2 : decide ((60 : Int) < (cs.length : Int)) = false := by simp; omega
  have HN := Lib.hid (fun w1 => new_any (2000 : Int) w1)
  have HOS := Lib.hid (ofS_new (cap := (2000 : Int)) (by omega))
  have HROW := Lib.hid hr
  have HX := Lib.hid hx
  have HALL := Lib.hid hall
  have HCR := Lib.hid hcr
  have HCO := Lib.hid hco
  have HCL := Lib.hid hcl
  clear hr hx hs hall hcr hco hcl
  go_enter Try.func6, Try.ntmps6
  go_wp2_with (fail)
  refine HS.out.mono ?_
  rintro r w1 ⟨rfl, hb1⟩
  have HB1 := Lib.hid hb1
  clear hb1 HS
  go_wp2_with (fail)
  refine (HN.out w1).mono ?_
  rintro r w2 ⟨hb2, hm⟩
  rw [HOS.out, if_pos rfl] at hm
  obtain ⟨b, S, rfl, h1, h2⟩ := hm
  have h1' : DiskAt w2 b S ⟨⟨0, 0, false⟩, 2000, []⟩ := h1
  have HR0 := Lib.hid (run_new h1' (HB1.out.trans (hb2.mono HB1.out.size)) (fun g hg => Nat.le_trans HB1.out.size (h2 g hg)) 34)
  clear hb2 h1 h1' h2 HB1 HN tc tc2
  go_wp2_with (fail)
  go_loopw [45] (fun i wr => ∃ (k : Nat) (S : List Nat) (x : Rf), k ≤ l.length ∧ i = .int .i64 k ∧ Hid (Run w wr w2.heap.size b S x) ∧ Hid (FineK k x.d)) (fun i _ => l.length - (intOf i).toNat)
  case atStart => exact ⟨0, S, _, Nat.zero_le _, rfl, HR0.out, ⟨Nat.le_refl _, by simp, Nat.le_refl _, by simp, fun y hy => by cases hy⟩⟩
  case round =>
    obtain ⟨k, S, x, hk, rfl, HH, HF⟩ := hrel
    have hkb : (k : Int) ≤ 60 := by omega
    by_cases hlt : k < l.length
    · obtain ⟨rb, off, ra, hcell⟩ := (HROW.out.below HH.out.below) (by omega)
      subst ra
      obtain ⟨q0, q1, q2, q3, q4, q5, q6⟩ := hcell k hlt
      have hok := HX.out l[k] (List.getElem_mem hlt)
      have hsm := HALL.out l[k] (List.getElem_mem hlt)
      obtain ⟨o, ho⟩ : ∃ o, o = l[k] := ⟨_, rfl⟩
      rw [← ho] at q0 q1 q2 q3 q4 q5 q6 hok hsm
      have hbl : rb < wr.heap.size := World.block_lt_of_cell? wr _ q0
      have HRA := Lib.hid (HH.out.later ((Below.refl wr.heap.size wr).alloc (Nat.le_refl _) (.cells o.cells.toArray 38)))
      have HD := Lib.hid (do_any _ _ b S x o HRA.out.play (HF.out.fine (by omega)) (HRA.out.told hok hsm))
      have HNF := Lib.hid (next_fine (o := o) HF.out hsm hok.n.2)
      unfold Cm.cells at HD HRA
      obtain ⟨kind, name, nto, data, more, no, cA, cs, cc⟩ := o
      unfold Part.v at q3 q4 HD HRA
      simp only at q0 q1 q2 q3 q4 q5 q6 HD HRA
      have hki : (k : Int) < (l.length : Int) := by omega
      clear hcell ho hok hsm HH HF
      go_wp2_with (fail)
      refine HD.out.mono ?_
      rintro r w3 ⟨rfl, S', x', hp, ht, hxd⟩
      have HR3 := Lib.hid (HRA.out.next hp ht)
      rw [← hxd] at HNF
      clear hp ht hxd HD HRA
      go_wp2_with (fail)
      go_roundw
      case rel => exact ⟨k + 1, S', x', by omega, by go_num, HR3.out, HNF.out⟩
      case measure => simp [intOf]; omega
    · have hk' : k = l.length := by omega
      subst hk'
      have HNM := Lib.hid HF.out.names
      have HFL := Lib.hid HF.out.few
      have hap : Apart S A2 cs.length := fun hn x hx hm => by
        obtain ⟨b, off, e, hc⟩ := HCR.out hn
        rw [hx] at e
        obtain rfl := Option.some.inj e
        have h1 := World.block_lt_of_cell? w _ (hc 0 hn).1
        have h2 := HH.out.base _ (List.mem_cons_of_mem _ hm)
        simp only at h1 h2
        omega
      have HCC := Lib.hid (crash_cmd b S x.d A2 cs c2 wr HH.out.play.disk (HCR.out.below HH.out.below) hap HCO.out (by have := HCL.out; omega))
      have p1 : wr.cell? ⟨w2.heap.size, 1, none⟩ = some (.slice x.A x.d.fs.length x.c) := HH.out.play.blk.cell 1
      have p0 : wr.cell? ⟨w2.heap.size, 0, none⟩ = some (.pointer (some ⟨b, 0, none⟩)) := HH.out.play.blk.cell 0
      clear hlt hk HF hap
      go_wp2_with (fail)
      refine HCC.out.mono ?_
      rintro r w3 ⟨rfl, S3, hd3, ht3⟩
      have hrow3 : RfRow w3 x.A x.d.fs := HH.out.play.ok.row.stays fun hn a ha => (ht3.far _ (HH.out.play.ok.row.inside hn ha) (HH.out.play.row hn a ha).1).2
      have HB3 : Hid (Below w.heap.size w w3) := HH.out.below.trans (ht3.to_below HH.out.below.size (fun g hg => HH.out.base g (List.mem_cons_of_mem _ hg)))
      have HFI := Lib.hid HH.out.play.files
      have hfew := HH.out.play.ok.few
      have HROW3 := Lib.hid hrow3
      have HD3 := Lib.hid hd3
      clear hd3 ht3 hrow3 HCC p0 p1
      go_wp2_with (fail)
      refine (list_cmd HD3.out rfl).mono ?_
      rintro r w4 ⟨la, lc, rfl, hlc, hlm, hlr, hln, hb4⟩
      have hcln : (crashS cs x.d).fs.length = x.d.fs.length := crashAll_length _ _
      rw [hcln] at hlc ⊢
      have hnames : (crashS cs x.d).fs.map (·.1) = x.d.fs.map (·.1) := crash_names cs x.d.fs
      rw [hnames] at hlr
      have HD4 := Lib.hid (HD3.out.below hb4)
      have HROW4 := Lib.hid (HROW3.out.below hb4)
      have HB4 := Lib.hid (HB3.out.trans (hb4.mono HB3.out.size))
      have HLR := Lib.hid hlr
      have tne : ((x.d.fs.length : Int) != (x.d.fs.length : Int)) = false := by simp
      clear hlc hlm hlr hln hb4 hcln hnames HD3 HROW3 HB3
      go_wp2_with (fail)
      refine (down_cmd HD4.out).mono ?_
      rintro r w5 ⟨rfl, rfl⟩
      have hdn : (crashS cs x.d).p.down = false := rfl
      rw [hdn]
      go_wp2_with (fail)
      have hri := HD4.out.rises
      have HRI := Lib.hid hri
      clear hri tne hdn
      go_loopw [77] (fun i wz => ∃ k : Nat, k ≤ x.d.fs.length ∧ i = .int .i64 k ∧ Hid (Below w4.heap.size w4 wz)) (fun i _ => x.d.fs.length - (intOf i).toNat)
      case atStart => exact ⟨0, Nat.zero_le _, rfl, Below.refl _ _⟩
      case round =>
        obtain ⟨k, hk, rfl, HB⟩ := hrel
        by_cases hlt : k < x.d.fs.length
        · obtain ⟨rb, off, ra, hcell⟩ := (HROW4.out.below HB.out) (by omega)
          obtain ⟨q0, q1, q2⟩ := hcell k hlt
          have hrb := World.block_lt_of_cell? _ _ q0
          obtain ⟨lb, lo, rla, hlc⟩ := HLR.out (by simp only [List.length_map]; omega)
          subst rla
          have l0 := hlc k (by simpa using hlt)
          have hlb : lb < w4.heap.size := World.block_lt_of_cell? w4 _ l0
          rw [List.getElem_map] at l0
          obtain ⟨hby, hfl, hsl⟩ := HFI.out x.d.fs[k] (List.getElem_mem hlt)
          have hkp := keeps_of (c := chAt cs k) (f := x.d.fs[k].2) hsl
          have hck : k < (crashAll cs x.d.fs).length := by rw [crashAll_length]; exact hlt
          have hlook := look_at (l := (crashS cs x.d).fs) HRI.out hck
          have hce : (crashS cs x.d).fs[k]'hck = (x.d.fs[k].1, crashF (chAt cs k) x.d.fs[k].2) := by simp [crashS, crashAll]
          rw [hce] at hlook
          have hnl := HNM.out x.d.fs[k] (List.getElem_mem hlt)
          obtain ⟨nm, hnm⟩ : ∃ nm, nm = x.d.fs[k].1 := ⟨_, rfl⟩
          obtain ⟨f, hf⟩ : ∃ f, f = x.d.fs[k].2 := ⟨_, rfl⟩
          rw [← hnm] at q0 l0 hlook hnl
          rw [← hf] at q1 q2 hlook hby hfl hsl hkp
          obtain ⟨g, hg⟩ : ∃ g, g = crashF (chAt cs k) f := ⟨_, rfl⟩
          rw [← hg] at hlook hkp
          have HLK : Hid (omap.look (crashS cs x.d).fs (⟨nm.toArray⟩ : ByteArray).data.toList = some g) := by show _ = _; simpa using hlook
          have HNL : Hid ((⟨nm.toArray⟩ : ByteArray).size ≤ 1000) := by show _ ≤ _; simpa [ByteArray.size] using hnl
          have HL0 : Hid (w4.cell? ⟨lb, lo + k, none⟩ = some (.string ⟨nm.toArray⟩)) := l0
          have hki : (k : Int) < (x.d.fs.length : Int) := by omega
          have hkb : (k : Int) ≤ 1000000 := by omega
          have HKP := Lib.hid hkp
          have HBY := Lib.hid hby
          have HFLN := Lib.hid hfl
          clear hcell hlc hce hck hlook hnl hnm hf hg l0 hkp hby hfl hsl
          rw [ra]
          go_wp2_with (fail)
          have hB1 : Below wr.heap.size wr (wr.alloc (.cells #[.string ⟨nm.toArray⟩, .string (strOf f.l), .int .i64 (f.s : Nat)] 48)) := (Below.refl _ _).alloc (Nat.le_refl _) _
          have HBB1 := Lib.hid (HB.out.trans (hB1.mono HB.out.size))
          have HP1 := Lib.hid (HD4.out.below HBB1.out)
          refine (read_some HP1.out rfl ⟨nm.toArray⟩ HNL.out g HLK.out).mono ?_
          rintro r w5 ⟨v, rfl, own, hfb, hb5⟩
          obtain ⟨va, vc, rfl, hvp, -, -⟩ := own.part hfb
          have bF1 : Blk (wr.alloc (.cells #[.string ⟨nm.toArray⟩, .string (strOf f.l), .int .i64 (f.s : Nat)] 48)) wr.heap.size [.string ⟨nm.toArray⟩, .string (strOf f.l), .int .i64 (f.s : Nat)] := blk_new wr _ _
          have bF5 := bF1.stays (hb5.block _ bF1.inside)
          have HBB5 := Lib.hid (HBB1.out.trans (hb5.mono HBB1.out.size))
          have HP5 := Lib.hid (HP1.out.below hb5)
          have HVP := Lib.hid hvp
          have HGB := Lib.hid hfb
          have n0 : w5.cell? ⟨wr.heap.size, 0, none⟩ = some (.string ⟨nm.toArray⟩) := bF5.cell 0
          have hz5 : wr.heap.size < w5.heap.size := bF5.inside
          have HF5 := Lib.hid bF5
          clear own hfb hb5 hvp bF1 bF5 HP1 HBB1 hB1 q0 q1 q2 hrb
          go_wp2_with (fail)
          refine (size_some HP5.out rfl ⟨nm.toArray⟩ HNL.out g HLK.out).mono ?_
          rintro r w6 ⟨rfl, hb6⟩
          have HBB6 := Lib.hid (HBB5.out.trans (hb6.mono HBB5.out.size))
          have bF6 := HF5.out.stays (hb6.block _ hz5)
          have HVP6 := Lib.hid (HVP.out.below hb6)
          have HBF6 := Lib.hid bF6
          have HL06 : Hid (w6.cell? ⟨lb, lo + k, none⟩ = some (.string ⟨nm.toArray⟩)) := (HBB6.out.cell (p := ⟨lb, lo + k, none⟩) hlb).trans HL0.out
          obtain ⟨kp1, kp2, kp3, kp4, J, kp5⟩ := HKP.out
          have KP5 := Lib.hid kp5
          have KP1 := Lib.hid kp1
          obtain ⟨gl, gs⟩ := g
          obtain ⟨fl, sy⟩ := f
          simp only at kp1 kp2 kp3 kp4 KP1 KP5 HVP6 HBF6 HBY HFLN HGB
          obtain ⟨t, ht⟩ : ∃ t, t = strOf fl := ⟨_, rfl⟩
          have hts : t.size = fl.length := by rw [ht]; exact strOf_size _
          rw [← ht] at HBF6
          have n0' : w6.cell? ⟨wr.heap.size, 0, none⟩ = some (.string ⟨nm.toArray⟩) := HBF6.out.cell 0
          have n1' : w6.cell? ⟨wr.heap.size, 1, none⟩ = some (.string t) := HBF6.out.cell 1
          have n2' : w6.cell? ⟨wr.heap.size, 2, none⟩ = some (.int .i64 (sy : Nat)) := HBF6.out.cell 2
          have l0' : w6.cell? ⟨lb, lo + k, none⟩ = some (.string ⟨nm.toArray⟩) := HL06.out
          have hz6 : wr.heap.size < w6.heap.size := HBF6.out.inside
          have hgm := HVP6.out.room
          have hgx := HVP6.out.max
          simp only at hgm hgx
          unfold maxLen at hgx
          have hgt : (gl.take sy).length = sy := by rw [List.length_take]; omega
          have hcv : ∀ n, (convert 35 9 (.slice va sy vc)).run Try.prog (w6.drewN n) = .ok (.string (strOf (fl.take sy))) (w6.drewN n) := fun n => by
            have h := conv_str (w6.drewN n) va (gl.take sy) vc (Row.take (HVP6.out.below (below_drewN w6 n)).at_ sy)
            rw [hgt, kp4] at h
            exact h
          have hxt : t.extract 0 sy = strOf (fl.take sy) := by rw [strOf_take, ht, natsOf_strOf HBY.out]
          have HHX := Lib.hid hxt
          have u1 : ((⟨nm.toArray⟩ : ByteArray).toList != (⟨nm.toArray⟩ : ByteArray).toList) = false := by simp
          have u2 : decide ((gl.length : Int) < (sy : Int)) = false := by simp; omega
          have u2n : decide (gl.length < sy) = false := by simp; omega
          have u3 : decide ((t.size : Int) < (gl.length : Int)) = false := by simp; omega
          have u3n : decide (t.size < gl.length) = false := by simp; omega
          have u4 : ((strOf (fl.take sy)).toList != (t.extract 0 sy).toList) = false := by rw [hxt]; simp
          have u4b : ((strOf (fl.take sy)).toList == (t.extract 0 sy).toList) = true := by rw [hxt]; simp
          have u5 : ((gl.length : Int) != (gl.length : Int)) = false := by simp
          have u6 : ((gs : Int) != (gl.length : Int)) = false := by rw [kp1]; simp
          have i1 : (sy : Int) ≤ (gl.length : Int) := by omega
          have i2 : (sy : Int) ≤ (t.size : Int) := by omega
          have i3 : (sy : Int) ≤ (vc : Int) := by omega
          have HTS := Lib.hid hts
          have HT := Lib.hid ht
          have HKL : Hid (gl.length ≤ fl.length) := by show _ ≤ _; omega
          clear HKP HLK HNL HL0 HF5 HVP HP5 HBB5 hb6 bF6 kp1 kp2 kp3 kp4 kp5 hts ht hgt hxt n0 hz5
          go_wp2_with (fail)
          go_quiet (fail)
          have HBE := Lib.hid (HBB6.out.trans ((below_drewN w6 nq).mono HBB6.out.size))
          have HVE := Lib.hid (HVP6.out.below (below_drewN w6 nq))
          have HBFE := Lib.hid (HBF6.out.stays (w' := w6.drewN nq) rfl)
          clear hcv u1 u2 u2n u3 u3n u4 u4b u5 u6 n0' n1' n2' l0' hz6 HBB6 HVP6 HBF6 HL06
          generalize w6.drewN nq = wE at *
          have n1e : wE.cell? ⟨wr.heap.size, 1, none⟩ = some (.string t) := HBFE.out.cell 1
          have hzE : wr.heap.size < wE.heap.size := HBFE.out.inside
          clear HBFE
          generalize wr.heap.size = fb at *
          go_wp2_with (fail)
          go_loopw [18, 148] (fun m i wy => ∃ (j d : Nat), j ≤ gl.length ∧ i = .int .i64 j ∧ m = .int .i64 d ∧ (d = 0 ∨ (d = 1 ∧ J < j)) ∧ Hid (Below wE.heap.size wE wy)) (fun _ i _ => gl.length - (intOf i).toNat)
          case atStart => exact ⟨0, 0, Nat.zero_le _, rfl, rfl, .inl rfl, Below.refl _ _⟩
          case round =>
            obtain ⟨j, d, hj, rfl, rfl, hd, HBY2⟩ := hrel
            have hdI : (d : Int) ≤ 1 := by omega
            have hjI : (j : Int) ≤ 1000000000000 := by have h1 := HKL.out; have h2 := HFLN.out; omega
            by_cases hjl : j < gl.length
            · obtain ⟨gb, go, eg, hcb⟩ := (HVE.out.below HBY2.out).at_ (by simp only; omega)
              simp only at eg hcb
              subst eg
              have cj := hcb j hjl
              have hgbl := World.block_lt_of_cell? _ _ cj
              have hjf : j < fl.length := by have := HKL.out; omega
              have hjt : j < t.size := by rw [HTS.out]; exact hjf
              have hti : ((t[j]'hjt).toNat : Int) = ((fl[j]'hjf : Nat) : Int) := by
                have h := natsOf_at t hjt
                have h2 : (natsOf t)[j]'(by rw [natsOf_length]; exact hjt) = fl[j]'hjf := by
                  have : natsOf t = fl := by rw [HT.out, natsOf_strOf HBY.out]
                  simp only [this]
                rw [← h2, h]
              have hne : j ≠ J → gl[j]'hjl = fl[j]'hjf := fun h => KP5.out j hjl hjf h
              obtain ⟨z, hz⟩ : ∃ z, z = gl[j]'hjl := ⟨_, rfl⟩
              obtain ⟨y, hy⟩ : ∃ y, y = fl[j]'hjf := ⟨_, rfl⟩
              rw [← hz] at cj hne
              rw [← hy] at hti hne
              unfold e8 at cj
              have n1y : wr.cell? ⟨fb, 1, none⟩ = some (.string t) := (HBY2.out.cell (p := ⟨fb, 1, none⟩) hzE).trans n1e
              have hji : (j : Int) < (gl.length : Int) := by omega
              have hjti : (j : Int) < (t.size : Int) := by omega
              have hfbl : fb < wr.heap.size := Nat.lt_of_lt_of_le hzE HBY2.out.size
              by_cases hzy : z = y
              · have tb : ((z : Int) != (y : Int)) = false := by simp [hzy]
                have HD' : Hid (d = 0 ∨ (d = 1 ∧ J < j + 1)) := by rcases hd with h | ⟨h, h2⟩; exact .inl h; exact .inr ⟨h, by omega⟩
                clear hcb hz hy hne hzy hd
                go_wp2_with (fail)
                go_quiet (fail)
                have HBQ := Lib.hid (HBY2.out.trans ((below_drewN wr nq).mono HBY2.out.size))
                clear cj n1y
                generalize wr.drewN nq = wq at *
                go_wp2_with (fail)
                go_roundw
                case rel => exact ⟨j + 1, d, by omega, by go_num, rfl, HD'.out, HBQ.out⟩
                case measure => simp [intOf]; omega
              · have tb : ((z : Int) != (y : Int)) = true := by simp; omega
                have hjJ : j = J := by
                  by_cases h : j = J
                  · exact h
                  · exact absurd (hne h) hzy
                have hd0 : d = 0 := by
                  rcases hd with h | ⟨_, h⟩
                  · exact h
                  · omega
                subst hd0
                have HD' : Hid (J < j + 1) := by show _ < _; omega
                clear hcb hz hy hne hzy hd hjJ
                go_wp2_with (fail)
                go_quiet (fail)
                have HBQ := Lib.hid (HBY2.out.trans ((below_drewN wr nq).mono HBY2.out.size))
                clear cj n1y
                generalize wr.drewN nq = wq at *
                go_wp2_with (fail)
                go_roundw
                case rel => exact ⟨j + 1, 1, by omega, by go_num, by go_num, .inr ⟨rfl, HD'.out⟩, HBQ.out⟩
                case measure => simp [intOf]; omega
            · have hje : j = gl.length := by omega
              have td : decide (1 < d) = false := by simp; omega
              have td2 : decide ((1 : Int) < (d : Int)) = false := by simp; omega
              subst hje
              clear hjl hj hd
              go_wp2_with (fail)
              go_roundw
              case rel => exact ⟨k + 1, by omega, by go_num, HBE.out.trans (HBY2.out.mono HBE.out.size)⟩
              case measure => simp [intOf]; omega
        · have hk' : k = x.d.fs.length := by omega
          subst hk'
          clear hlt hk
          go_wp2_with (fail)
          refine (awake_any wr).mono ?_
          rintro r w7 ⟨rfl, hb7⟩
          have HB7 := Lib.hid ((HB4.out.trans (HB.out.mono HB4.out.size)).trans (hb7.mono (Nat.le_trans HB4.out.size HB.out.size)))
          clear hb7
          go_wp2_with (fail)
          go_ret
          exact ⟨rfl, HB7.out⟩
/-- the law's walk -/
theorem keeps_walk (A : Option Addr) (l : List Cm) (c : Nat) (A2 : Option Addr) (cs : List Ch) (c2 : Nat) (w : World) (hr : CmRow w A l) (hx : ∀ x ∈ l, x.ok w) (hlen : l.length ≤ 9223372036854775807) (hcr : ChRow w A2 cs) (hco : ∀ z ∈ cs, z.ok) (hcs : cs.length ≤ 9223372036854775807) :
    Calls Try.prog 6 #[.slice A l.length c, .slice A2 cs.length c2] w fun e w' => e = .returned (.bool true) ∧ Below w.heap.size w w' := by
  cases hs : smallB l with
  | false => exact keeps_off A l c A2 cs c2 w hr hlen (.inl hs) hcs
  | true =>
    by_cases h : 60 < cs.length
    · exact keeps_off A l c A2 cs c2 w hr hlen (.inr h) hcs
    · exact keeps_on A l c A2 cs c2 w hr hx hcr hco hs (by omega)
section
open Go.ChangeShapes Go.WideShapes Go.ChangeAt Go.Deep
variable {H : Type} {enc : TypeId × Value → H} {w : World} {base : Nat} {held : Bool}
/-- the list of choices -/
theorem chs_of {a : Option Addr} {n c : Nat} {d : DataW H} {p : List MemPlace} (h : DataW.Trod enc Try.prog w base (fun _ => true) held 36 (.slice a n c) d p) : ∃ l : List Ch, n = l.length ∧ ChRow w a l ∧ (∀ x ∈ l, x.ok) ∧ l.length ≤ 9223372036854775807 := by
  obtain ⟨fuel, hf⟩ := h
  obtain ⟨A, cs, cc, hx, hl, hm, hrow, hok⟩ := chs_cell (x := .slice a n c) hf
  obtain ⟨rfl, rfl, rfl⟩ := Value.slice.inj hx
  unfold maxLen at hm
  exact ⟨cs, rfl, hrow, hok, by omega⟩
end
end Go.Proofs.Ytjobmfgmklmdbaa
