/-
  The contract of a disk's Crash, whole.
-/
import Derived.Test.YtpnhgongjfknbaaDkL
import Derived.Test.YtpnhgongjfknbaaRegs
namespace Go.Proofs.Ytpnhgongjfknbaa
open Go.RowKit omap

/-- choices in memory -/
def ChRow (w : World) (A : Option Addr) (cs : List Ch) : Prop :=
  0 < cs.length → ∃ b off, A = some ⟨b, off, none⟩ ∧ ∀ j (h : j < cs.length), w.cell? ⟨b, off + j * 3, none⟩ = some (.int .u64 (cs[j].k : Nat)) ∧ w.cell? ⟨b, off + j * 3 + 1, none⟩ = some (.int .u64 (cs[j].a : Nat)) ∧ w.cell? ⟨b, off + j * 3 + 2, none⟩ = some (.int .u8 (cs[j].f : Nat))
theorem ChRow.later {w w' : World} {A : Option Addr} {cs : List Ch} {S S' : List Nat} (h : ChRow w A cs) (ha : Apart S A cs.length) (ht : Turn S S' w w') : ChRow w' A cs := fun hn => by
  obtain ⟨b, off, e, hc⟩ := h hn
  have hb := ha hn _ e
  refine ⟨b, off, e, fun j hj => ?_⟩
  obtain ⟨h0, h1, h2⟩ := hc j hj
  have hlt := World.block_lt_of_cell? w _ h0
  have hs := (ht.far b hlt hb).2
  exact ⟨(World.cell?_of_block (a := ⟨b, off + j * 3, none⟩) hs).trans h0, (World.cell?_of_block (a := ⟨b, off + j * 3 + 1, none⟩) hs).trans h1, (World.cell?_of_block (a := ⟨b, off + j * 3 + 2, none⟩) hs).trans h2⟩
theorem chAt_lt {cs : List Ch} {k : Nat} (h : k < cs.length) : chAt cs k = cs[k] := by
  unfold chAt
  rw [List.getD_eq_getElem?_getD, List.getElem?_eq_getElem h]
  rfl
theorem chAt_ge {cs : List Ch} {k : Nat} (h : ¬ k < cs.length) : chAt cs k = ⟨0, 0, 0⟩ := by
  unfold chAt
  rw [List.getD_eq_getElem?_getD, List.getElem?_eq_none (by omega)]
  rfl
theorem name_le {w : World} {b m : Nat} {p : Pw} {cap used : Nat} {es : Es} (h : Raw w b m p cap used es) {k : Nm} {e : Ent} (hk : omap.look es k = some e) : k.length ≤ maxLen := by
  have := strKeys_le h.map.own Try.underlying9 k (by
    rw [strKeys_mapOf]
    refine List.mem_map.2 ⟨(k, e.g), ?_, rfl⟩
    exact List.mem_map.2 ⟨(k, e), look_mem hk, rfl⟩)
  exact this
theorem tot_mix {cs : List Ch} {fs : Fs} (hs : ∀ x ∈ fs, x.2.s ≤ x.2.l.length) {k : Nat} (hk : k < fs.length) (hr : Rises lt (mix cs fs k)) :
    tot (mix cs fs (k + 1)) + (fs[k].2.l.length - fs[k].2.s - keepOf (chAt cs k) fs[k].2) = tot (mix cs fs k) ∧ fs[k].2.l.length ≤ tot (mix cs fs k) ∧ mix cs fs (k + 1) = omap.put lt fs[k].1 (crashF (chAt cs k) fs[k].2) (mix cs fs k) ∧ omap.look (mix cs fs k) fs[k].1 = some fs[k].2 := by
  have hm : k < (mix cs fs k).length := by rw [mix_length cs fs (by omega)]; exact hk
  have hat : (mix cs fs k)[k] = fs[k] := by
    have := mix_at (cs := cs) hk
    rw [List.getElem?_eq_getElem hm] at this
    exact Option.some.inj this
  have hput : mix cs fs (k + 1) = omap.put lt fs[k].1 (crashF (chAt cs k) fs[k].2) (mix cs fs k) := by
    rw [mix_succ hk]
    have := put_at hr hm (crashF (chAt cs k) fs[k].2)
    rw [hat] at this
    exact this.symm
  have hlook : omap.look (mix cs fs k) fs[k].1 = some fs[k].2 := by
    have := look_at hr hm
    rw [hat] at this
    exact this
  have h1 := tot_del hr hlook
  have h2 := crashF_length (c := chAt cs k) (f := fs[k].2) (hs _ (List.getElem_mem hk))
  have h3 := keepOf_le (chAt cs k) fs[k].2
  have h4 := hs _ (List.getElem_mem hk)
  refine ⟨?_, by omega, hput, hlook⟩
  rw [hput]
  unfold tot at h1 ⊢
  unfold omap.put
  rw [total_ins]
  simp only
  omega
theorem rises_names {fs fs' : Fs} (h : Rises lt fs) (e : fs'.map (·.1) = fs.map (·.1)) : Rises lt fs' := by
  have h1 : (fs.map (·.1)).Pairwise fun a b => lt a b = true := List.pairwise_map.2 h
  rw [← e] at h1
  exact List.pairwise_map.1 h1
theorem tot_mix_le {cs : List Ch} {fs : Fs} (h : Rises lt fs) (hs : ∀ x ∈ fs, x.2.s ≤ x.2.l.length) : ∀ k, k ≤ fs.length → tot (mix cs fs k) ≤ tot fs := by
  intro k
  induction k with
  | zero => intro _; exact Nat.le_refl _
  | succ k ih =>
    intro hk
    have h1 := ih (by omega)
    obtain ⟨h2, _⟩ := tot_mix (cs := cs) hs (k := k) (by omega) (rises_names h (mix_names (by omega)))
    omega
def crashS (cs : List Ch) (d : Dk) : Dk := ⟨⟨d.p.steps, 0, false⟩, d.cap, crashAll cs d.fs⟩
set_option maxRecDepth 100000 in
set_option maxHeartbeats 8000000 in
theorem crash_cmd (b : Nat) (S : List Nat) (d : Dk) (A : Option Addr) (cs : List Ch) (cc : Nat) (w : World) (h : DiskAt w b S d) (hcs : ChRow w A cs) (hA : Apart S A cs.length) (hok : ∀ c ∈ cs, c.ok) (hn : cs.length ≤ 1000000) :
    Calls Try.prog 18 #[.pointer (some ⟨b, 0, none⟩), .slice A cs.length cc] w fun e w' => e = .returned (.tuple #[]) ∧ ∃ S', DiskAt w' b S' (crashS cs d) ∧ Turn S S' w w' := by
  have hrs := h.rises
  have hroom := h.room
  have hcap := h.few
  obtain ⟨m, es0, rfl, hr, hE⟩ := h.at_
  have hfl : es0.length = d.fs.length := by rw [← hE, er_length]
  have hfew : d.fs.length ≤ 1073741824 := by have := hr.map.few; rw [bl_length] at this; omega
  have HSY : Hid (∀ x ∈ d.fs, x.2.s ≤ x.2.l.length) := by
    intro x hx
    rw [← hE] at hx
    obtain ⟨y, hy, rfl⟩ := List.mem_map.1 hx
    exact (hr.files y hy).s_le
  have hN := names_any b m d.p d.cap (tot d.fs) es0 w hr
  rw [hfl] at hN
  have hnm : es0.map (·.1) = d.fs.map (·.1) := by rw [← hE]; unfold er mapv; rw [List.map_map]; rfl
  rw [hnm] at hN
  have HRM : Hid (∀ k, k ≤ d.fs.length → tot (mix cs d.fs k) ≤ d.cap) := fun k hk => Nat.le_trans (tot_mix_le hrs HSY.out k hk) hroom
  have HR0 := Lib.hid hr
  have HE0 := Lib.hid hE
  have HROOM := Lib.hid hroom
  have HCAP := Lib.hid hcap
  have HRS := Lib.hid hrs
  have HCS := Lib.hid hcs
  have HAP := Lib.hid hA
  have HOKS := Lib.hid hok
  clear hr hE hroom hcap hrs hcs hA hok hnm hfl h
  go_enter Try.func18, Try.ntmps18
  go_wp2_with (fail)
  refine hN.mono ?_
  rintro r w1 ⟨a, c, rfl, _, _, hrow, hnew, hbel⟩
  have HROW := Lib.hid hrow
  have HNEW := Lib.hid hnew
  have HBEL := Lib.hid hbel
  clear hrow hnew hbel hN
  go_wp2_with (fail)
  go_loopw [10] (fun i wr => ∃ (k : Nat) (es : Es), k ≤ d.fs.length ∧ i = .int .i64 k ∧ Hid (er es = mix cs d.fs k) ∧ Hid (Raw wr b m d.p d.cap (tot (mix cs d.fs k)) es) ∧ Hid (Turn (foot b m es0) (foot b m es) w1 wr)) (fun i _ => d.fs.length - (intOf i).toNat)
  case atStart => exact ⟨0, es0, Nat.zero_le _, rfl, HE0.out, HR0.out.below HBEL.out, Turn.refl _ _⟩
  case round =>
    obtain ⟨k, es, hk, rfl, hEr, HRw, HTw⟩ := hrel
    by_cases hlt : k < d.fs.length
    · have hap0 : Apart (foot b m es0) a (d.fs.map (·.1)).length := fun _ x hx hm => by
        have h1 := HNEW.out x hx
        have h2 := HR0.out.inside _ hm
        omega
      obtain ⟨rb, off, ra, hcell⟩ := (Apart.row HROW.out hap0 HTw.out) (by rw [List.length_map]; omega)
      subst ra
      have ck := hcell k (by rw [List.length_map]; exact hlt)
      rw [List.getElem_map] at ck
      obtain ⟨t1, t2, t3, hmk⟩ := tot_mix (cs := cs) HSY.out hlt (by rw [← hEr.out]; exact rises_er.2 HRw.out.rises)
      rw [← hEr.out, er_look] at hmk
      obtain ⟨e, hke, hef⟩ := Option.map_eq_some_iff.1 hmk
      have hcapw := HCAP.out
      have hroomw : tot (mix cs d.fs k) ≤ d.cap := HRM.out k hk
      obtain ⟨nm, hnm⟩ : ∃ nm, nm = d.fs[k].1 := ⟨_, rfl⟩
      obtain ⟨f, hf⟩ : ∃ f, f = d.fs[k].2 := ⟨_, rfl⟩
      rw [← hnm] at ck hke t3
      rw [← hf] at t1 t2 t3 hef
      subst hef
      obtain ⟨used, hus⟩ : ∃ used, used = tot (mix cs d.fs k) := ⟨_, rfl⟩
      obtain ⟨used', hus'⟩ : ∃ used', used' = tot (mix cs d.fs (k + 1)) := ⟨_, rfl⟩
      obtain ⟨lost, hlo⟩ : ∃ lost, lost = e.f.l.length - e.f.s - keepOf (chAt cs k) e.f := ⟨_, rfl⟩
      rw [← hus] at HRw t1 t2 hroomw
      rw [← hus', ← hlo] at t1
      have HU2 := Lib.hid hus'
      have HSZ : Hid (e.f.l.length ≤ 67108864) := by show _ ≤ _; omega
      have HSUB : Hid (IntKind.i64.wrap ((used : Int) - (lost : Int)) = (used' : Int)) := by
        show _ = _
        rw [show (used : Int) - (lost : Int) = (used' : Int) by omega]
        exact IntWalk.i64_in _ (by omega)
      have HK := Lib.hid hke
      have HNL := Lib.hid (name_le HRw.out hke)
      have HNF : Hid (wr.heap.size ∉ foot b m es) := fun hm => by have := HRw.out.inside _ hm; omega
      have HNX : Hid (∀ e' : Ent, e'.g = e.g → e'.f = crashF (chAt cs k) e.f → er (omap.put lt nm e' es) = mix cs d.fs (k + 1)) := fun e' _ h2 => by
        rw [er_put, h2, hEr.out]
        exact t3.symm
      have hkb : (k : Int) ≤ 1073741824 := by omega
      clear hcell hmk hke hus hus' t1 t2 t3 hnm hf hroomw hcapw
      by_cases hcl : k < cs.length
      · obtain ⟨cb, coff, ca, hcc⟩ := (ChRow.later HCS.out HAP.out ((Turn.below HBEL.out).trans HTw.out)) (by omega)
        subst ca
        obtain ⟨q0, q1, q2⟩ := hcc k hcl
        have hkok := HOKS.out cs[k] (List.getElem_mem hcl)
        have hce := chAt_lt hcl
        obtain ⟨ch, hch⟩ : ∃ ch, ch = cs[k] := ⟨_, rfl⟩
        rw [← hch] at q0 q1 q2 hkok hce
        rw [hce] at hlo HNX
        obtain ⟨K, Aa, Ff⟩ := ch
        simp only at q0 q1 q2
        have hcbl : cb < wr.heap.size := World.block_lt_of_cell? wr _ q0
        have HLO := Lib.hid hlo
        have HKO := Lib.hid hkok
        clear hcc hch hce hlo hkok
        have HRA := Lib.hid ((HRw.out.alloc (.cells #[.int .u64 (K : Nat), .int .u64 (Aa : Nat), .int .u8 (Ff : Nat)] 74)).below (Below.refl _ _).drew)
        have HB0 : Hid (((wr.alloc (.cells #[.int .u64 (K : Nat), .int .u64 (Aa : Nat), .int .u8 (Ff : Nat)] 74)).drew).cell? ⟨wr.heap.size, 0, none⟩ = some (.int .u64 (K : Nat))) := cell_of_row _ _ 0 _ _ _ (heap_alloc_new wr _)
        have HB1 : Hid (((wr.alloc (.cells #[.int .u64 (K : Nat), .int .u64 (Aa : Nat), .int .u8 (Ff : Nat)] 74)).drew).cell? ⟨wr.heap.size, 1, none⟩ = some (.int .u64 (Aa : Nat))) := cell_of_row _ _ 1 _ _ _ (heap_alloc_new wr _)
        have HB2 : Hid (((wr.alloc (.cells #[.int .u64 (K : Nat), .int .u64 (Aa : Nat), .int .u8 (Ff : Nat)] 74)).drew).cell? ⟨wr.heap.size, 2, none⟩ = some (.int .u8 (Ff : Nat))) := cell_of_row _ _ 2 _ _ _ (heap_alloc_new wr _)
        have HTA : Hid (Turn (foot b m es) (foot b m es) wr ((wr.alloc (.cells #[.int .u64 (K : Nat), .int .u64 (Aa : Nat), .int .u8 (Ff : Nat)] 74)).drew)) := Turn.below (((Below.refl _ _).alloc (Nat.le_refl _) _).drew)
        have HOK : Hid (Ch.ok ⟨K, Aa, Ff⟩) := HKO.out
        go_wp2_with (fail)
        refine regs.wp_region_put (Rel (foot b m es)) (CJ (wr.alloc (.cells #[.int .u64 (K : Nat), .int .u64 (Aa : Nat), .int .u8 (Ff : Nat)] 74)).drew b m d.p d.cap used used' es nm e ⟨K, Aa, Ff⟩) [23, 24, 25, 26, 27, 28, 29, 30, 31, 32, 33, 34, 35, 36, 37] (by kernel_rfl) (by kernel_rfl) (fun _ => Rel.refl (foot b m es) _) (Rel.trans (foot b m es)) (fun i => (match i with
          | 0 => regs.Say.val _ (.pointer (some ⟨b, 0, none⟩))
          | 1 => regs.Say.val _ (.pointer (some ⟨b, 0, none⟩))
          | 2 => regs.Say.val _ (.pointer (some ⟨b, 4, none⟩))
          | 3 => regs.Say.val _ (.int .i64 (used : Nat))
          | 4 => regs.Say.val _ (.pointer (some ⟨b, 0, none⟩))
          | 5 => regs.Say.val _ (.pointer (some ⟨b, 0, none⟩))
          | 6 => regs.Say.val _ (.pointer (some ⟨b, 5, none⟩))
          | 7 => regs.Say.val _ (.map (some m))
          | 8 => regs.Say.val _ (.string ⟨nm.toArray⟩)
          | 9 => regs.Say.val _ (.pointer (some ⟨e.g, 0, none⟩))
          | 10 => regs.Say.val _ (.agg #[.int .u64 (K : Nat), .int .u64 (Aa : Nat), .int .u8 (Ff : Nat)])
          | 11 => regs.Say.val _ (.int .i64 (lost : Nat))
          | 12 => regs.Say.val _ ((.int .i64 (used' : Nat)))
          | 13 => regs.Say.val _ (.pointer (some ⟨b, 0, none⟩))
          | 14 => regs.Say.val _ (.pointer (some ⟨b, 4, none⟩))
          | 15 => regs.Say.any _
          | _ => regs.Say.any _ : regs.Say (Rel (foot b m es))).p) (fun _ => regs.Say.mono _) (by kernel_rfl) (Rel.drew _ _) (CJ.start HRA.out) ⟨?_, ?_, ?_, ?_, ?_, ?_, ?_, ?_, ?_, ?_, ?_, ?_, ?_, ?_, ?_, ?_, trivial⟩ ?_
        · refine regs.StepOK.plain rfl fun L a w1 hh => ?_
          have h0 : a.tmps[0]?.getD undef = .pointer (some ⟨b, 0, none⟩) := by rw [← Array.getD_eq_getD_getElem?]; exact hh.old 0 rfl
          have hJ := Lib.hid hh.st
          clear hh
          go_simp
          exact ⟨_, rfl, Rel.refl (foot b m es) _, rfl, CJ.upd hJ.out (by decide) (by decide)⟩
        · refine regs.StepOK.plain rfl fun L a w1 hh => ?_
          have h23 : a.tmps[23]?.getD undef = .pointer (some ⟨b, 0, none⟩) := by rw [← Array.getD_eq_getD_getElem?]; exact hh.dep 0 23 (by kernel_rfl) (by kernel_rfl)
          have hJ := Lib.hid hh.st
          clear hh
          go_simp
          exact ⟨_, rfl, Rel.refl (foot b m es) _, rfl, CJ.upd hJ.out (by decide) (by decide)⟩
        · refine regs.StepOK.plain rfl fun L a w1 hh => ?_
          have h24 : a.tmps[24]?.getD undef = .pointer (some ⟨b, 0, none⟩) := by rw [← Array.getD_eq_getD_getElem?]; exact hh.dep 1 24 (by kernel_rfl) (by kernel_rfl)
          have hJ := Lib.hid hh.st
          clear hh
          go_simp
          exact ⟨_, rfl, Rel.refl (foot b m es) _, rfl, CJ.upd hJ.out (by decide) (by decide)⟩
        · refine regs.StepOK.plain rfl fun L a w1 hh => ?_
          have h25 : a.tmps[25]?.getD undef = .pointer (some ⟨b, 4, none⟩) := by rw [← Array.getD_eq_getD_getElem?]; exact hh.dep 2 25 (by kernel_rfl) (by kernel_rfl)
          have c4 := (show CJ _ b m d.p d.cap used used' es nm e _ L w1 from hh.st).usedAt hh.un
          have hJ := Lib.hid hh.st
          clear hh
          go_simp
          exact ⟨_, rfl, Rel.refl (foot b m es) _, rfl, CJ.upd hJ.out (by decide) (by decide)⟩
        · refine regs.StepOK.plain rfl fun L a w1 hh => ?_
          have h0 : a.tmps[0]?.getD undef = .pointer (some ⟨b, 0, none⟩) := by rw [← Array.getD_eq_getD_getElem?]; exact hh.old 0 rfl
          have hJ := Lib.hid hh.st
          clear hh
          go_simp
          exact ⟨_, rfl, Rel.refl (foot b m es) _, rfl, CJ.upd hJ.out (by decide) (by decide)⟩
        · refine regs.StepOK.plain rfl fun L a w1 hh => ?_
          have h27 : a.tmps[27]?.getD undef = .pointer (some ⟨b, 0, none⟩) := by rw [← Array.getD_eq_getD_getElem?]; exact hh.dep 4 27 (by kernel_rfl) (by kernel_rfl)
          have hJ := Lib.hid hh.st
          clear hh
          go_simp
          exact ⟨_, rfl, Rel.refl (foot b m es) _, rfl, CJ.upd hJ.out (by decide) (by decide)⟩
        · refine regs.StepOK.plain rfl fun L a w1 hh => ?_
          have h28 : a.tmps[28]?.getD undef = .pointer (some ⟨b, 0, none⟩) := by rw [← Array.getD_eq_getD_getElem?]; exact hh.dep 5 28 (by kernel_rfl) (by kernel_rfl)
          have hJ := Lib.hid hh.st
          clear hh
          go_simp
          exact ⟨_, rfl, Rel.refl (foot b m es) _, rfl, CJ.upd hJ.out (by decide) (by decide)⟩
        · refine regs.StepOK.plain rfl fun L a w1 hh => ?_
          have h29 : a.tmps[29]?.getD undef = .pointer (some ⟨b, 5, none⟩) := by rw [← Array.getD_eq_getD_getElem?]; exact hh.dep 6 29 (by kernel_rfl) (by kernel_rfl)
          have c5 := (show CJ _ b m d.p d.cap used used' es nm e _ L w1 from hh.st).c5
          have hJ := Lib.hid hh.st
          clear hh
          go_simp
          exact ⟨_, rfl, Rel.refl (foot b m es) _, rfl, CJ.upd hJ.out (by decide) (by decide)⟩
        · refine regs.StepOK.plain rfl fun L a w1 hh => ?_
          have h5 : a.tmps[5]?.getD undef = .string ⟨nm.toArray⟩ := by rw [← Array.getD_eq_getD_getElem?]; exact hh.old 5 rfl
          have hJ := Lib.hid hh.st
          clear hh
          go_simp
          exact ⟨_, rfl, Rel.refl (foot b m es) _, rfl, CJ.upd hJ.out (by decide) (by decide)⟩
        · refine regs.StepOK.plain rfl fun L a w1 hh => ?_
          have h30 : a.tmps[30]?.getD undef = .map (some m) := by rw [← Array.getD_eq_getD_getElem?]; exact hh.dep 7 30 (by kernel_rfl) (by kernel_rfl)
          have h31 : a.tmps[31]?.getD undef = .string ⟨nm.toArray⟩ := by rw [← Array.getD_eq_getD_getElem?]; exact hh.dep 8 31 (by kernel_rfl) (by kernel_rfl)
          have hlk := (show CJ _ b m d.p d.cap used used' es nm e _ L w1 from hh.st).map.lookupN HNL.out
          rw [bl_look, HK.out] at hlk
          simp only [Option.map_some, ptrTo] at hlk
          have hJ := Lib.hid hh.st
          clear hh
          go_simp
          exact ⟨_, rfl, Rel.refl (foot b m es) _, rfl, CJ.upd hJ.out (by decide) (by decide)⟩
        · refine regs.StepOK.plain rfl fun L a w1 hh => ?_
          have h6 : a.tmps[6]?.getD undef = .pointer (some ⟨wr.heap.size, 0, none⟩) := by rw [← Array.getD_eq_getD_getElem?]; exact hh.old 6 rfl
          have hrel : Rel (foot b m es) _ w1 := hh.rel
          have q0 := hrel.cell (a := ⟨wr.heap.size, 0, none⟩) (by simp) HNF.out HB0.out
          have q1 := hrel.cell (a := ⟨wr.heap.size, 1, none⟩) (by simp) HNF.out HB1.out
          have q2 := hrel.cell (a := ⟨wr.heap.size, 2, none⟩) (by simp) HNF.out HB2.out
          clear hrel
          have hJ := Lib.hid hh.st
          clear hh
          go_simp
          exact ⟨_, rfl, Rel.refl (foot b m es) _, rfl, CJ.upd hJ.out (by decide) (by decide)⟩
        · refine regs.StepOK.plain rfl fun L a w1 hh => ?_
          have h32 : a.tmps[32]?.getD undef = .pointer (some ⟨e.g, 0, none⟩) := by rw [← Array.getD_eq_getD_getElem?]; exact hh.dep 9 32 (by kernel_rfl) (by kernel_rfl)
          have h33 : a.tmps[33]?.getD undef = .agg #[.int .u64 (K : Nat), .int .u64 (Aa : Nat), .int .u8 (Ff : Nat)] := by rw [← Array.getD_eq_getD_getElem?]; exact hh.dep 10 33 (by kernel_rfl) (by kernel_rfl)
          have hst : CJ _ b m d.p d.cap used used' es nm e _ L w1 := hh.st
          have hun := hh.un
          have hrel : Rel (foot b m es) _ w1 := hh.rel
          obtain ⟨r1, r2⟩ := hst.early hun
          have HST := Lib.hid hst
          have HR1 := Lib.hid r1
          have HR2 := Lib.hid r2
          have HUN := Lib.hid hun
          clear hh hst hrel r1 r2 hun
          go_simp
          refine (crash_any b m d.p d.cap used es nm e ⟨K, Aa, Ff⟩ w1 HR1.out HK.out HOK.out HSZ.out).mono ?_
          rintro r w2 ⟨rfl, e', k1, k2, k3, k4⟩
          refine ⟨_, rfl, k4.rel, ?_, HST.out.called HUN.out ⟨e', k1, k2, k3, HR2.out.trans k4⟩ HK.out⟩
          show _ = _
          rw [HLO.out]
        · refine regs.StepOK.plain rfl fun L a w1 hh => ?_
          have h26 : a.tmps[26]?.getD undef = .int .i64 (used : Nat) := by rw [← Array.getD_eq_getD_getElem?]; exact hh.dep 3 26 (by kernel_rfl) (by kernel_rfl)
          have h34 : a.tmps[34]?.getD undef = .int .i64 (lost : Nat) := by rw [← Array.getD_eq_getD_getElem?]; exact hh.dep 11 34 (by kernel_rfl) (by kernel_rfl)
          have hsub := HSUB.out
          have hJ := Lib.hid hh.st
          clear hh
          go_simp
          exact ⟨_, rfl, Rel.refl (foot b m es) _, rfl, CJ.upd hJ.out (by decide) (by decide)⟩
        · refine regs.StepOK.plain rfl fun L a w1 hh => ?_
          have h23 : a.tmps[23]?.getD undef = .pointer (some ⟨b, 0, none⟩) := by rw [← Array.getD_eq_getD_getElem?]; exact hh.dep 0 23 (by kernel_rfl) (by kernel_rfl)
          have hJ := Lib.hid hh.st
          clear hh
          go_simp
          exact ⟨_, rfl, Rel.refl (foot b m es) _, rfl, CJ.upd hJ.out (by decide) (by decide)⟩
        · refine regs.StepOK.plain rfl fun L a w1 hh => ?_
          have h36 : a.tmps[36]?.getD undef = .pointer (some ⟨b, 0, none⟩) := by rw [← Array.getD_eq_getD_getElem?]; exact hh.dep 13 36 (by kernel_rfl) (by kernel_rfl)
          have hJ := Lib.hid hh.st
          clear hh
          go_simp
          exact ⟨_, rfl, Rel.refl (foot b m es) _, rfl, CJ.upd hJ.out (by decide) (by decide)⟩
        · refine regs.StepOK.plain rfl fun L a w1 hh => ?_
          have h35 : a.tmps[35]?.getD undef = (.int .i64 (used' : Nat)) := by rw [← Array.getD_eq_getD_getElem?]; exact hh.dep 12 35 (by kernel_rfl) (by kernel_rfl)
          have h37 : a.tmps[37]?.getD undef = .pointer (some ⟨b, 4, none⟩) := by rw [← Array.getD_eq_getD_getElem?]; exact hh.dep 14 37 (by kernel_rfl) (by kernel_rfl)
          have hst : CJ _ b m d.p d.cap used used' es nm e _ L w1 := hh.st
          have hun := hh.un
          have h3 : L 3 = true := hh.up 3 (by kernel_rfl)
          have h11 : L 11 = true := hh.up 11 (by kernel_rfl)
          have hc4 := hst.c4 hun
          have hf4 := hst.fr
          have HST := Lib.hid hst
          have HUN := Lib.hid hun
          have H3 := Lib.hid h3
          have H11 := Lib.hid h11
          clear hh hst hun h3 h11
          go_simp
          exact ⟨Rel.set (foot_mem_b b m es) _, ⟨undef, trivial⟩, HST.out.stored HUN.out H3.out H11.out⟩
        intro L w1' val hL hJ hb2 hf2
        have hl15 : L 15 = true := hL 15 (by decide)
        have HJ := Lib.hid (CJ.late hJ hl15)
        clear hf2 hJ hb2 hL hl15
        simp only [regs.putAll, List.map_cons, List.map_nil]
        go_simp
        go_wp2_with (fail)
        go_roundw
        case rel =>
          obtain ⟨e', k1, k2, k3, k4⟩ := HJ.out
          exact ⟨k + 1, _, by omega, by go_num, HNX.out e' k1 k2, by rw [← HU2.out]; exact k3, (HTw.out.trans HTA.out).trans k4⟩
        case measure => simp [intOf]; omega
      · have hce := chAt_ge hcl
        rw [hce] at hlo HNX
        have HLO := Lib.hid hlo
        have tcl : decide (k < cs.length) = false := by simpa using hcl
        clear hce hlo
        have HRA := Lib.hid ((HRw.out.alloc (.cells #[.int .u64 (0 : Nat), .int .u64 (0 : Nat), .int .u8 (0 : Nat)] 74)).below (Below.refl _ _).drew)
        have HB0 : Hid (((wr.alloc (.cells #[.int .u64 (0 : Nat), .int .u64 (0 : Nat), .int .u8 (0 : Nat)] 74)).drew).cell? ⟨wr.heap.size, 0, none⟩ = some (.int .u64 (0 : Nat))) := cell_of_row _ _ 0 _ _ _ (heap_alloc_new wr _)
        have HB1 : Hid (((wr.alloc (.cells #[.int .u64 (0 : Nat), .int .u64 (0 : Nat), .int .u8 (0 : Nat)] 74)).drew).cell? ⟨wr.heap.size, 1, none⟩ = some (.int .u64 (0 : Nat))) := cell_of_row _ _ 1 _ _ _ (heap_alloc_new wr _)
        have HB2 : Hid (((wr.alloc (.cells #[.int .u64 (0 : Nat), .int .u64 (0 : Nat), .int .u8 (0 : Nat)] 74)).drew).cell? ⟨wr.heap.size, 2, none⟩ = some (.int .u8 (0 : Nat))) := cell_of_row _ _ 2 _ _ _ (heap_alloc_new wr _)
        have HTA : Hid (Turn (foot b m es) (foot b m es) wr ((wr.alloc (.cells #[.int .u64 (0 : Nat), .int .u64 (0 : Nat), .int .u8 (0 : Nat)] 74)).drew)) := Turn.below (((Below.refl _ _).alloc (Nat.le_refl _) _).drew)
        have HOK : Hid (Ch.ok ⟨0, 0, 0⟩) := ⟨by decide, by decide, by decide⟩
        go_wp2_with (fail)
        refine regs.wp_region_put (Rel (foot b m es)) (CJ (wr.alloc (.cells #[.int .u64 (0 : Nat), .int .u64 (0 : Nat), .int .u8 (0 : Nat)] 74)).drew b m d.p d.cap used used' es nm e ⟨0, 0, 0⟩) [23, 24, 25, 26, 27, 28, 29, 30, 31, 32, 33, 34, 35, 36, 37] (by kernel_rfl) (by kernel_rfl) (fun _ => Rel.refl (foot b m es) _) (Rel.trans (foot b m es)) (fun i => (match i with
          | 0 => regs.Say.val _ (.pointer (some ⟨b, 0, none⟩))
          | 1 => regs.Say.val _ (.pointer (some ⟨b, 0, none⟩))
          | 2 => regs.Say.val _ (.pointer (some ⟨b, 4, none⟩))
          | 3 => regs.Say.val _ (.int .i64 (used : Nat))
          | 4 => regs.Say.val _ (.pointer (some ⟨b, 0, none⟩))
          | 5 => regs.Say.val _ (.pointer (some ⟨b, 0, none⟩))
          | 6 => regs.Say.val _ (.pointer (some ⟨b, 5, none⟩))
          | 7 => regs.Say.val _ (.map (some m))
          | 8 => regs.Say.val _ (.string ⟨nm.toArray⟩)
          | 9 => regs.Say.val _ (.pointer (some ⟨e.g, 0, none⟩))
          | 10 => regs.Say.val _ (.agg #[.int .u64 (0 : Nat), .int .u64 (0 : Nat), .int .u8 (0 : Nat)])
          | 11 => regs.Say.val _ (.int .i64 (lost : Nat))
          | 12 => regs.Say.val _ ((.int .i64 (used' : Nat)))
          | 13 => regs.Say.val _ (.pointer (some ⟨b, 0, none⟩))
          | 14 => regs.Say.val _ (.pointer (some ⟨b, 4, none⟩))
          | 15 => regs.Say.any _
          | _ => regs.Say.any _ : regs.Say (Rel (foot b m es))).p) (fun _ => regs.Say.mono _) (by kernel_rfl) (Rel.drew _ _) (CJ.start HRA.out) ⟨?_, ?_, ?_, ?_, ?_, ?_, ?_, ?_, ?_, ?_, ?_, ?_, ?_, ?_, ?_, ?_, trivial⟩ ?_
        · refine regs.StepOK.plain rfl fun L a w1 hh => ?_
          have h0 : a.tmps[0]?.getD undef = .pointer (some ⟨b, 0, none⟩) := by rw [← Array.getD_eq_getD_getElem?]; exact hh.old 0 rfl
          have hJ := Lib.hid hh.st
          clear hh
          go_simp
          exact ⟨_, rfl, Rel.refl (foot b m es) _, rfl, CJ.upd hJ.out (by decide) (by decide)⟩
        · refine regs.StepOK.plain rfl fun L a w1 hh => ?_
          have h23 : a.tmps[23]?.getD undef = .pointer (some ⟨b, 0, none⟩) := by rw [← Array.getD_eq_getD_getElem?]; exact hh.dep 0 23 (by kernel_rfl) (by kernel_rfl)
          have hJ := Lib.hid hh.st
          clear hh
          go_simp
          exact ⟨_, rfl, Rel.refl (foot b m es) _, rfl, CJ.upd hJ.out (by decide) (by decide)⟩
        · refine regs.StepOK.plain rfl fun L a w1 hh => ?_
          have h24 : a.tmps[24]?.getD undef = .pointer (some ⟨b, 0, none⟩) := by rw [← Array.getD_eq_getD_getElem?]; exact hh.dep 1 24 (by kernel_rfl) (by kernel_rfl)
          have hJ := Lib.hid hh.st
          clear hh
          go_simp
          exact ⟨_, rfl, Rel.refl (foot b m es) _, rfl, CJ.upd hJ.out (by decide) (by decide)⟩
        · refine regs.StepOK.plain rfl fun L a w1 hh => ?_
          have h25 : a.tmps[25]?.getD undef = .pointer (some ⟨b, 4, none⟩) := by rw [← Array.getD_eq_getD_getElem?]; exact hh.dep 2 25 (by kernel_rfl) (by kernel_rfl)
          have c4 := (show CJ _ b m d.p d.cap used used' es nm e _ L w1 from hh.st).usedAt hh.un
          have hJ := Lib.hid hh.st
          clear hh
          go_simp
          exact ⟨_, rfl, Rel.refl (foot b m es) _, rfl, CJ.upd hJ.out (by decide) (by decide)⟩
        · refine regs.StepOK.plain rfl fun L a w1 hh => ?_
          have h0 : a.tmps[0]?.getD undef = .pointer (some ⟨b, 0, none⟩) := by rw [← Array.getD_eq_getD_getElem?]; exact hh.old 0 rfl
          have hJ := Lib.hid hh.st
          clear hh
          go_simp
          exact ⟨_, rfl, Rel.refl (foot b m es) _, rfl, CJ.upd hJ.out (by decide) (by decide)⟩
        · refine regs.StepOK.plain rfl fun L a w1 hh => ?_
          have h27 : a.tmps[27]?.getD undef = .pointer (some ⟨b, 0, none⟩) := by rw [← Array.getD_eq_getD_getElem?]; exact hh.dep 4 27 (by kernel_rfl) (by kernel_rfl)
          have hJ := Lib.hid hh.st
          clear hh
          go_simp
          exact ⟨_, rfl, Rel.refl (foot b m es) _, rfl, CJ.upd hJ.out (by decide) (by decide)⟩
        · refine regs.StepOK.plain rfl fun L a w1 hh => ?_
          have h28 : a.tmps[28]?.getD undef = .pointer (some ⟨b, 0, none⟩) := by rw [← Array.getD_eq_getD_getElem?]; exact hh.dep 5 28 (by kernel_rfl) (by kernel_rfl)
          have hJ := Lib.hid hh.st
          clear hh
          go_simp
          exact ⟨_, rfl, Rel.refl (foot b m es) _, rfl, CJ.upd hJ.out (by decide) (by decide)⟩
        · refine regs.StepOK.plain rfl fun L a w1 hh => ?_
          have h29 : a.tmps[29]?.getD undef = .pointer (some ⟨b, 5, none⟩) := by rw [← Array.getD_eq_getD_getElem?]; exact hh.dep 6 29 (by kernel_rfl) (by kernel_rfl)
          have c5 := (show CJ _ b m d.p d.cap used used' es nm e _ L w1 from hh.st).c5
          have hJ := Lib.hid hh.st
          clear hh
          go_simp
          exact ⟨_, rfl, Rel.refl (foot b m es) _, rfl, CJ.upd hJ.out (by decide) (by decide)⟩
        · refine regs.StepOK.plain rfl fun L a w1 hh => ?_
          have h5 : a.tmps[5]?.getD undef = .string ⟨nm.toArray⟩ := by rw [← Array.getD_eq_getD_getElem?]; exact hh.old 5 rfl
          have hJ := Lib.hid hh.st
          clear hh
          go_simp
          exact ⟨_, rfl, Rel.refl (foot b m es) _, rfl, CJ.upd hJ.out (by decide) (by decide)⟩
        · refine regs.StepOK.plain rfl fun L a w1 hh => ?_
          have h30 : a.tmps[30]?.getD undef = .map (some m) := by rw [← Array.getD_eq_getD_getElem?]; exact hh.dep 7 30 (by kernel_rfl) (by kernel_rfl)
          have h31 : a.tmps[31]?.getD undef = .string ⟨nm.toArray⟩ := by rw [← Array.getD_eq_getD_getElem?]; exact hh.dep 8 31 (by kernel_rfl) (by kernel_rfl)
          have hlk := (show CJ _ b m d.p d.cap used used' es nm e _ L w1 from hh.st).map.lookupN HNL.out
          rw [bl_look, HK.out] at hlk
          simp only [Option.map_some, ptrTo] at hlk
          have hJ := Lib.hid hh.st
          clear hh
          go_simp
          exact ⟨_, rfl, Rel.refl (foot b m es) _, rfl, CJ.upd hJ.out (by decide) (by decide)⟩
        · refine regs.StepOK.plain rfl fun L a w1 hh => ?_
          have h6 : a.tmps[6]?.getD undef = .pointer (some ⟨wr.heap.size, 0, none⟩) := by rw [← Array.getD_eq_getD_getElem?]; exact hh.old 6 rfl
          have hrel : Rel (foot b m es) _ w1 := hh.rel
          have q0 := hrel.cell (a := ⟨wr.heap.size, 0, none⟩) (by simp) HNF.out HB0.out
          have q1 := hrel.cell (a := ⟨wr.heap.size, 1, none⟩) (by simp) HNF.out HB1.out
          have q2 := hrel.cell (a := ⟨wr.heap.size, 2, none⟩) (by simp) HNF.out HB2.out
          clear hrel
          have hJ := Lib.hid hh.st
          clear hh
          go_simp
          exact ⟨_, rfl, Rel.refl (foot b m es) _, rfl, CJ.upd hJ.out (by decide) (by decide)⟩
        · refine regs.StepOK.plain rfl fun L a w1 hh => ?_
          have h32 : a.tmps[32]?.getD undef = .pointer (some ⟨e.g, 0, none⟩) := by rw [← Array.getD_eq_getD_getElem?]; exact hh.dep 9 32 (by kernel_rfl) (by kernel_rfl)
          have h33 : a.tmps[33]?.getD undef = .agg #[.int .u64 (0 : Nat), .int .u64 (0 : Nat), .int .u8 (0 : Nat)] := by rw [← Array.getD_eq_getD_getElem?]; exact hh.dep 10 33 (by kernel_rfl) (by kernel_rfl)
          have hst : CJ _ b m d.p d.cap used used' es nm e _ L w1 := hh.st
          have hun := hh.un
          have hrel : Rel (foot b m es) _ w1 := hh.rel
          obtain ⟨r1, r2⟩ := hst.early hun
          have HST := Lib.hid hst
          have HR1 := Lib.hid r1
          have HR2 := Lib.hid r2
          have HUN := Lib.hid hun
          clear hh hst hrel r1 r2 hun
          go_simp
          refine (crash_any b m d.p d.cap used es nm e ⟨0, 0, 0⟩ w1 HR1.out HK.out HOK.out HSZ.out).mono ?_
          rintro r w2 ⟨rfl, e', k1, k2, k3, k4⟩
          refine ⟨_, rfl, k4.rel, ?_, HST.out.called HUN.out ⟨e', k1, k2, k3, HR2.out.trans k4⟩ HK.out⟩
          show _ = _
          rw [HLO.out]
        · refine regs.StepOK.plain rfl fun L a w1 hh => ?_
          have h26 : a.tmps[26]?.getD undef = .int .i64 (used : Nat) := by rw [← Array.getD_eq_getD_getElem?]; exact hh.dep 3 26 (by kernel_rfl) (by kernel_rfl)
          have h34 : a.tmps[34]?.getD undef = .int .i64 (lost : Nat) := by rw [← Array.getD_eq_getD_getElem?]; exact hh.dep 11 34 (by kernel_rfl) (by kernel_rfl)
          have hsub := HSUB.out
          have hJ := Lib.hid hh.st
          clear hh
          go_simp
          exact ⟨_, rfl, Rel.refl (foot b m es) _, rfl, CJ.upd hJ.out (by decide) (by decide)⟩
        · refine regs.StepOK.plain rfl fun L a w1 hh => ?_
          have h23 : a.tmps[23]?.getD undef = .pointer (some ⟨b, 0, none⟩) := by rw [← Array.getD_eq_getD_getElem?]; exact hh.dep 0 23 (by kernel_rfl) (by kernel_rfl)
          have hJ := Lib.hid hh.st
          clear hh
          go_simp
          exact ⟨_, rfl, Rel.refl (foot b m es) _, rfl, CJ.upd hJ.out (by decide) (by decide)⟩
        · refine regs.StepOK.plain rfl fun L a w1 hh => ?_
          have h36 : a.tmps[36]?.getD undef = .pointer (some ⟨b, 0, none⟩) := by rw [← Array.getD_eq_getD_getElem?]; exact hh.dep 13 36 (by kernel_rfl) (by kernel_rfl)
          have hJ := Lib.hid hh.st
          clear hh
          go_simp
          exact ⟨_, rfl, Rel.refl (foot b m es) _, rfl, CJ.upd hJ.out (by decide) (by decide)⟩
        · refine regs.StepOK.plain rfl fun L a w1 hh => ?_
          have h35 : a.tmps[35]?.getD undef = (.int .i64 (used' : Nat)) := by rw [← Array.getD_eq_getD_getElem?]; exact hh.dep 12 35 (by kernel_rfl) (by kernel_rfl)
          have h37 : a.tmps[37]?.getD undef = .pointer (some ⟨b, 4, none⟩) := by rw [← Array.getD_eq_getD_getElem?]; exact hh.dep 14 37 (by kernel_rfl) (by kernel_rfl)
          have hst : CJ _ b m d.p d.cap used used' es nm e _ L w1 := hh.st
          have hun := hh.un
          have h3 : L 3 = true := hh.up 3 (by kernel_rfl)
          have h11 : L 11 = true := hh.up 11 (by kernel_rfl)
          have hc4 := hst.c4 hun
          have hf4 := hst.fr
          have HST := Lib.hid hst
          have HUN := Lib.hid hun
          have H3 := Lib.hid h3
          have H11 := Lib.hid h11
          clear hh hst hun h3 h11
          go_simp
          exact ⟨Rel.set (foot_mem_b b m es) _, ⟨undef, trivial⟩, HST.out.stored HUN.out H3.out H11.out⟩
        intro L w1' val hL hJ hb2 hf2
        have hl15 : L 15 = true := hL 15 (by decide)
        have HJ := Lib.hid (CJ.late hJ hl15)
        clear hf2 hJ hb2 hL hl15
        simp only [regs.putAll, List.map_cons, List.map_nil]
        go_simp
        go_wp2_with (fail)
        go_roundw
        case rel =>
          obtain ⟨e', k1, k2, k3, k4⟩ := HJ.out
          exact ⟨k + 1, _, by omega, by go_num, HNX.out e' k1 k2, by rw [← HU2.out]; exact k3, (HTw.out.trans HTA.out).trans k4⟩
        case measure => simp [intOf]; omega
    · have hk' : k = d.fs.length := by omega
      subst hk'
      have hall : mix cs d.fs d.fs.length = crashAll cs d.fs := by
        unfold mix
        rw [List.drop_length, List.append_nil, List.take_of_length_le (by rw [crashAll_length]; exact Nat.le_refl _)]
      rw [hall] at hEr HRw
      have hroomw : tot (crashAll cs d.fs) ≤ d.cap := by rw [← hall]; exact HRM.out _ (Nat.le_refl _)
      have HRW2 := Lib.hid hroomw
      clear hall hlt hk hroomw
      go_wp2_with (fail)
      refine (restore_any b m d.p d.cap (tot (crashAll cs d.fs)) es _ HRw.out).mono ?_
      rintro r w2 ⟨rfl, k1, k2⟩
      have HK1 := Lib.hid k1
      have HK2 := Lib.hid k2
      clear k1 k2
      go_wp2_with (fail)
      go_end0
      exact ⟨rfl, _, ⟨⟨m, es, rfl, HK1.out, hEr.out⟩, HRW2.out, HCAP.out⟩, ((Turn.below HBEL.out).trans HTw.out).trans HK2.out⟩
end Go.Proofs.Ytpnhgongjfknbaa
