/-
  A disk and the document's beside it: both crash.
-/
import Derived.Test.YtpnhgongjfknbaaPyC
namespace Go.Proofs.Ytpnhgongjfknbaa
open Go.RowKit omap

def ccells (x : Ch) : List Value := [.int .u64 (x.k : Nat), .int .u64 (x.a : Nat), .int .u8 (x.f : Nat)]
/-- v is a slice of the call's own with just these choices -/
def COwn (w : World) (base : Nat) (v : Value) (cs : List Ch) : Prop := w.ownsRow base 76 3 v cs.length (cs.flatMap ccells)
theorem ccells_at {cs : List Ch} {j : Nat} (h : j < cs.length) : (cs.flatMap ccells)[j * 3]? = some (.int .u64 (cs[j].k : Nat)) ∧ (cs.flatMap ccells)[j * 3 + 1]? = some (.int .u64 (cs[j].a : Nat)) ∧ (cs.flatMap ccells)[j * 3 + 2]? = some (.int .u8 (cs[j].f : Nat)) := by
  induction cs generalizing j with
  | nil => simp at h
  | cons x l ih =>
    rw [List.flatMap_cons]
    cases j with
    | zero => simp [ccells]
    | succ j =>
      have hj : j < l.length := by simpa using h
      have e0 : (j + 1) * 3 = j * 3 + 3 := by omega
      have hl : (ccells x).length = 3 := rfl
      obtain ⟨h0, h1, h2⟩ := ih hj
      rw [e0, List.getElem?_append_right (by omega), List.getElem?_append_right (by omega), List.getElem?_append_right (by omega), hl, show j * 3 + 3 - 3 = j * 3 by omega, show j * 3 + 3 + 1 - 3 = j * 3 + 1 by omega, show j * 3 + 3 + 2 - 3 = j * 3 + 2 by omega]
      exact ⟨h0, h1, h2⟩
section
variable {w w' : World} {base : Nat} {v : Value} {cs : List Ch}
theorem COwn.nil (w : World) (base : Nat) : COwn w base (.slice none 0 0) [] := World.ownsRow_nil w base _ 3
theorem COwn.stays (h : COwn w base v cs) (hs : ∀ g, v.ownBlock = some g → w'.heap[g]? = w.heap[g]?) : COwn w' base v cs := by
  refine ⟨h.1, ?_⟩
  rcases h.2 with hn | ⟨g, cap, cur, rfl, hg, hb, rest⟩
  · exact .inl hn
  · exact .inr ⟨g, cap, cur, rfl, hg, (hs g rfl).trans hb, rest⟩
theorem COwn.block (h : COwn w base v cs) {g : Nat} (hg : v.ownBlock = some g) : base ≤ g ∧ g < w.heap.size := World.ownsRow.lt h g hg
theorem COwn.below (h : COwn w base v cs) (hb : Below w.heap.size w w') : COwn w' base v cs := h.stays fun g hg => hb.block g (h.block hg).2
theorem COwn.row (h : COwn w base v cs) : ∃ A c, v = .slice A cs.length c ∧ ChRow w A cs := by
  rcases h.2 with ⟨rfl, h0⟩ | ⟨g, cap, cur, rfl, hg, hb, hc, rest⟩
  · refine ⟨none, 0, by rw [h0], fun hn => by omega⟩
  · refine ⟨some ⟨g, 0, none⟩, cap, rfl, fun _ => ⟨g, 0, rfl, fun j hj => ?_⟩⟩
    have hcell := World.ownsRow.cells h (g := g) rfl
    obtain ⟨h0, h1, h2⟩ := ccells_at hj
    have e : ∀ i, (⟨g, 0, none⟩ : Addr).add i = ⟨g, 0 + i, none⟩ := fun i => by unfold Addr.add; split <;> simp_all
    exact ⟨by rw [← e]; exact hcell _ _ h0, by have := hcell _ _ h1; rw [e] at this; rw [Nat.add_assoc]; exact this, by have := hcell _ _ h2; rw [e] at this; rw [Nat.add_assoc]; exact this⟩
end
theorem info_choice : (Try.prog.info? 76).map (fun i => (i.zero, i.size, i.bytes)) = some (some (.agg #[.int .u64 0, .int .u64 0, .int .u8 0]), 3, 24) := by kernel_rfl
theorem app_choice (w : World) (base : Nat) (v : Value) (cs : List Ch) (h : COwn w base v cs) (g c : Nat) (x : Ch) (h0 : w.cell? ⟨g, 0, none⟩ = some (.int .u64 (x.k : Nat))) (h1 : w.cell? ⟨g, 1, none⟩ = some (.int .u64 (x.a : Nat))) (h2 : w.cell? ⟨g, 2, none⟩ = some (.int .u8 (x.f : Nat))) (hn : cs.length ≤ 1000000000) (hbase : base ≤ w.heap.size) :
    ∃ v' w', (Builtin.append_ #[75, 75] 75 #[v, .slice (some ⟨g, 0, none⟩) 1 c]).run Try.prog w = .ok v' w' ∧ COwn w' base v' (cs ++ [x]) ∧ w.grownBy w' v.ownBlock := by
  obtain ⟨i, hi, hz, hsize, hby⟩ := info_parts info_choice
  obtain ⟨v', w', hrun, ho, hg, -, -⟩ := run_append_own_at (P := Try.prog) w base 75 75 76 i _ 3 24 Try.underlying75 hi hz hsize hby rfl (by decide) v cs.length _ h ⟨g, 0, none⟩ 1 c
    (ccells x) rfl (by
      intro j u hu
      have e : (⟨g, 0, none⟩ : Addr).add j = ⟨g, j, none⟩ := by unfold Addr.add; split <;> simp_all
      rw [e]
      match j, hu with
      | 0, hu => rw [h0]; exact hu
      | 1, hu => rw [h1]; exact hu
      | 2, hu => rw [h2]; exact hu
      | j + 3, hu => exact absurd hu (by simp [ccells])) (by
      intro u hu
      simp only [ccells, List.mem_cons, List.not_mem_nil, or_false] at hu
      rcases hu with rfl | rfl | rfl <;> rfl) (by unfold maxLen; omega) (by omega) hbase
  refine ⟨v', w', hrun, ?_, hg⟩
  unfold COwn
  rw [List.length_append, List.flatMap_append]
  simpa using ho
set_option maxRecDepth 100000 in
set_option maxHeartbeats 16000000 in
theorem do0_cmd (w : World) (pb b : Nat) (S : List Nat) (x : Rf) (o : Cm) (h : PlayAt w pb b S x) (hf : Fine x.d) (ho : Told w S o) (h1 : o.kind ≠ 1 ∧ o.kind ≠ 2 ∧ o.kind ≠ 3 ∧ o.kind ≠ 4 ∧ o.kind ≠ 5 ∧ o.kind ≠ 6) :
    Calls Try.prog 11 #[.pointer (some ⟨pb, 0, none⟩), .agg o.cells.toArray] w fun e w' => e = .returned (.bool true) ∧ ∃ S' x', PlayAt w' pb b S' x' ∧ Turn (pb :: S) (pb :: S') w w' ∧ x'.d = crashS o.cs x.d := by
  have HP := Lib.hid h
  have HF := Lib.hid hf
  have HO := Lib.hid ho
  have hin := h.disk.inside
  have hb := h.blk
  have hsm := smallC_iff.1 ho.small
  obtain ⟨kind, name, nto, data, more, n, cA, cs, cc⟩ := o
  obtain ⟨A, c, d⟩ := x
  obtain ⟨⟨steps, left, down⟩, cap, fs⟩ := d
  unfold Cm.cells Part.v
  simp only at h1 hb hsm ⊢
  obtain ⟨s1, s2, s3, s4, s5⟩ := hsm
  have hpl := hb.inside
  have hbA : Below w.heap.size w (w.alloc (.cells #[.int .i64 kind, .string name, .string nto, .slice data.a data.l.length data.c, .slice more.a more.l.length more.c, .int .i64 n, .slice cA cs.length cc] 38)) := (Below.refl _ _).alloc (Nat.le_refl _) _
  have bO : Blk (w.alloc (.cells #[.int .i64 kind, .string name, .string nto, .slice data.a data.l.length data.c, .slice more.a more.l.length more.c, .int .i64 n, .slice cA cs.length cc] 38)) w.heap.size [.int .i64 kind, .string name, .string nto, .slice data.a data.l.length data.c, .slice more.a more.l.length more.c, .int .i64 n, .slice cA cs.length cc] := blk_new w _ _
  have hbp := hb.stays (hbA.block _ hpl)
  have HPA := Lib.hid (h.below hbA)
  have HBA := Lib.hid hbA
  have HS1 : Hid (name.size ≤ 1000) := by show _ ≤ _; omega
  have HS2 : Hid (nto.size ≤ 1000) := by show _ ≤ _; omega
  have HDL : Hid (data.l.length ≤ 200 ∧ more.l.length ≤ 200) := ⟨s1, s2⟩
  have HCL : Hid (cs.length ≤ 60) := s5
  clear h hf ho hb s1 s2 s3 s4 s5
  go_enter Try.func11, Try.ntmps11
  go_upto_region 1 with (fail)
  have hzA : (w.alloc (.cells #[.int .i64 kind, .string name, .string nto, .slice data.a data.l.length data.c, .slice more.a more.l.length more.c, .int .i64 n, .slice cA cs.length cc] 38)).heap.size = w.heap.size + 1 := by simp
  have hpbo : pb ≠ w.heap.size := by omega
  have hnS : w.heap.size ∉ S := fun hm => by have := hin _ hm; omega
  generalize (w.alloc (.cells #[.int .i64 kind, .string name, .string nto, .slice data.a data.l.length data.c, .slice more.a more.l.length more.c, .int .i64 n, .slice cA cs.length cc] 38)) = wA at *
  have p0 : wA.cell? ⟨pb, 0, none⟩ = some (.pointer (some ⟨b, 0, none⟩)) := hbp.cell 0
  have o0 : wA.cell? ⟨w.heap.size, 0, none⟩ = some (.int .i64 kind) := bO.cell 0
  have o1 : wA.cell? ⟨w.heap.size, 1, none⟩ = some (.string name) := bO.cell 1
  have o2 : wA.cell? ⟨w.heap.size, 2, none⟩ = some (.string nto) := bO.cell 2
  have o3 : wA.cell? ⟨w.heap.size, 3, none⟩ = some (.slice data.a data.l.length data.c) := bO.cell 3
  have o4 : wA.cell? ⟨w.heap.size, 4, none⟩ = some (.slice more.a more.l.length more.c) := bO.cell 4
  have hplA : pb < wA.heap.size := by omega
  have hwlA : w.heap.size < wA.heap.size := by omega
  have HHI := Lib.hid hin
  have HBO := Lib.hid bO
  have HBP := Lib.hid hbp
  clear hbA bO hbp hin
  have o6 : wA.cell? ⟨w.heap.size, 6, none⟩ = some (.slice cA cs.length cc) := HBO.out.cell 6
  obtain ⟨k1, k2, k3, k4, k5, k6⟩ := h1
  have t1 : (kind == 1) = false := by simpa using k1
  have t2 : (kind == 2) = false := by simpa using k2
  have t3 : (kind == 3) = false := by simpa using k3
  have t4 : (kind == 4) = false := by simpa using k4
  have t5 : (kind == 5) = false := by simpa using k5
  have t6 : (kind == 6) = false := by simpa using k6
  clear k1 k2 k3 k4 k5 k6
  have HSC : Hid (cs.length ≤ 60) := HCL.out
  go_upto_region 3 with (fail)
  go_still_tail 6, (by kernel_rfl)
  change wpList _ _ _ _ _ wA.drew
  have HBD : Hid (Below wA.heap.size wA wA.drew) := (Below.refl wA.heap.size wA).drew
  have HPD := Lib.hid (HPA.out.below HBD.out)
  have hBOD : Blk wA.drew w.heap.size _ := HBO.out.stays rfl
  have hpD : pb < wA.drew.heap.size := hplA
  have hcr : ChRow wA.drew cA cs := (HO.out.ok.row.below HBA.out).below HBD.out
  have HCR := Lib.hid hcr
  clear hcr p0 o0 o1 o2 o3 o4 o6 hzA HBO HBP hplA hwlA t1 t2 t3 t4 t5 t6
  generalize wA.drew = wD at *
  go_wp2_with (fail)
  refine (crash_cmd b S _ cA cs cc wD HPD.out.disk HCR.out HO.out.chs HO.out.ok.chs (by have := HSC.out; omega)).mono ?_
  rintro r w2 ⟨rfl, S', hd2, ht2⟩
  have bP2 := HPD.out.blk.stays (ht2.far pb hpD HPD.out.apart).2
  have bO2 := hBOD.stays (ht2.far _ hBOD.inside hnS).2
  have hok2 : (⟨A, c, ⟨⟨steps, left, down⟩, cap, fs⟩⟩ : Rf).ok w2 := ⟨HPD.out.ok.row.stays fun hn a ha => (ht2.far _ (HPD.out.ok.row.inside hn ha) (HPD.out.row hn a ha).1).2, HPD.out.ok.room, HPD.out.ok.few⟩
  have hap2 : pb ∉ S' := (ht2.far pb hpD HPD.out.apart).1
  have hcr2 : ChRow w2 cA cs := HCR.out.later HO.out.chs ht2
  have HTW : Hid (Turn S S' w w2) := ((Turn.below HBA.out).trans (Turn.below HBD.out)).trans ht2
  have HRC := Lib.hid (fun (wx : World) (A2 : Option Addr) (c2 : Nat) (hx : (⟨A, c, ⟨⟨steps, left, down⟩, cap, fs⟩⟩ : Rf).ok wx) (hc : ChRow wx A2 cs) => rcrash_any ⟨A, c, ⟨⟨steps, left, down⟩, cap, fs⟩⟩ A2 cs c2 wx hx HF.out.few hc HO.out.ok.chs (by have := HSC.out; omega) HPD.out.files)
  have HD2 := Lib.hid hd2
  have HOK2 := Lib.hid hok2
  have HAP2 := Lib.hid hap2
  have HCR2 := Lib.hid hcr2
  have HBP2 := Lib.hid bP2
  have HBO2 := Lib.hid bO2
  have o6 : w2.cell? ⟨w.heap.size, 6, none⟩ = some (.slice cA cs.length cc) := bO2.cell 6
  have hp2 : pb < w2.heap.size := bP2.inside
  have hw2 : w.heap.size < w2.heap.size := bO2.inside
  clear hd2 ht2 bP2 bO2 hok2 hap2 hcr2 hBOD hpD HPD HBD HPA HBA HCR
  go_wp2_with (fail)
  go_loopw [6, 23] (fun v i wr => ∃ k : Nat, k ≤ cs.length ∧ i = .int .i64 k ∧ Hid (COwn wr w2.heap.size v (cs.take k)) ∧ Hid (Below w2.heap.size w2 wr)) (fun _ i _ => cs.length - (intOf i).toNat)
  case atStart => exact ⟨0, Nat.zero_le _, rfl, COwn.nil _ _, Below.refl _ _⟩
  case round =>
    obtain ⟨k, hk, rfl, HC, HB⟩ := hrel
    have hkI : (k : Int) ≤ 60 := by have := HSC.out; omega
    by_cases hlt : k < cs.length
    · obtain ⟨cb, co, ca', hcc⟩ := (HCR2.out.below HB.out) (by omega)
      subst ca'
      obtain ⟨q0, q1, q2⟩ := hcc k hlt
      have hcbl : cb < wr.heap.size := World.block_lt_of_cell? wr _ q0
      have hts : cs.take (k + 1) = cs.take k ++ [cs[k]] := List.take_succ_eq_append_getElem hlt
      obtain ⟨z, hz⟩ : ∃ z, z = cs[k] := ⟨_, rfl⟩
      rw [← hz] at q0 q1 q2 hts
      obtain ⟨zk, za, zf⟩ := z
      simp only at q0 q1 q2
      have hki : (k : Int) < (cs.length : Int) := by omega
      have hB1 : Below wr.heap.size wr ((wr.alloc (.cells #[.int .u64 (zk : Nat), .int .u64 (za : Nat), .int .u8 (zf : Nat)] 74)).alloc (.cells #[.int .u64 (zk : Nat), .int .u64 (za : Nat), .int .u8 (zf : Nat)] 76)) := ((Below.refl _ _).alloc (Nat.le_refl _) _).alloc (by simp) _
      obtain ⟨v', w5, run5, own5, hg5⟩ := app_choice ((wr.alloc (.cells #[.int .u64 (zk : Nat), .int .u64 (za : Nat), .int .u8 (zf : Nat)] 74)).alloc (.cells #[.int .u64 (zk : Nat), .int .u64 (za : Nat), .int .u8 (zf : Nat)] 76)) w2.heap.size u6 _ (HC.out.below hB1) (wr.heap.size + 1) 1 ⟨zk, za, zf⟩ (by rw [cell_of_row _ _ 0 _ _ _ (by have := heap_alloc_new (wr.alloc (.cells #[.int .u64 (zk : Nat), .int .u64 (za : Nat), .int .u8 (zf : Nat)] 74)) (.cells #[.int .u64 (zk : Nat), .int .u64 (za : Nat), .int .u8 (zf : Nat)] 76); simpa using this)]; rfl) (by rw [cell_of_row _ _ 1 _ _ _ (by have := heap_alloc_new (wr.alloc (.cells #[.int .u64 (zk : Nat), .int .u64 (za : Nat), .int .u8 (zf : Nat)] 74)) (.cells #[.int .u64 (zk : Nat), .int .u64 (za : Nat), .int .u8 (zf : Nat)] 76); simpa using this)]; rfl) (by rw [cell_of_row _ _ 2 _ _ _ (by have := heap_alloc_new (wr.alloc (.cells #[.int .u64 (zk : Nat), .int .u64 (za : Nat), .int .u8 (zf : Nat)] 74)) (.cells #[.int .u64 (zk : Nat), .int .u64 (za : Nat), .int .u8 (zf : Nat)] 76); simpa using this)]; rfl) (by rw [List.length_take]; omega) (by have := HB.out.size; simp; omega)
      have HB5 : Hid (Below w2.heap.size w2 w5) := (HB.out.trans (hB1.mono HB.out.size)).grown hg5 (by have := HB.out.size; simp; omega) (fun g hg => (HC.out.block hg).1)
      have HC5 : Hid (COwn w5 w2.heap.size v' (cs.take (k + 1))) := by show COwn _ _ _ _; rw [hts]; exact own5
      clear hcc hz hts own5 hg5 hB1
      go_wp2_with (at_builtin; refine wpList_append_run rfl _ _ 75 75 75 rfl rfl _ _ _ _ rfl rfl run5 ?_)
      go_roundw
      case rel => exact ⟨k + 1, by omega, by go_num, HC5.out, HB5.out⟩
      case measure => simp [intOf]; omega
    · have hk' : k = cs.length := by omega
      subst hk'
      rw [List.take_length] at HC
      obtain ⟨A2, c2, rfl, hrow⟩ := HC.out.row
      have HROWC := Lib.hid hrow
      have bP5 := HBP2.out.stays (HB.out.block pb hp2)
      have HBP5 := Lib.hid bP5
      have p1 : wr.cell? ⟨pb, 1, none⟩ = some (.slice A fs.length c) := bP5.cell 1
      have p2 : wr.cell? ⟨pb, 2, none⟩ = some (.int .i64 (cap : Nat)) := bP5.cell 2
      have p3 : wr.cell? ⟨pb, 3, none⟩ = some (.int .i64 (left : Nat)) := bP5.cell 3
      have p4 : wr.cell? ⟨pb, 4, none⟩ = some (.int .i64 (steps : Nat)) := bP5.cell 4
      have p5 : wr.cell? ⟨pb, 5, none⟩ = some (.bool down) := bP5.cell 5
      have hrz := HB.out.size
      unfold Rf.v at HRC
      simp only at HRC
      clear hlt hk hrow bP5
      go_wp2_with (fail)
      refine (HRC.out wr A2 c2 (HOK2.out.below HB.out) HROWC.out).mono ?_
      rintro r w6 ⟨⟨A4, c4, ⟨⟨st4, le4, do4⟩, ca4, fs4⟩⟩, rfl, hok6, hd6, hb6, hn6⟩
      dsimp only at hd6 hn6 ⊢
      have bP6 := HBP5.out.stays (hb6.block pb (by omega))
      have q1 : w6.cell? ⟨pb, 1, none⟩ = some (.slice A fs.length c) := bP6.cell 1
      have q2 : w6.cell? ⟨pb, 2, none⟩ = some (.int .i64 (cap : Nat)) := bP6.cell 2
      have q3 : w6.cell? ⟨pb, 3, none⟩ = some (.int .i64 (left : Nat)) := bP6.cell 3
      have q4 : w6.cell? ⟨pb, 4, none⟩ = some (.int .i64 (steps : Nat)) := bP6.cell 4
      have q5 : w6.cell? ⟨pb, 5, none⟩ = some (.bool down) := bP6.cell 5
      have z1 : w6.frozen? ⟨pb, 1, none⟩ = false := bP6.free 1
      have z2 : w6.frozen? ⟨pb, 2, none⟩ = false := bP6.free 2
      have z3 : w6.frozen? ⟨pb, 3, none⟩ = false := bP6.free 3
      have z4 : w6.frozen? ⟨pb, 4, none⟩ = false := bP6.free 4
      have z5 : w6.frozen? ⟨pb, 5, none⟩ = false := bP6.free 5
      have hrowE : 0 < fs4.length → ∀ a, A4 = some a → a.block ∉ S' ∧ a.block ≠ pb := fun _ a ha => by
        have h4 := hn6 a ha
        exact ⟨fun hm => by have := HD2.out.inside _ hm; omega, by omega⟩
      have HROWE := Lib.hid hrowE
      have HOKE := Lib.hid hok6
      have HBPE := Lib.hid bP6
      have HD3 := Lib.hid hd6
      have HBE := Lib.hid (HB.out.trans (hb6.mono HB.out.size))
      clear p1 p2 p3 p4 p5 hrowE hok6 bP6 hd6 hb6 hn6 hrz HBP5
      go_wp2_with (fail)
      go_ret
      have hdk := (HD2.out.below HBE.out).other (T := [pb]) (T' := [pb]) (((((Turn.set (S := [pb]) (a := ⟨pb, 1, none⟩) (by simp) (.slice A4 fs4.length c4)).trans (Turn.set (a := ⟨pb, 2, none⟩) (by simp) (.int .i64 (ca4 : Nat)))).trans (Turn.set (a := ⟨pb, 3, none⟩) (by simp) (.int .i64 (le4 : Nat)))).trans (Turn.set (a := ⟨pb, 4, none⟩) (by simp) (.int .i64 (st4 : Nat)))).trans (Turn.set (a := ⟨pb, 5, none⟩) (by simp) (.bool do4))) (fun g hg hm => HAP2.out (by rw [List.mem_singleton] at hm; exact hm ▸ hg))
      have htt : Turn (pb :: S') (pb :: S') w6 _ := ((((Turn.set (S := pb :: S') (a := ⟨pb, 1, none⟩) (by simp) (.slice A4 fs4.length c4)).trans (Turn.set (a := ⟨pb, 2, none⟩) (by simp) (.int .i64 (ca4 : Nat)))).trans (Turn.set (a := ⟨pb, 3, none⟩) (by simp) (.int .i64 (le4 : Nat)))).trans (Turn.set (a := ⟨pb, 4, none⟩) (by simp) (.int .i64 (st4 : Nat)))).trans (Turn.set (a := ⟨pb, 5, none⟩) (by simp) (.bool do4))
      refine ⟨rfl, S', ⟨A4, c4, ⟨⟨st4, le4, do4⟩, ca4, fs4⟩⟩, ⟨((((HBPE.out.set 1 _).set 2 _).set 3 _).set 4 _).set 5 _, ?_, ⟨HOKE.out.row.stays fun hn a ha => ?_, HOKE.out.room, HOKE.out.few⟩, HAP2.out, HROWE.out⟩, ((HTW.out.cons pb).trans (Turn.below HBE.out)).trans htt, HD3.out⟩
      · rw [show (⟨A4, c4, ⟨⟨st4, le4, do4⟩, ca4, fs4⟩⟩ : Rf).d = _ from HD3.out]
        exact hdk.1
      · have hne := (HROWE.out hn a ha).2
        rw [heap_setCell_other _ _ _ _ hne, heap_setCell_other _ _ _ _ hne, heap_setCell_other _ _ _ _ hne, heap_setCell_other _ _ _ _ hne, heap_setCell_other _ _ _ _ hne]
end Go.Proofs.Ytpnhgongjfknbaa
