/-
  A disk and the document's beside it: it is armed; it crashes.
-/
import Derived.Test.YtpnhgongjfknbaaPyB0
namespace Go.Proofs.Ytpnhgongjfknbaa
open Go.RowKit omap

set_option maxRecDepth 100000 in
set_option maxHeartbeats 16000000 in
theorem do6_cmd (w : World) (pb b : Nat) (S : List Nat) (x : Rf) (o : Cm) (h : PlayAt w pb b S x) (hf : Fine x.d) (ho : Told w S o) (h6 : o.kind = 6) :
    Calls Try.prog 11 #[.pointer (some ⟨pb, 0, none⟩), .agg o.cells.toArray] w fun e w' => e = .returned (.bool true) ∧ ∃ S' x', PlayAt w' pb b S' x' ∧ Turn (pb :: S) (pb :: S') w w' ∧ x'.d = { x.d with p := { x.d.p with left := if x.d.p.down then x.d.p.left else o.n.toNat } } := by
  have HP := Lib.hid h
  have HF := Lib.hid hf
  have HO := Lib.hid ho
  have hin := h.disk.inside
  have hb := h.blk
  have hsm := smallC_iff.1 ho.small
  obtain ⟨kind, name, nto, data, more, n, cA, cs, cc⟩ := o
  obtain ⟨A, c, d⟩ := x
  obtain ⟨⟨steps, left, down⟩, cap, fs⟩ := d
  unfold Cm.cells Part.v
  simp only at h6 hb hsm ⊢
  subst h6
  obtain ⟨s1, s2, s3, s4, s5⟩ := hsm
  have hpl := hb.inside
  have hbA : Below w.heap.size w (w.alloc (.cells #[.int .i64 6, .string name, .string nto, .slice data.a data.l.length data.c, .slice more.a more.l.length more.c, .int .i64 n, .slice cA cs.length cc] 38)) := (Below.refl _ _).alloc (Nat.le_refl _) _
  have bO : Blk (w.alloc (.cells #[.int .i64 6, .string name, .string nto, .slice data.a data.l.length data.c, .slice more.a more.l.length more.c, .int .i64 n, .slice cA cs.length cc] 38)) w.heap.size [.int .i64 6, .string name, .string nto, .slice data.a data.l.length data.c, .slice more.a more.l.length more.c, .int .i64 n, .slice cA cs.length cc] := blk_new w _ _
  have hbp := hb.stays (hbA.block _ hpl)
  have HPA := Lib.hid (h.below hbA)
  have HBA := Lib.hid hbA
  have HS1 : Hid (name.size ≤ 1000) := by show _ ≤ _; omega
  have HS2 : Hid (nto.size ≤ 1000) := by show _ ≤ _; omega
  have HDL : Hid (data.l.length ≤ 200 ∧ more.l.length ≤ 200) := ⟨s1, s2⟩
  clear h hf ho hb s1 s2 s3 s4 s5
  go_enter Try.func11, Try.ntmps11
  go_upto_region 1 with (fail)
  have hzA : (w.alloc (.cells #[.int .i64 6, .string name, .string nto, .slice data.a data.l.length data.c, .slice more.a more.l.length more.c, .int .i64 n, .slice cA cs.length cc] 38)).heap.size = w.heap.size + 1 := by simp
  have hpbo : pb ≠ w.heap.size := by omega
  have hnS : w.heap.size ∉ S := fun hm => by have := hin _ hm; omega
  generalize (w.alloc (.cells #[.int .i64 6, .string name, .string nto, .slice data.a data.l.length data.c, .slice more.a more.l.length more.c, .int .i64 n, .slice cA cs.length cc] 38)) = wA at *
  have p0 : wA.cell? ⟨pb, 0, none⟩ = some (.pointer (some ⟨b, 0, none⟩)) := hbp.cell 0
  have o0 : wA.cell? ⟨w.heap.size, 0, none⟩ = some (.int .i64 6) := bO.cell 0
  have o1 : wA.cell? ⟨w.heap.size, 1, none⟩ = some (.string name) := bO.cell 1
  have o2 : wA.cell? ⟨w.heap.size, 2, none⟩ = some (.string nto) := bO.cell 2
  have o3 : wA.cell? ⟨w.heap.size, 3, none⟩ = some (.slice data.a data.l.length data.c) := bO.cell 3
  have o4 : wA.cell? ⟨w.heap.size, 4, none⟩ = some (.slice more.a more.l.length more.c) := bO.cell 4
  have hplA : pb < wA.heap.size := by omega
  have hwlA : w.heap.size < wA.heap.size := by omega
  have HHI := Lib.hid hin
  have HBO := Lib.hid bO
  have HBP := Lib.hid hbp
  clear hbA bO hbp hin
  have o5 : wA.cell? ⟨w.heap.size, 5, none⟩ = some (.int .i64 n) := HBO.out.cell 5
  have p3 : wA.cell? ⟨pb, 3, none⟩ = some (.int .i64 (left : Nat)) := HBP.out.cell 3
  have p5 : wA.cell? ⟨pb, 5, none⟩ = some (.bool down) := HBP.out.cell 5
  go_upto_region 23 with (fail)
  go_still_tail 8, (by kernel_rfl)
  change wpList _ _ _ _ _ wA.drew
  have HBD : Hid (Below wA.heap.size wA wA.drew) := (Below.refl wA.heap.size wA).drew
  have HPD := Lib.hid (HPA.out.below HBD.out)
  have hBOD : Blk wA.drew w.heap.size _ := HBO.out.stays rfl
  have hpD : pb < wA.drew.heap.size := hplA
  clear p0 o0 o1 o2 o3 o4 o5 p3 p5 hzA HBO HBP hplA hwlA
  generalize wA.drew = wD at *
  go_wp2_with (fail)
  refine (arm_cmd HPD.out.disk n).mono ?_
  rintro r w2 ⟨rfl, hd2, ht2⟩
  have bP2 := HPD.out.blk.stays (ht2.far pb hpD HPD.out.apart).2
  have bO2 := hBOD.stays (ht2.far _ hBOD.inside hnS).2
  have hok2 : (⟨A, c, ⟨⟨steps, left, down⟩, cap, fs⟩⟩ : Rf).ok w2 := ⟨HPD.out.ok.row.stays fun hn a ha => (ht2.far _ (HPD.out.ok.row.inside hn ha) (HPD.out.row hn a ha).1).2, HPD.out.ok.room, HPD.out.ok.few⟩
  have hrow2 : 0 < fs.length → ∀ a, A = some a → a.block ∉ S ∧ a.block ≠ pb := HPD.out.row
  have HTW : Hid (Turn S S w w2) := ((Turn.below HBA.out).trans (Turn.below HBD.out)).trans ht2
  have HD2 := Lib.hid hd2
  have HOK2 := Lib.hid hok2
  have HROW2 := Lib.hid hrow2
  have HAP2 := Lib.hid HPD.out.apart
  have HBP2 := Lib.hid bP2
  have q3 : w2.cell? ⟨pb, 3, none⟩ = some (.int .i64 (left : Nat)) := bP2.cell 3
  have q5 : w2.cell? ⟨pb, 5, none⟩ = some (.bool down) := bP2.cell 5
  have z3 : w2.frozen? ⟨pb, 3, none⟩ = false := bP2.free 3
  have o5 : w2.cell? ⟨w.heap.size, 5, none⟩ = some (.int .i64 n) := bO2.cell 5
  have hp2 : pb < w2.heap.size := bP2.inside
  have hw2 : w.heap.size < w2.heap.size := bO2.inside
  clear hd2 ht2 bP2 bO2 hok2 hrow2 hBOD hpD HPD HBD HPA HBA
  cases down with
  | true =>
    go_wp2_with (fail)
    go_ret
    exact ⟨rfl, S, ⟨A, c, ⟨⟨steps, left, true⟩, cap, fs⟩⟩, ⟨HBP2.out, HD2.out, HOK2.out, HAP2.out, HROW2.out⟩, HTW.out.cons pb, rfl⟩
  | false =>
    have HXX : Hid (∀ v : Int, v = max n 0 → ∃ S' x', PlayAt (w2.setCell ⟨pb, 3, none⟩ (.int .i64 v)) pb b S' x' ∧ Turn (pb :: S) (pb :: S') w (w2.setCell ⟨pb, 3, none⟩ (.int .i64 v)) ∧ x'.d = ⟨⟨steps, n.toNat, false⟩, cap, fs⟩) := fun v hv => by
      have hm : v = ((n.toNat : Nat) : Int) := by omega
      subst hm
      refine ⟨S, ⟨A, c, ⟨⟨steps, n.toNat, false⟩, cap, fs⟩⟩, ⟨HBP2.out.set 3 _, (HD2.out.other (T := [pb]) (T' := [pb]) (Turn.set (by simp) _) (fun g hg hm => HAP2.out (by rw [List.mem_singleton] at hm; exact hm ▸ hg))).1, ⟨HOK2.out.row.stays fun hn a ha => ?_, HOK2.out.room, HOK2.out.few⟩, HAP2.out, HROW2.out⟩, (HTW.out.cons pb).trans (Turn.set (by simp) _), rfl⟩
      exact heap_setCell_other _ _ _ _ (HROW2.out hn a ha).2
    go_wp2_with (fail)
    all_goals go_ret
    all_goals exact ⟨rfl, HXX.out _ (by omega)⟩
end Go.Proofs.Ytpnhgongjfknbaa
