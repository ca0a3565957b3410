/-
  A disk and the document's beside it: a command told to both.
-/
import Derived.Test.YtpnhgongjfknbaaPyB0
import Derived.Deep.RegionHeld3
import Derived.Deep.DeepCutAuto
import Derived.Deep.CutBlock
import Derived.Laws.Concat
namespace Go.Proofs.Ytpnhgongjfknbaa
open Go.RowKit omap

set_option maxRecDepth 100000 in
set_option maxHeartbeats 16000000 in
theorem do_cmd (w : World) (pb b : Nat) (S : List Nat) (x : Rf) (o : Cm) (h : PlayAt w pb b S x) (hf : Fine x.d) (ho : Told w S o) (h1 : 1 ≤ o.kind) (h2 : o.kind ≤ 5) :
    Calls Try.prog 11 #[.pointer (some ⟨pb, 0, none⟩), .agg o.cells.toArray] w fun e w' => e = .returned (.bool true) ∧ ∃ S' x', PlayAt w' pb b S' x' ∧ Turn (pb :: S) (pb :: S') w w' ∧ x'.d = (doS o.kind o.name.data.toList o.«to».data.toList (o.data.l ++ o.more.l) x.d).2 := by
  have HP := Lib.hid h
  have HF := Lib.hid hf
  have HO := Lib.hid ho
  have hin := h.disk.inside
  have hb := h.blk
  have hsm := smallC_iff.1 ho.small
  obtain ⟨kind, name, nto, data, more, n, cA, cs, cc⟩ := o
  obtain ⟨A, c, d⟩ := x
  obtain ⟨⟨steps, left, down⟩, cap, fs⟩ := d
  unfold Cm.cells Part.v
  simp only at h1 h2 hb hsm ⊢
  obtain ⟨s1, s2, s3, s4, s5⟩ := hsm
  have hpl := hb.inside
  have hbA : Below w.heap.size w (w.alloc (.cells #[.int .i64 kind, .string name, .string nto, .slice data.a data.l.length data.c, .slice more.a more.l.length more.c, .int .i64 n, .slice cA cs.length cc] 38)) := (Below.refl _ _).alloc (Nat.le_refl _) _
  have bO : Blk (w.alloc (.cells #[.int .i64 kind, .string name, .string nto, .slice data.a data.l.length data.c, .slice more.a more.l.length more.c, .int .i64 n, .slice cA cs.length cc] 38)) w.heap.size [.int .i64 kind, .string name, .string nto, .slice data.a data.l.length data.c, .slice more.a more.l.length more.c, .int .i64 n, .slice cA cs.length cc] := blk_new w _ _
  have hbp := hb.stays (hbA.block _ hpl)
  have HPA := Lib.hid (h.below hbA)
  have HBA := Lib.hid hbA
  have HS1 : Hid (name.size ≤ 1000) := by show _ ≤ _; omega
  have HS2 : Hid (nto.size ≤ 1000) := by show _ ≤ _; omega
  have HDL : Hid (data.l.length ≤ 200 ∧ more.l.length ≤ 200) := ⟨s1, s2⟩
  have hnu : natsOf (strOf data.l ++ strOf more.l) = data.l ++ more.l := by rw [natsOf_append, natsOf_strOf ho.ok.data.bytes, natsOf_strOf ho.ok.more.bytes]
  have hsu : (strOf data.l ++ strOf more.l).size ≤ 1000000 := by rw [ByteArray.size_append, strOf_size, strOf_size]; omega
  have hDO := fun (wx : World) (hx : (⟨A, c, ⟨⟨steps, left, down⟩, cap, fs⟩⟩ : Rf).ok wx) => rdo_any ⟨A, c, ⟨⟨steps, left, down⟩, cap, fs⟩⟩ kind name nto (strOf data.l ++ strOf more.l) wx hx hf.few h1 h2 h.disk.rises (fun y hy => ⟨(h.files y hy).1, by have := (h.files y hy).2.1; omega⟩) hsu HS1.out HS2.out hf.cap h.disk.room hf.steps hf.left
  rw [hnu] at hDO
  unfold Rf.v opV at hDO
  simp only at hDO
  have HDO := Lib.hid hDO
  clear h hf ho hb s1 s2 s3 s4 s5 hnu hsu hDO
  go_enter Try.func11, Try.ntmps11
  go_upto_region 1 with (fail)
  have hzA : (w.alloc (.cells #[.int .i64 kind, .string name, .string nto, .slice data.a data.l.length data.c, .slice more.a more.l.length more.c, .int .i64 n, .slice cA cs.length cc] 38)).heap.size = w.heap.size + 1 := by simp
  have hpbo : pb ≠ w.heap.size := by omega
  have hnS : w.heap.size ∉ S := fun hm => by have := hin _ hm; omega
  have HRES : Hid (∀ r : Int × Dk, r = doS kind name.data.toList nto.data.toList (data.l ++ more.l) ⟨⟨steps, left, down⟩, cap, fs⟩ → doS kind name.data.toList nto.data.toList (data.l ++ more.l) ⟨⟨steps, left, down⟩, cap, fs⟩ = r) := fun r h => h.symm
  generalize (w.alloc (.cells #[.int .i64 kind, .string name, .string nto, .slice data.a data.l.length data.c, .slice more.a more.l.length more.c, .int .i64 n, .slice cA cs.length cc] 38)) = wA at *
  have p0 : wA.cell? ⟨pb, 0, none⟩ = some (.pointer (some ⟨b, 0, none⟩)) := hbp.cell 0
  have o0 : wA.cell? ⟨w.heap.size, 0, none⟩ = some (.int .i64 kind) := bO.cell 0
  have o1 : wA.cell? ⟨w.heap.size, 1, none⟩ = some (.string name) := bO.cell 1
  have o2 : wA.cell? ⟨w.heap.size, 2, none⟩ = some (.string nto) := bO.cell 2
  have o3 : wA.cell? ⟨w.heap.size, 3, none⟩ = some (.slice data.a data.l.length data.c) := bO.cell 3
  have o4 : wA.cell? ⟨w.heap.size, 4, none⟩ = some (.slice more.a more.l.length more.c) := bO.cell 4
  have hplA : pb < wA.heap.size := by omega
  have hwlA : w.heap.size < wA.heap.size := by omega
  have HHI := Lib.hid hin
  have HBO := Lib.hid bO
  have HBP := Lib.hid hbp
  clear hbA bO hbp hin
  have hspec : doS kind name.data.toList nto.data.toList (data.l ++ more.l) ⟨⟨steps, left, down⟩, cap, fs⟩ = doS kind name.data.toList nto.data.toList (data.l ++ more.l) ⟨⟨steps, left, down⟩, cap, fs⟩ := rfl
  clear hspec HRES
  have HK12 : Hid (1 ≤ kind ∧ kind ≤ 5) := ⟨h1, h2⟩
  clear h1 h2
  go_upto_block 0 with (fail)
  go_cut [5] (fun e wx => ∃ (S' : List Nat) (E : Int × Dk), e = .int .i64 E.1 ∧ Hid (E = doS kind name.data.toList nto.data.toList (data.l ++ more.l) ⟨⟨steps, left, down⟩, cap, fs⟩) ∧ Hid (DiskAt wx b S' E.2) ∧ Hid (Turn S S' wA wx))
  case first =>
    rcases (show kind = 1 ∨ kind = 2 ∨ kind = 3 ∨ kind = 4 ∨ kind = 5 by have := HK12.out; omega) with hk | hk | hk | hk | hk
    · subst hk
      go_upto_region 13 with (fail)
      go_still_tail 6, (by kernel_rfl)
      change wpList _ _ _ _ _ wA.drew
      have HBD : Hid (Below wA.heap.size wA wA.drew) := (Below.refl wA.heap.size wA).drew
      have HPD := Lib.hid (HPA.out.below HBD.out)
      clear p0 o0 o1 o2 o3 o4 hzA HBO HBP hplA hwlA
      generalize wA.drew = wD at *
      go_wp2_with (fail)
      refine (create_cmd b S _ name wD HPD.out.disk HS1.out HF.out.steps HF.out.left).mono ?_
      rintro r w2 ⟨rfl, S', hd2, ht2⟩
      rw [← doS_1 name.data.toList nto.data.toList (data.l ++ more.l)] at hd2 ⊢
      have HD2 := Lib.hid hd2
      have HT2 : Hid (Turn S S' wA w2) := (Turn.below HBD.out).trans ht2
      clear hd2 ht2
      go_wp2_with (fail)
      go_meet
      exact ⟨S', _, rfl, rfl, HD2.out, HT2.out⟩
    · subst hk
      go_upto_region 15 with (fail)
      have hBp : Below wA.heap.size wA (wA.alloc (.cells #[.slice data.a data.l.length data.c, .slice more.a more.l.length more.c] 35)).drew := ((Below.refl _ _).alloc (Nat.le_refl _) _).drew
      have hBd : Below wA.heap.size wA wA.drew := (Below.refl _ _).drew
      have hBa : Below wA.heap.size wA (wA.alloc (.cells #[.slice data.a data.l.length data.c, .slice more.a more.l.length more.c] 35)) := (Below.refl _ _).alloc (Nat.le_refl _) _
      have hSA : ∀ w', Below wA.heap.size wA w' → w'.cell? ⟨pb, 0, none⟩ = some (.pointer (some ⟨b, 0, none⟩)) ∧ w'.cell? ⟨w.heap.size, 1, none⟩ = some (.string name) ∧ w'.cell? ⟨w.heap.size, 3, none⟩ = some (.slice data.a data.l.length data.c) ∧ w'.cell? ⟨w.heap.size, 4, none⟩ = some (.slice more.a more.l.length more.c) := fun w' hb => ⟨(hb.cell (p := ⟨pb, 0, none⟩) hplA).trans p0, (hb.cell (p := ⟨w.heap.size, 1, none⟩) hwlA).trans o1, (hb.cell (p := ⟨w.heap.size, 3, none⟩) hwlA).trans o3, (hb.cell (p := ⟨w.heap.size, 4, none⟩) hwlA).trans o4⟩
      have hSB : ∀ S' w', Turn S S' (wA.alloc (.cells #[.slice data.a data.l.length data.c, .slice more.a more.l.length more.c] 35)).drew w' → w'.cell? ⟨pb, 0, none⟩ = some (.pointer (some ⟨b, 0, none⟩)) ∧ w'.cell? ⟨w.heap.size, 1, none⟩ = some (.string name) ∧ w'.cell? ⟨w.heap.size, 3, none⟩ = some (.slice data.a data.l.length data.c) ∧ w'.cell? ⟨w.heap.size, 4, none⟩ = some (.slice more.a more.l.length more.c) := fun S' w' ht => by
        obtain ⟨e0, e1, e2, e3⟩ := hSA _ hBp
        have f1 := (ht.far pb (Nat.lt_of_lt_of_le hplA hBp.size) HPA.out.apart).2
        have f2 := (ht.far w.heap.size (Nat.lt_of_lt_of_le hwlA hBp.size) hnS).2
        exact ⟨(World.cell?_of_block (a := ⟨pb, 0, none⟩) f1).trans e0, (World.cell?_of_block (a := ⟨w.heap.size, 1, none⟩) f2).trans e1, (World.cell?_of_block (a := ⟨w.heap.size, 3, none⟩) f2).trans e2, (World.cell?_of_block (a := ⟨w.heap.size, 4, none⟩) f2).trans e3⟩
      have hpr : Row Part.v (wA.alloc (.cells #[.slice data.a data.l.length data.c, .slice more.a more.l.length more.c] 35)).drew (some ⟨wA.heap.size, 0, none⟩) [data, more] := Row.below (parts_new wA [data, more] 35) (Below.refl _ _).drew
      have hw : Below w.heap.size w (wA.alloc (.cells #[.slice data.a data.l.length data.c, .slice more.a more.l.length more.c] 35)).drew := HBA.out.trans (hBp.mono HBA.out.size)
      have hap := append_cmd b S (⟨⟨steps, left, down⟩, cap, fs⟩ : Dk) name (some ⟨wA.heap.size, 0, none⟩) [data, more] 2 _ (HPA.out.disk.below hBp) HS1.out HF.out.steps HF.out.left hpr (apart_new HPA.out.disk (Nat.le_refl _) _) (fun q hq => by
        rcases List.mem_cons.1 hq with rfl | hq
        · exact ⟨HO.out.ok.data.below hw, HO.out.data⟩
        · obtain rfl := List.mem_singleton.1 hq
          exact ⟨HO.out.ok.more.below hw, HO.out.more⟩) (by simp)
      rw [show flat [data, more] = data.l ++ more.l by simp [flat]] at hap
      have HAP := Lib.hid hap
      have HSA := Lib.hid hSA
      have HSB := Lib.hid hSB
      have HBp := Lib.hid hBp
      clear hap hSA hSB hpr hw hzA
      go_region_held3 (fun w' => w'.cell? ⟨pb, 0, none⟩ = some (.pointer (some ⟨b, 0, none⟩)) ∧ w'.cell? ⟨w.heap.size, 1, none⟩ = some (.string name) ∧ w'.cell? ⟨w.heap.size, 3, none⟩ = some (.slice data.a data.l.length data.c) ∧ w'.cell? ⟨w.heap.size, 4, none⟩ = some (.slice more.a more.l.length more.c))
        (first | with_reducible exact HSA.out _ hBd | with_reducible exact HSA.out _ hBp | with_reducible exact HSA.out _ hBa | with_reducible exact HSB.out _ _ ht2 | go_keep)
        ((first | (go_at_call 25; refine HAP.out.mono ?_; rintro r w2 ⟨rfl, S', hd2, ht2⟩)))
      have HD2 := Lib.hid hd2
      have HT2 : Hid (Turn S S' wA w2) := (Turn.below HBp.out).trans ht2
      have hE2 : Hid (cmdS (writeS cap name.data.toList (data.l ++ more.l)) (writeS cap name.data.toList (data.l ++ more.l)) ⟨⟨steps, left, down⟩, cap, fs⟩ = doS 2 name.data.toList nto.data.toList (data.l ++ more.l) ⟨⟨steps, left, down⟩, cap, fs⟩) := (doS_2 _ _ _ _).symm
      clear hd2 ht2
      go_wp2_with (fail)
      go_meet
      exact ⟨S', _, rfl, hE2.out, HD2.out, HT2.out⟩
    · subst hk
      go_upto_region 17 with (fail)
      go_still_tail 6, (by kernel_rfl)
      change wpList _ _ _ _ _ wA.drew
      have HBD : Hid (Below wA.heap.size wA wA.drew) := (Below.refl wA.heap.size wA).drew
      have HPD := Lib.hid (HPA.out.below HBD.out)
      clear p0 o0 o1 o2 o3 o4 hzA HBO HBP hplA hwlA
      generalize wA.drew = wD at *
      go_wp2_with (fail)
      refine (sync_cmd b S _ name wD HPD.out.disk HS1.out HF.out.steps HF.out.left).mono ?_
      rintro r w2 ⟨rfl, S', hd2, ht2⟩
      rw [← doS_3 name.data.toList nto.data.toList (data.l ++ more.l)] at hd2 ⊢
      have HD2 := Lib.hid hd2
      have HT2 : Hid (Turn S S' wA w2) := (Turn.below HBD.out).trans ht2
      clear hd2 ht2
      go_wp2_with (fail)
      go_meet
      exact ⟨S', _, rfl, rfl, HD2.out, HT2.out⟩
    · subst hk
      go_upto_region 19 with (fail)
      go_still_tail 6, (by kernel_rfl)
      change wpList _ _ _ _ _ wA.drew
      have HBD : Hid (Below wA.heap.size wA wA.drew) := (Below.refl wA.heap.size wA).drew
      have HPD := Lib.hid (HPA.out.below HBD.out)
      clear p0 o0 o1 o2 o3 o4 hzA HBO HBP hplA hwlA
      generalize wA.drew = wD at *
      go_wp2_with (fail)
      refine (remove_cmd b S _ name wD HPD.out.disk HS1.out HF.out.steps HF.out.left).mono ?_
      rintro r w2 ⟨rfl, S', hd2, ht2⟩
      rw [← doS_4 name.data.toList nto.data.toList (data.l ++ more.l)] at hd2 ⊢
      have HD2 := Lib.hid hd2
      have HT2 : Hid (Turn S S' wA w2) := (Turn.below HBD.out).trans ht2
      clear hd2 ht2
      go_wp2_with (fail)
      go_meet
      exact ⟨S', _, rfl, rfl, HD2.out, HT2.out⟩
    · subst hk
      go_upto_region 21 with (fail)
      go_still_tail 8, (by kernel_rfl)
      change wpList _ _ _ _ _ wA.drew
      have HBD : Hid (Below wA.heap.size wA wA.drew) := (Below.refl wA.heap.size wA).drew
      have HPD := Lib.hid (HPA.out.below HBD.out)
      clear p0 o0 o1 o2 o3 o4 hzA HBO HBP hplA hwlA
      generalize wA.drew = wD at *
      go_wp2_with (fail)
      refine (rename_cmd b S _ name nto wD HPD.out.disk HS1.out HS2.out HF.out.steps HF.out.left).mono ?_
      rintro r w2 ⟨rfl, S', hd2, ht2⟩
      rw [← doS_5 name.data.toList nto.data.toList (data.l ++ more.l)] at hd2 ⊢
      have HD2 := Lib.hid hd2
      have HT2 : Hid (Turn S S' wA w2) := (Turn.below HBD.out).trans ht2
      clear hd2 ht2
      go_wp2_with (fail)
      go_meet
      exact ⟨S', _, rfl, rfl, HD2.out, HT2.out⟩
  case rest =>
    obtain ⟨S', E, rfl, hE, hd2, ht2⟩ := hcut
    have HE := Lib.hid hE.out
    have hDO2 := HDO.out
    rw [← HE.out] at hDO2
    have HDO := Lib.hid hDO2
    have ht2 := ht2.out
    have bP2 := HBP.out.stays (ht2.far pb hplA HPA.out.apart).2
    have bO2 := HBO.out.stays (ht2.far _ hwlA hnS).2
    have hok2 : (⟨A, c, ⟨⟨steps, left, down⟩, cap, fs⟩⟩ : Rf).ok wc := ⟨HPA.out.ok.row.stays fun hn a ha => (ht2.far _ (HPA.out.ok.row.inside hn ha) (HPA.out.row hn a ha).1).2, HPA.out.ok.room, HPA.out.ok.few⟩
    have hap2 : pb ∉ S' := (ht2.far pb hplA HPA.out.apart).1
    have hrow2 : 0 < fs.length → ∀ a, A = some a → a.block ∉ S' ∧ a.block ≠ pb := fun hn a ha => ⟨(ht2.far _ (HPA.out.ok.row.inside hn ha) (HPA.out.row hn a ha).1).1, (HPA.out.row hn a ha).2⟩
    have hdat : data.ok wc := ⟨HO.out.ok.data.room, HO.out.ok.data.max, Apart.row (HO.out.ok.data.at_.below HBA.out) HO.out.data ht2, HO.out.ok.data.bytes⟩
    have hmor : more.ok wc := ⟨HO.out.ok.more.room, HO.out.ok.more.max, Apart.row (HO.out.ok.more.at_.below HBA.out) HO.out.more ht2, HO.out.ok.more.bytes⟩
    have HTW : Hid (Turn S S' w wc) := (Turn.below HBA.out).trans ht2
    have HD2 := Lib.hid hd2.out
    have HOK2 := Lib.hid hok2
    have HAP2 := Lib.hid hap2
    have HROW2 := Lib.hid hrow2
    have HDAT := Lib.hid hdat
    have HMOR := Lib.hid hmor
    have hz3 : w.heap.size < wc.heap.size := Nat.lt_of_lt_of_le hwlA ht2.size
    have hp3 : pb < wc.heap.size := Nat.lt_of_lt_of_le hplA ht2.size
    have HBO2 := Lib.hid bO2
    have HBP2 := Lib.hid bP2
    clear hE hDO2 hd2 ht2 hok2 hap2 hrow2 hdat hmor bP2 bO2 p0 o0 o1 o2 o3 o4 hzA HBA HPA HBO HBP hplA hwlA hnS HHI
    go_upto_region 27 with (fail)
    have HSK : Hid (∀ w', Below wc.heap.size wc w' → w'.cell? ⟨pb, 1, none⟩ = some (.slice A fs.length c) ∧ w'.cell? ⟨pb, 2, none⟩ = some (.int .i64 (cap : Nat)) ∧ w'.cell? ⟨pb, 3, none⟩ = some (.int .i64 (left : Nat)) ∧ w'.cell? ⟨pb, 4, none⟩ = some (.int .i64 (steps : Nat)) ∧ w'.cell? ⟨pb, 5, none⟩ = some (.bool down) ∧ w'.cell? ⟨w.heap.size, 0, none⟩ = some (.int .i64 kind) ∧ w'.cell? ⟨w.heap.size, 1, none⟩ = some (.string name) ∧ w'.cell? ⟨w.heap.size, 2, none⟩ = some (.string nto) ∧ w'.cell? ⟨w.heap.size, 3, none⟩ = some (.slice data.a data.l.length data.c) ∧ w'.cell? ⟨w.heap.size, 4, none⟩ = some (.slice more.a more.l.length more.c) ∧ (convert 35 9 (.slice data.a data.l.length data.c)).run Try.prog w' = .ok (.string (strOf data.l)) w' ∧ (convert 35 9 (.slice more.a more.l.length more.c)).run Try.prog w' = .ok (.string (strOf more.l)) w') := fun w' hb => ⟨(hb.cell (p := ⟨pb, 1, none⟩) hp3).trans (HBP2.out.cell 1), (hb.cell (p := ⟨pb, 2, none⟩) hp3).trans (HBP2.out.cell 2), (hb.cell (p := ⟨pb, 3, none⟩) hp3).trans (HBP2.out.cell 3), (hb.cell (p := ⟨pb, 4, none⟩) hp3).trans (HBP2.out.cell 4), (hb.cell (p := ⟨pb, 5, none⟩) hp3).trans (HBP2.out.cell 5), (hb.cell (p := ⟨w.heap.size, 0, none⟩) hz3).trans (HBO2.out.cell 0), (hb.cell (p := ⟨w.heap.size, 1, none⟩) hz3).trans (HBO2.out.cell 1), (hb.cell (p := ⟨w.heap.size, 2, none⟩) hz3).trans (HBO2.out.cell 2), (hb.cell (p := ⟨w.heap.size, 3, none⟩) hz3).trans (HBO2.out.cell 3), (hb.cell (p := ⟨w.heap.size, 4, none⟩) hz3).trans (HBO2.out.cell 4), conv_str w' data.a data.l data.c (HDAT.out.below hb).at_, conv_str w' more.a more.l more.c (HMOR.out.below hb).at_⟩
    obtain ⟨f0, f1, f2, f3, f4, f5, f6, f7, f8, f9, f10, f11⟩ := HSK.out wc (Below.refl _ _)
    have hl1 : (strOf data.l).size ≤ 200 := by rw [strOf_size]; exact HDL.out.1
    have hl2 : (strOf more.l).size ≤ 200 := by rw [strOf_size]; exact HDL.out.2
    have hl6 : ¬ (9223372036854775807 < (strOf data.l).size + (strOf more.l).size) := by omega
    have hl7 : (strOf data.l).size + (strOf more.l).size ≤ 9223372036854775807 := by omega
    have hadd : ∀ w', (Op.stringOp .add (strOf data.l) (strOf more.l)).run Try.prog w' = .ok (.string (strOf data.l ++ strOf more.l)) w' := fun w' => run_string_add_sum w' _ _ hl7
    have hbW : Below wc.heap.size wc wc.drew := (Below.refl _ _).drew
    have hbZ : Below wc.heap.size wc (wc.alloc (.cells #[.slice none 0 0, .int .i64 0, .int .i64 0, .int .i64 0, .bool false] 32)).drew := ((Below.refl _ _).alloc (Nat.le_refl _) _).drew
    go_region_held3 (fun w' => w'.cell? ⟨pb, 1, none⟩ = some (.slice A fs.length c) ∧ w'.cell? ⟨pb, 2, none⟩ = some (.int .i64 (cap : Nat)) ∧ w'.cell? ⟨pb, 3, none⟩ = some (.int .i64 (left : Nat)) ∧ w'.cell? ⟨pb, 4, none⟩ = some (.int .i64 (steps : Nat)) ∧ w'.cell? ⟨pb, 5, none⟩ = some (.bool down) ∧ w'.cell? ⟨w.heap.size, 0, none⟩ = some (.int .i64 kind) ∧ w'.cell? ⟨w.heap.size, 1, none⟩ = some (.string name) ∧ w'.cell? ⟨w.heap.size, 2, none⟩ = some (.string nto) ∧ w'.cell? ⟨w.heap.size, 3, none⟩ = some (.slice data.a data.l.length data.c) ∧ w'.cell? ⟨w.heap.size, 4, none⟩ = some (.slice more.a more.l.length more.c) ∧ (convert 35 9 (.slice data.a data.l.length data.c)).run Try.prog w' = .ok (.string (strOf data.l)) w' ∧ (convert 35 9 (.slice more.a more.l.length more.c)).run Try.prog w' = .ok (.string (strOf more.l)) w')
      (first | with_reducible exact HSK.out _ hbW | with_reducible exact HSK.out _ hbZ | with_reducible exact HSK.out _ hb3x | with_reducible exact HSK.out _ (hb3x.alloc hb3x.size _) | with_reducible exact HSK.out _ (((((hb3x.setCell (p := ⟨wc.heap.size, 0, none⟩) (Nat.le_refl _) _).setCell (p := ⟨wc.heap.size, 1, none⟩) (Nat.le_refl _) _).setCell (p := ⟨wc.heap.size, 2, none⟩) (Nat.le_refl _) _).setCell (p := ⟨wc.heap.size, 3, none⟩) (Nat.le_refl _) _).setCell (p := ⟨wc.heap.size, 4, none⟩) (Nat.le_refl _) _) | with_reducible exact HSK.out _ (hb3x.alloc hb3x.size _).drew | with_reducible exact HSK.out _ (((((hb3x.setCell (p := ⟨wc.heap.size, 0, none⟩) (Nat.le_refl _) _).setCell (p := ⟨wc.heap.size, 1, none⟩) (Nat.le_refl _) _).setCell (p := ⟨wc.heap.size, 2, none⟩) (Nat.le_refl _) _).setCell (p := ⟨wc.heap.size, 3, none⟩) (Nat.le_refl _) _).setCell (p := ⟨wc.heap.size, 4, none⟩) (Nat.le_refl _) _).drew | go_keep)
      ((first
        | (go_at_call 33; refine (HDO.out _ (HOK2.out.below ((Below.refl _ _).drew))).mono ?_; rintro e w3 ⟨⟨A4, c4, ⟨⟨st4, le4, do4⟩, ca4, fs4⟩⟩, rfl, hok3, hd3, hb3, hn3⟩; dsimp only at hd3 hn3 ⊢; have hb3x : Below wc.heap.size wc w3 := hbW.trans hb3)
        | (go_at_call 33; refine (HDO.out _ (HOK2.out.below (((Below.refl _ _).alloc (Nat.le_refl _) _).drew))).mono ?_; rintro e w3 ⟨⟨A4, c4, ⟨⟨st4, le4, do4⟩, ca4, fs4⟩⟩, rfl, hok3, hd3, hb3, hn3⟩; dsimp only at hd3 hn3 ⊢; have hb3x : Below wc.heap.size wc w3 := hbZ.trans (hb3.mono (by simp)); have bZ : Blk w3 wc.heap.size [.slice none 0 0, .int .i64 0, .int .i64 0, .int .i64 0, .bool false] := (blk_new wc _ 32).stays (hb3.block _ (by simp)); have y0 : w3.cell? ⟨wc.heap.size, 0, none⟩ = some (.slice none 0 0) := bZ.cell 0; have v0 : w3.frozen? ⟨wc.heap.size, 0, none⟩ = false := bZ.free 0; have y1 : w3.cell? ⟨wc.heap.size, 1, none⟩ = some (.int .i64 0) := bZ.cell 1; have v1 : w3.frozen? ⟨wc.heap.size, 1, none⟩ = false := bZ.free 1; have y2 : w3.cell? ⟨wc.heap.size, 2, none⟩ = some (.int .i64 0) := bZ.cell 2; have v2 : w3.frozen? ⟨wc.heap.size, 2, none⟩ = false := bZ.free 2; have y3 : w3.cell? ⟨wc.heap.size, 3, none⟩ = some (.int .i64 0) := bZ.cell 3; have v3 : w3.frozen? ⟨wc.heap.size, 3, none⟩ = false := bZ.free 3; have y4 : w3.cell? ⟨wc.heap.size, 4, none⟩ = some (.bool false) := bZ.cell 4; have v4 : w3.frozen? ⟨wc.heap.size, 4, none⟩ = false := bZ.free 4)))
    all_goals
      have hrowE : 0 < fs4.length → ∀ a, A4 = some a → a.block ∉ S' ∧ a.block ≠ pb := fun hn a ha => by
        rcases hn3 with ⟨e1, e2⟩ | hn4
        · exact HROW2.out (by rw [← e2]; exact hn) a (by rw [← e1]; exact ha)
        · have h4 := hn4 a ha
          have h5 : wc.heap.size ≤ a.block := by first | exact h4 | (simp at h4; omega)
          exact ⟨fun hm => by have := HD2.out.inside _ hm; omega, by omega⟩
      have HROWE := Lib.hid hrowE
      have HD3 := Lib.hid hd3
      clear hrowE
      first
      | (change Exit.then _ _ Exit.normal _ (w3.alloc (.cells #[.slice A4 fs4.length c4, .int .i64 (ca4 : Nat), .int .i64 (le4 : Nat), .int .i64 (st4 : Nat), .bool do4] 32))
         have bX : Blk (w3.alloc (.cells #[.slice A4 fs4.length c4, .int .i64 (ca4 : Nat), .int .i64 (le4 : Nat), .int .i64 (st4 : Nat), .bool do4] 32)) w3.heap.size [.slice A4 fs4.length c4, .int .i64 (ca4 : Nat), .int .i64 (le4 : Nat), .int .i64 (st4 : Nat), .bool do4] := blk_new w3 _ _
         have hBE : Below wc.heap.size wc (w3.alloc (.cells #[.slice A4 fs4.length c4, .int .i64 (ca4 : Nat), .int .i64 (le4 : Nat), .int .i64 (st4 : Nat), .bool do4] 32)) := hb3x.alloc hb3x.size _
         have hokE : (⟨A4, c4, ⟨⟨st4, le4, do4⟩, ca4, fs4⟩⟩ : Rf).ok (w3.alloc (.cells #[.slice A4 fs4.length c4, .int .i64 (ca4 : Nat), .int .i64 (le4 : Nat), .int .i64 (st4 : Nat), .bool do4] 32)) := hok3.below ((Below.refl _ _).alloc (Nat.le_refl _) _)
         have hg5 : wc.heap.size ≤ w3.heap.size := by first | exact Nat.le_refl _ | exact hb3x.size
         clear hb3x hok3 hb3
         generalize (w3.alloc (.cells #[.slice A4 fs4.length c4, .int .i64 (ca4 : Nat), .int .i64 (le4 : Nat), .int .i64 (st4 : Nat), .bool do4] 32)) = wE at *
         generalize hge : w3.heap.size = g5 at bX hg5 ⊢
         clear hge)
      | (change Exit.then _ _ Exit.normal _ (((((w3.setCell ⟨wc.heap.size, 0, none⟩ (.slice A4 fs4.length c4)).setCell ⟨wc.heap.size, 1, none⟩ (.int .i64 (ca4 : Nat))).setCell ⟨wc.heap.size, 2, none⟩ (.int .i64 (le4 : Nat))).setCell ⟨wc.heap.size, 3, none⟩ (.int .i64 (st4 : Nat))).setCell ⟨wc.heap.size, 4, none⟩ (.bool do4))
         have bX : Blk (((((w3.setCell ⟨wc.heap.size, 0, none⟩ (.slice A4 fs4.length c4)).setCell ⟨wc.heap.size, 1, none⟩ (.int .i64 (ca4 : Nat))).setCell ⟨wc.heap.size, 2, none⟩ (.int .i64 (le4 : Nat))).setCell ⟨wc.heap.size, 3, none⟩ (.int .i64 (st4 : Nat))).setCell ⟨wc.heap.size, 4, none⟩ (.bool do4)) wc.heap.size [.slice A4 fs4.length c4, .int .i64 (ca4 : Nat), .int .i64 (le4 : Nat), .int .i64 (st4 : Nat), .bool do4] := (((((bZ.set 0 (.slice A4 fs4.length c4)).set 1 (.int .i64 (ca4 : Nat))).set 2 (.int .i64 (le4 : Nat))).set 3 (.int .i64 (st4 : Nat))).set 4 (.bool do4))
         have hBE : Below wc.heap.size wc (((((w3.setCell ⟨wc.heap.size, 0, none⟩ (.slice A4 fs4.length c4)).setCell ⟨wc.heap.size, 1, none⟩ (.int .i64 (ca4 : Nat))).setCell ⟨wc.heap.size, 2, none⟩ (.int .i64 (le4 : Nat))).setCell ⟨wc.heap.size, 3, none⟩ (.int .i64 (st4 : Nat))).setCell ⟨wc.heap.size, 4, none⟩ (.bool do4)) := (((((hb3x.setCell (p := ⟨wc.heap.size, 0, none⟩) (Nat.le_refl _) (.slice A4 fs4.length c4)).setCell (p := ⟨wc.heap.size, 1, none⟩) (Nat.le_refl _) (.int .i64 (ca4 : Nat))).setCell (p := ⟨wc.heap.size, 2, none⟩) (Nat.le_refl _) (.int .i64 (le4 : Nat))).setCell (p := ⟨wc.heap.size, 3, none⟩) (Nat.le_refl _) (.int .i64 (st4 : Nat))).setCell (p := ⟨wc.heap.size, 4, none⟩) (Nat.le_refl _) (.bool do4))
         have hokE : (⟨A4, c4, ⟨⟨st4, le4, do4⟩, ca4, fs4⟩⟩ : Rf).ok (((((w3.setCell ⟨wc.heap.size, 0, none⟩ (.slice A4 fs4.length c4)).setCell ⟨wc.heap.size, 1, none⟩ (.int .i64 (ca4 : Nat))).setCell ⟨wc.heap.size, 2, none⟩ (.int .i64 (le4 : Nat))).setCell ⟨wc.heap.size, 3, none⟩ (.int .i64 (st4 : Nat))).setCell ⟨wc.heap.size, 4, none⟩ (.bool do4)) := ⟨hok3.row.stays fun hn a ha => by
           have hne : a.block ≠ wc.heap.size := by
             rcases hn3 with ⟨e1, e2⟩ | hn4
             · have := HOK2.out.row.inside (by simp only at hn ⊢; rw [← e2]; exact hn) (by simp only at ha ⊢; rw [← e1]; exact ha)
               omega
             · have := hn4 a ha
               simp at this
               omega
           rw [heap_setCell_other _ _ _ _ hne, heap_setCell_other _ _ _ _ hne, heap_setCell_other _ _ _ _ hne, heap_setCell_other _ _ _ _ hne, heap_setCell_other _ _ _ _ hne], hok3.room, hok3.few⟩
         have hg5 : wc.heap.size ≤ wc.heap.size := by first | exact Nat.le_refl _ | exact hb3x.size
         clear hb3x hok3 hb3
         generalize (((((w3.setCell ⟨wc.heap.size, 0, none⟩ (.slice A4 fs4.length c4)).setCell ⟨wc.heap.size, 1, none⟩ (.int .i64 (ca4 : Nat))).setCell ⟨wc.heap.size, 2, none⟩ (.int .i64 (le4 : Nat))).setCell ⟨wc.heap.size, 3, none⟩ (.int .i64 (st4 : Nat))).setCell ⟨wc.heap.size, 4, none⟩ (.bool do4)) = wE at *
         generalize hge : wc.heap.size = g5 at bX hg5 ⊢
         clear hge)
      have HBE := Lib.hid hBE
      have HOKE := Lib.hid hokE
      have HBPE := Lib.hid (HBP2.out.stays (hBE.block pb hp3))
      have x0 : wE.cell? ⟨g5, 0, none⟩ = some (.slice A4 fs4.length c4) := bX.cell 0
      have x1 : wE.cell? ⟨g5, 1, none⟩ = some (.int .i64 (ca4 : Nat)) := bX.cell 1
      have x2 : wE.cell? ⟨g5, 2, none⟩ = some (.int .i64 (le4 : Nat)) := bX.cell 2
      have x3 : wE.cell? ⟨g5, 3, none⟩ = some (.int .i64 (st4 : Nat)) := bX.cell 3
      have x4 : wE.cell? ⟨g5, 4, none⟩ = some (.bool do4) := bX.cell 4
      have p1 : wE.cell? ⟨pb, 1, none⟩ = some (.slice A fs.length c) := HBPE.out.cell 1
      have p2 : wE.cell? ⟨pb, 2, none⟩ = some (.int .i64 (cap : Nat)) := HBPE.out.cell 2
      have p3 : wE.cell? ⟨pb, 3, none⟩ = some (.int .i64 (left : Nat)) := HBPE.out.cell 3
      have p4 : wE.cell? ⟨pb, 4, none⟩ = some (.int .i64 (steps : Nat)) := HBPE.out.cell 4
      have p5 : wE.cell? ⟨pb, 5, none⟩ = some (.bool down) := HBPE.out.cell 5
      have z1 : wE.frozen? ⟨pb, 1, none⟩ = false := HBPE.out.free 1
      have z2 : wE.frozen? ⟨pb, 2, none⟩ = false := HBPE.out.free 2
      have z3 : wE.frozen? ⟨pb, 3, none⟩ = false := HBPE.out.free 3
      have z4 : wE.frozen? ⟨pb, 4, none⟩ = false := HBPE.out.free 4
      have z5 : wE.frozen? ⟨pb, 5, none⟩ = false := HBPE.out.free 5
      have hzE := hBE.size
      have te : (E.1 == E.1) = true := by simp
      have HHP := Lib.hid hp3
      clear bX hBE hokE hn3 hd3
      go_wp2_with (fail)
      go_ret
      have hdk := (HD2.out.below HBE.out).other (T := [pb]) (T' := [pb]) (((((Turn.set (S := [pb]) (a := ⟨pb, 1, none⟩) (by simp) (.slice A4 fs4.length c4)).trans (Turn.set (a := ⟨pb, 2, none⟩) (by simp) (.int .i64 (ca4 : Nat)))).trans (Turn.set (a := ⟨pb, 3, none⟩) (by simp) (.int .i64 (le4 : Nat)))).trans (Turn.set (a := ⟨pb, 4, none⟩) (by simp) (.int .i64 (st4 : Nat)))).trans (Turn.set (a := ⟨pb, 5, none⟩) (by simp) (.bool do4))) (fun g hg hm => HAP2.out (by rw [List.mem_singleton] at hm; exact hm ▸ hg))
      have htt : Turn (pb :: S') (pb :: S') wE _ := ((((Turn.set (S := pb :: S') (a := ⟨pb, 1, none⟩) (by simp) (.slice A4 fs4.length c4)).trans (Turn.set (a := ⟨pb, 2, none⟩) (by simp) (.int .i64 (ca4 : Nat)))).trans (Turn.set (a := ⟨pb, 3, none⟩) (by simp) (.int .i64 (le4 : Nat)))).trans (Turn.set (a := ⟨pb, 4, none⟩) (by simp) (.int .i64 (st4 : Nat)))).trans (Turn.set (a := ⟨pb, 5, none⟩) (by simp) (.bool do4))
      refine ⟨by simp, S', ⟨A4, c4, ⟨⟨st4, le4, do4⟩, ca4, fs4⟩⟩, ⟨((((HBPE.out.set 1 _).set 2 _).set 3 _).set 4 _).set 5 _, ?_, ⟨HOKE.out.row.stays fun hn a ha => ?_, HOKE.out.room, HOKE.out.few⟩, HAP2.out, HROWE.out⟩, ((HTW.out.cons pb).trans (Turn.below HBE.out)).trans htt, ?_⟩
      · rw [show (⟨A4, c4, ⟨⟨st4, le4, do4⟩, ca4, fs4⟩⟩ : Rf).d = E.2 from HD3.out]
        exact hdk.1
      · have hne := (HROWE.out hn a ha).2
        rw [heap_setCell_other _ _ _ _ hne, heap_setCell_other _ _ _ _ hne, heap_setCell_other _ _ _ _ hne, heap_setCell_other _ _ _ _ hne, heap_setCell_other _ _ _ _ hne]
      · rw [← HE.out]
        exact HD3.out
end Go.Proofs.Ytpnhgongjfknbaa
