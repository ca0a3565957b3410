/-
  Layer 10: all pixels of rectangles, as rectangles that have none in common.
-/
import Derived.Test.YtboelbmpcbeifaaDoorImH
import Derived.Test.YtboelbmpcbeifaaDoorImN
namespace Go.Proofs.YtboelbmpcbeifaaDoor
open Go.RowKit pxm imm

theorem JO.put1 {old : List (Nat × List Value)} {g : Nat} {zs cs : List Value} {iL iS : Bool} {w : World} {i : Nat} {v : Value} (h : JO old g zs cs iL iS w) (eS : iS = false) (eL : iL = true) (hv : zs.set i v = cs) :
    JO old g zs cs iL true (w.setCell ⟨g, i, none⟩ v) ∧ Off [g] w (w.setCell ⟨g, i, none⟩ v) := by
  subst eS
  have ho : Off [g] w (w.setCell ⟨g, i, none⟩ v) := Off.set (by simp) i v
  refine ⟨⟨⟨h.1.1.off (fun p hp => by simpa using h.1.2.2 p hp) ho, trivial, h.1.2.2⟩, trivial, ?_, fun _ => eL⟩, ho⟩
  show Blk _ _ cs
  rw [← hv]
  exact h.2.2.1.set i v
theorem info_int : (Tryd.prog.info? 3).map (fun i => (i.zero, i.size, i.bytes)) = some (some (.int .i64 0), 1, 8) := by kernel_rfl
theorem make_int (w : World) (n : Nat) (hn : n ≤ 20000000) : (Instr.makeSlice 78 (.int .i64 (n : Nat)) (.int .i64 (n : Nat))).run Tryd.prog w = .ok (.slice (some ⟨w.heap.size, 0, none⟩) n n) (w.alloc (.cells ((List.replicate n 0).map eI).toArray 3)) := by
  obtain ⟨i, hi, hz, hsize, hby⟩ := info_parts info_int
  have h := run_make (P := Tryd.prog) w 78 3 i (.int .i64 0) Tryd.underlying78 hi hz .i64 .i64 n n (by omega) (by omega) (by rw [hby]; omega) (by omega)
  rw [hsize, Int.toNat_natCast, Nat.mul_one, made_one _ _ rfl] at h
  rw [List.map_replicate]
  exact h
theorem Off.then_below {S : List Nat} {w w1 w2 : World} (h : Off S w w1) (hb : Below w.heap.size w1 w2) : Off S w w2 :=
  ⟨hb.os.trans h.os, hb.tape.trans h.tape, hb.output.trans h.output, Nat.le_trans h.size hb.size, fun k hk hn => (hb.block k hk).trans (h.far k hk hn)⟩
def JC8 (old : List (Nat × List Value)) (ge n : Nat) (v : Value) (w : World) : Prop := JBs old w ∧ w.cell? ⟨ge, n, none⟩ = some v ∧ ge < w.heap.size
theorem enters_each1 : Enters Tryd.prog 45 := enters_of Tryd.func45 (by kernel_rfl) rfl
/-- what the loop over edges finds -/
structure ES (B b3 b4 b5 bs ge cap : Nat) (fv : Value) (qa qb qc qd : Int) (es : List Eg) (T : List Int) (w : World) : Prop where
  k3 : Blk w b3 [fv]
  k4 : Blk w b4 [.int .i64 qa, .int .i64 qb, .int .i64 qc, .int .i64 qd]
  k5 : Blk w b5 [.slice (some ⟨ge, 0, none⟩) es.length cap]
  ks : Blk w bs (T.map eI)
  row : SRow 4 Eg.cs w (some ⟨ge, 0, none⟩) es
  gi : ge < w.heap.size
  lo : B ≤ b3 ∧ B ≤ b4 ∧ B ≤ b5 ∧ B ≤ bs ∧ B ≤ ge
  ne : b3 ≠ bs ∧ b4 ≠ bs ∧ b5 ≠ bs ∧ ge ≠ bs
section
variable {B b3 b4 b5 bs ge cap : Nat} {fv : Value} {qa qb qc qd : Int} {es : List Eg} {T : List Int} {w w' : World}
theorem ES.off {S : List Nat} (h : ES B b3 b4 b5 bs ge cap fv qa qb qc qd es T w) (ho : Off S w w') (hS : ∀ g ∈ S, g < B) : ES B b3 b4 b5 bs ge cap fv qa qb qc qd es T w' := by
  obtain ⟨l3, l4, l5, ls, lg⟩ := h.lo
  have hn : ∀ g, B ≤ g → g ∉ S := fun g hg hm => by have := hS g hm; omega
  exact ⟨ho.blk h.k3 (hn _ l3), ho.blk h.k4 (hn _ l4), ho.blk h.k5 (hn _ l5), ho.blk h.ks (hn _ ls), h.row.off ho h.gi (hn _ lg), Nat.lt_of_lt_of_le h.gi ho.size, h.lo, h.ne⟩
theorem ES.below (h : ES B b3 b4 b5 bs ge cap fv qa qb qc qd es T w) (hb : Below w.heap.size w w') : ES B b3 b4 b5 bs ge cap fv qa qb qc qd es T w' := h.off (S := []) (Off.of_below hb) (fun _ hg => nomatch hg)
/-- the steps turn alone -/
theorem ES.turn {T' : List Int} (h : ES B b3 b4 b5 bs ge cap fv qa qb qc qd es T w) (ho : Off [bs] w w') (hk : Blk w' bs (T'.map eI)) : ES B b3 b4 b5 bs ge cap fv qa qb qc qd es T' w' := by
  obtain ⟨n3, n4, n5, ng⟩ := h.ne
  exact ⟨ho.blk h.k3 (by simpa using n3), ho.blk h.k4 (by simpa using n4), ho.blk h.k5 (by simpa using n5), hk, h.row.off ho h.gi (by simpa using ng), Nat.lt_of_lt_of_le h.gi ho.size, h.lo, h.ne⟩
theorem ES.edge (h : ES B b3 b4 b5 bs ge cap fv qa qb qc qd es T w) {k : Nat} (hk : k < es.length) : w.cell? ⟨ge, k * 4, none⟩ = some (.int .i64 es[k].y) ∧ w.cell? ⟨ge, k * 4 + 1, none⟩ = some (.int .i64 es[k].x0) ∧ w.cell? ⟨ge, k * 4 + 2, none⟩ = some (.int .i64 es[k].x1) ∧ w.cell? ⟨ge, k * 4 + 3, none⟩ = some (.int .i64 es[k].m) := by
  obtain ⟨b, off, e, hc⟩ := h.row (by omega)
  simp only [Option.some.injEq, Addr.mk.injEq, and_true] at e
  obtain ⟨rfl, rfl⟩ := e
  have h0 := hc k hk 0 _ rfl
  have h1 := hc k hk 1 _ rfl
  have h2 := hc k hk 2 _ rfl
  have h3 := hc k hk 3 _ rfl
  simp only [Nat.zero_add, Nat.add_zero] at h0 h1 h2 h3
  exact ⟨h0, h1, h2, h3⟩
end
theorem Blk.row_eI {w : World} {b : Nat} {T : List Int} (h : Blk w b (T.map eI)) : Row eI w (some ⟨b, 0, none⟩) T := fun _ => ⟨b, 0, rfl, fun j hj => by rw [Nat.zero_add, h.cell j, List.getElem?_map, List.getElem?_eq_getElem hj]; rfl⟩
set_option maxHeartbeats 4000000 in
set_option maxRecDepth 100000 in
theorem each_any' (SS : List Nat) (w : World) (hSS : ∀ g ∈ SS, g < w.heap.size) (I : (Int → Int → Bool) → World → Prop) (hI : ∀ F w1 w2, I F w1 → Below w.heap.size w1 w2 → I F w2)
    (l : List Bx) (hf : Fine l) (hin : ∀ r ∈ l, 0 ≤ r.a ∧ r.c ≤ 4096) (hn : l.length ≤ 1000000) (AL : Option Addr) (cl : Nat) (hr : BRow w AL l) (gl : Nat) (capt : Array Value) (he : Enters Tryd.prog gl)
    (hdo : ∀ (F : Int → Int → Bool) (r : Bx) (w1 : World), (∀ x y, r.has x y = true → F x y = false ∧ cov l x y = true) → r.emp = false → I F w1 → Off SS w w1 → Calls Tryd.prog gl (#[r.v] ++ capt) w1 fun e w2 => e = .returned (.tuple #[]) ∧ I (fun x y => F x y || r.has x y) w2 ∧ Off SS w1 w2)
    (h0 : I (fun _ _ => false) w) :
    Calls Tryd.prog 29 #[.slice AL l.length cl, .func (.func gl) #[] capt] w fun e w' => e = .returned (.tuple #[]) ∧ I (cov l) w' ∧ Off SS w w' := by
  have HSS := Lib.hid hSS
  have HI := Lib.hid hI
  have HF := Lib.hid (And.intro hf hin)
  have HR := Lib.hid hr
  have HE := Lib.hid he
  have HD := Lib.hid hdo
  have H0 := Lib.hid h0
  obtain ⟨⟨b1, b2, b3'⟩, -⟩ := bound_facts hf hin
  have HJ := Lib.hid (fun w hr => bx_join Bx.o AL l cl w hr (by omega))
  have HED := Lib.hid (fun w hr => edges_any AL l cl hn w hr)
  have HQ : Hid (Bx.o.join l = Bx.o.join l) := rfl
  obtain ⟨q, hq⟩ : ∃ q, Bx.o.join l = q := ⟨_, rfl⟩
  have HQE := Lib.hid hq
  rw [hq] at b1 b2 b3' HJ
  obtain ⟨qa, qb, qc, qd⟩ := q
  simp only at b1 b2 b3'
  clear hSS hI hf hin hr he hdo h0 hq HQ
  unfold Bx.v Bx.o at HJ
  simp only at HJ
  obtain ⟨Ln, hL⟩ : ∃ Ln : Nat, qc - qa + 1 = (Ln : Nat) := ⟨(qc - qa + 1).toNat, by omega⟩
  have e1 : wrap64 (qc - qa) = qc - qa := IntWalk.wrap64_in _ (by omega)
  have e2 : wrap64 (qc - qa + 1) = (Ln : Nat) := by rw [IntWalk.wrap64_in _ (by omega)]; exact hL
  have hmk := fun w => make_int w Ln (by omega)
  have hL4 : Ln ≤ 4097 := by omega
  have HL := Lib.hid hL
  have HB := Lib.hid (And.intro b1 (And.intro b2 b3'))
  clear hL b1 b2 b3'
  generalize hz : ((List.replicate Ln 0).map eI).toArray = zs at hmk
  have HZ := Lib.hid hz
  clear hz
  go_enter Tryd.func29, Tryd.ntmps29
  go_wp2_with (fail)
  refine (HJ.out _ (HR.out.below ((Below.refl _ _).alloc (Nat.le_refl _) _))).mono ?_
  rintro e w1 ⟨rfl, hb⟩
  have HB1 : Hid (Below w.heap.size w w1) := bel1 hb
  have K1 : Hid (Blk w1 w.heap.size [.func (.func gl) #[] capt]) := (blk_at w _ rfl [.func (.func gl) #[] capt] _).below hb (by simp)
  clear hb HJ
  go_wp2_with (fail)
  refine (HED.out _ (HR.out.below HB1.out)).mono ?_
  unfold EdgesQ
  rintro e w2 ⟨ge, cap, es, rfl, hp, hs, hrow, hge, hgi, hb⟩
  have HB2 : Hid (Below w.heap.size w w2) := HB1.out.trans (hb.mono HB1.out.size)
  have K2 : Hid (Blk w2 w.heap.size [.func (.func gl) #[] capt]) := K1.out.below' hb
  have HES := Lib.hid (And.intro hp hs)
  have HRW := Lib.hid (And.intro hrow (And.intro (show w.heap.size ≤ ge by have := HB1.out.size; omega) hgi))
  clear hp hs hrow hge hgi hb HB1 K1 HED HR
  go_wp2_with (fail)
  have hB3 : Below w2.heap.size w2 (((w2.alloc (.cells #[.int .i64 qa, .int .i64 qb, .int .i64 qc, .int .i64 qd] 30)).alloc (.cells #[.slice (some ⟨ge, 0, none⟩) es.length cap] 76)).alloc (.cells zs 3)) := (((Below.refl _ _).alloc (Nat.le_refl _) _).alloc (by simp) _).alloc (by simp; omega) _
  have HB3 : Hid (Below w.heap.size w (((w2.alloc (.cells #[.int .i64 qa, .int .i64 qb, .int .i64 qc, .int .i64 qd] 30)).alloc (.cells #[.slice (some ⟨ge, 0, none⟩) es.length cap] 76)).alloc (.cells zs 3))) := HB2.out.trans (hB3.mono HB2.out.size)
  have hsz : w.heap.size < w2.heap.size := K2.out.inside
  have HS3 : Hid (ES w.heap.size w.heap.size w2.heap.size (w2.heap.size + 1) (w2.heap.size + 1 + 1) ge cap (.func (.func gl) #[] capt) qa qb qc qd es (stp (es.take 0) qa Ln) (((w2.alloc (.cells #[.int .i64 qa, .int .i64 qb, .int .i64 qc, .int .i64 qd] 30)).alloc (.cells #[.slice (some ⟨ge, 0, none⟩) es.length cap] 76)).alloc (.cells zs 3))) := by
    obtain ⟨hrow, hge, hgi⟩ := HRW.out
    refine ⟨K2.out.below' hB3, ((blk_new w2 [.int .i64 qa, .int .i64 qb, .int .i64 qc, .int .i64 qd] _).alloc _).alloc _, (blk_at (w2.alloc _) _ (by simp) [.slice (some ⟨ge, 0, none⟩) es.length cap] _).alloc _, ?_, hrow.below hB3, Nat.lt_of_lt_of_le hgi hB3.size, ⟨Nat.le_refl _, by omega, by omega, by omega, hge⟩, ⟨by omega, by omega, by omega, by omega⟩⟩
    rw [List.take_zero, stp_nil, ← HZ.out]
    exact blk_at ((w2.alloc _).alloc _) _ (by simp) ((List.replicate Ln 0).map eI) _
  have HI3 : Hid (I (FK l es 0) (((w2.alloc (.cells #[.int .i64 qa, .int .i64 qb, .int .i64 qc, .int .i64 qd] 30)).alloc (.cells #[.slice (some ⟨ge, 0, none⟩) es.length cap] 76)).alloc (.cells zs 3))) := by
    rw [FK_start HES.out.1 HES.out.2]
    exact HI.out _ _ _ H0.out HB3.out
  have HO3 : Hid (Off SS w (((w2.alloc (.cells #[.int .i64 qa, .int .i64 qb, .int .i64 qc, .int .i64 qd] 30)).alloc (.cells #[.slice (some ⟨ge, 0, none⟩) es.length cap] 76)).alloc (.cells zs 3))) := Off.of_below HB3.out
  clear hmk K2 HRW hB3 HB3 H0 HZ e1 e2
  generalize (((w2.alloc (.cells #[.int .i64 qa, .int .i64 qb, .int .i64 qc, .int .i64 qd] 30)).alloc (.cells #[.slice (some ⟨ge, 0, none⟩) es.length cap] 76)).alloc (.cells zs 3)) = w3 at *
  generalize w2.heap.size = z2 at *
  go_loopw [23] (fun i wr => ∃ k : Nat, k ≤ es.length ∧ i = .int .i64 k ∧ Hid (I (FK l es k) wr) ∧ Hid (Off SS w wr) ∧ Hid (ES w.heap.size w.heap.size z2 (z2 + 1) (z2 + 1 + 1) ge cap (.func (.func gl) #[] capt) qa qb qc qd es (stp (es.take k) qa Ln) wr)) (fun i _ => es.length - (intOf i).toNat)
  case atStart => exact ⟨0, Nat.zero_le _, rfl, HI3.out, HO3.out, HS3.out⟩
  case round =>
    obtain ⟨k, hk, rfl, HIK, HOK, HSK⟩ := hrel
    clear HI3 HO3 HS3
    by_cases hlt : k < es.length
    · have t : decide (k < es.length) = true := by simpa using hlt
      have hfe := edge_facts HF.out.1 HF.out.2 HES.out.1 (List.getElem_mem hlt)
      rw [HQE.out] at hfe
      simp only at hfe
      obtain ⟨f0, f1, f2, f3⟩ := hfe
      obtain ⟨q0, q1, q2, q3⟩ := HSK.out.edge hlt
      have hgi := HSK.out.gi
      obtain ⟨i0, hi0⟩ : ∃ i0 : Nat, es[k].x0 = qa + (i0 : Nat) := ⟨(es[k].x0 - qa).toNat, by omega⟩
      obtain ⟨i1, hi1⟩ : ∃ i1 : Nat, es[k].x1 = qa + (i1 : Nat) := ⟨(es[k].x1 - qa).toNat, by omega⟩
      have hne : i0 ≠ i1 := by omega
      have hL2 := HL.out
      have hil0 : i0 < Ln := by omega
      have hil1 : i1 < Ln := by omega
      have hlen : es.length ≤ 2000000 := by rw [HES.out.1.length_eq, egs_len]; omega
      have hm1 : ∀ e ∈ es.take k, e.m = 1 ∨ e.m = -1 := fun e he => (edge_facts HF.out.1 HF.out.2 HES.out.1 (List.mem_of_mem_take he)).2.2.2
      have hs0 := stAt_bound hm1 (qa + (i0 : Nat))
      have hs1 := stAt_bound hm1 (qa + (i1 : Nat))
      rw [List.length_take] at hs0 hs1
      have hT0 : ((stp (es.take k) qa Ln).map eI)[i0]? = some (.int .i64 (stAt (es.take k) (qa + (i0 : Nat)))) := by
        rw [List.getElem?_map, List.getElem?_eq_getElem (by rw [stp_len]; exact hil0), stp_at]; rfl
      have hT1 : (((stp (es.take k) qa Ln).set i0 (stAt (es.take k) (qa + (i0 : Nat)) + es[k].m)).map eI)[i1]? = some (.int .i64 (stAt (es.take k) (qa + (i1 : Nat)))) := by
        rw [List.getElem?_map, List.getElem?_set_ne hne, List.getElem?_eq_getElem (by rw [stp_len]; exact hil1), stp_at]; rfl
      have hT2 : ((stp (es.take k) qa Ln).set i0 (stAt (es.take k) (qa + (i0 : Nat)) + es[k].m)).set i1 (stAt (es.take k) (qa + (i1 : Nat)) - es[k].m) = stp (es.take (k + 1)) qa Ln := by
        rw [List.take_succ_eq_append_getElem hlt]
        exact stp_snoc _ _ _ _ hi0 hi1 hne
      have hw0 : IntKind.i64.wrap (stAt (es.take k) (qa + (i0 : Nat)) + es[k].m) = stAt (es.take k) (qa + (i0 : Nat)) + es[k].m := IntWalk.i64_in _ (by omega)
      have hw1 : IntKind.i64.wrap (stAt (es.take k) (qa + (i1 : Nat)) - es[k].m) = stAt (es.take k) (qa + (i1 : Nat)) - es[k].m := IntWalk.i64_in _ (by omega)
      have hx0 : IntKind.i64.wrap (es[k].x0 - qa) = (i0 : Nat) := by rw [IntWalk.i64_in _ (by omega)]; omega
      have hx1 : IntKind.i64.wrap (es[k].x1 - qa) = (i1 : Nat) := by rw [IntWalk.i64_in _ (by omega)]; omega
      have HY : Hid (es[k].y = es[k].y) := rfl
      obtain ⟨ey, hey⟩ : ∃ ey, es[k].y = ey := ⟨_, rfl⟩
      have HEY := Lib.hid hey
      rw [hey] at q0
      clear hey HY
      generalize es[k].x0 = ex0 at *
      generalize es[k].x1 = ex1 at *
      generalize es[k].m = em at *
      have HW0 := Lib.hid hw0
      have HW1 := Lib.hid hw1
      have HX0 := Lib.hid hx0
      have HX1 := Lib.hid hx1
      generalize stAt (es.take k) (qa + (i0 : Nat)) = s0 at *
      generalize stAt (es.take k) (qa + (i1 : Nat)) = s1 at *
      generalize stp (es.take k) qa Ln = T0 at *
      obtain ⟨T1, hT1e⟩ : ∃ T1, T0.set i0 (s0 + em) = T1 := ⟨_, rfl⟩
      obtain ⟨T2, hT2e⟩ : ∃ T2, stp (es.take (k + 1)) qa Ln = T2 := ⟨_, rfl⟩
      rw [hT1e] at hT1 hT2
      rw [hT2e] at hT2
      have HT2E := Lib.hid hT2e
      have HT0 := Lib.hid hT0
      have HT1 := Lib.hid hT1
      have HM1 : Hid ((T0.map eI).set i0 (.int .i64 (s0 + em)) = T1.map eI) := by rw [← hT1e, List.map_set]; rfl
      have HM2 : Hid ((T1.map eI).set i1 (.int .i64 (s1 - em)) = T2.map eI) := by rw [← hT2, List.map_set]; rfl
      have HIL := Lib.hid (And.intro hil0 hil1)
      clear hT0 hT1 hT2 hT1e hT2e hw0 hw1 hx0 hx1 hs0 hs1 hm1 f0 f1 f2 f3 hi0 hi1 hne hL2 hil0 hil1
      go_wp2_with (fail)
      obtain ⟨z7, hz7⟩ : ∃ z, wr.heap.size = z := ⟨_, rfl⟩
      have hWb : Below wr.heap.size wr ((wr.alloc (.cells #[.int .i64 (k : Nat)] 3)).alloc (.cells #[.int .i64 ey, .int .i64 ex0, .int .i64 ex1, .int .i64 em] 80)) := ((Below.refl _ _).alloc (Nat.le_refl _) _).alloc (by simp) _
      have HS4 := Lib.hid (HSK.out.below hWb)
      have hwz := HOK.out.size
      have HI4 : Hid (I (FK l es k) ((wr.alloc (.cells #[.int .i64 (k : Nat)] 3)).alloc (.cells #[.int .i64 ey, .int .i64 ex0, .int .i64 ex1, .int .i64 em] 80))) := HI.out _ _ _ HIK.out (hWb.mono hwz)
      have HO4 : Hid (Off SS w ((wr.alloc (.cells #[.int .i64 (k : Nat)] 3)).alloc (.cells #[.int .i64 ey, .int .i64 ex0, .int .i64 ex1, .int .i64 em] 80))) := HOK.out.trans (Off.of_below hWb)
      have K7 : Hid (Blk ((wr.alloc (.cells #[.int .i64 (k : Nat)] 3)).alloc (.cells #[.int .i64 ey, .int .i64 ex0, .int .i64 ex1, .int .i64 em] 80)) z7 [.int .i64 (k : Nat)]) := (blk_at wr _ hz7.symm [.int .i64 (k : Nat)] _).alloc _
      have K8 : Hid (Blk ((wr.alloc (.cells #[.int .i64 (k : Nat)] 3)).alloc (.cells #[.int .i64 ey, .int .i64 ex0, .int .i64 ex1, .int .i64 em] 80)) (z7 + 1) [.int .i64 ey, .int .i64 ex0, .int .i64 ex1, .int .i64 em]) := blk_at (wr.alloc _) _ (by simp [hz7]) [.int .i64 ey, .int .i64 ex0, .int .i64 ex1, .int .i64 em] _
      have HZ7 : Hid (w.heap.size ≤ z7 ∧ z2 + 1 + 1 < z7 ∧ z2 < z7) := by have := HSK.out.ks.inside; exact ⟨by omega, by omega, by omega⟩
      clear hWb HSK HIK HOK hwz hgi q0 q1 q2 q3
      rw [hz7]
      generalize ((wr.alloc (.cells #[.int .i64 (k : Nat)] 3)).alloc (.cells #[.int .i64 ey, .int .i64 ex0, .int .i64 ex1, .int .i64 em] 80)) = wz at *
      clear hz7
      have HJ6 : Hid (JO [(z7 + 1, [.int .i64 ey, .int .i64 ex0, .int .i64 ex1, .int .i64 em]), (z2, [.int .i64 qa, .int .i64 qb, .int .i64 qc, .int .i64 qd])] (z2 + 1 + 1) (T0.map eI) (T1.map eI) false false wz) :=
        JO.start ⟨K8.out, HS4.out.k4, trivial⟩ HS4.out.ks (by intro p hp; have := HZ7.out; simp at hp; rcases hp with rfl | rfl <;> simp only <;> omega)
      refine regs.wp_region_put (Off [z2 + 1 + 1]) (fun L wx => JO [(z7 + 1, [.int .i64 ey, .int .i64 ex0, .int .i64 ex1, .int .i64 em]), (z2, [.int .i64 qa, .int .i64 qb, .int .i64 qc, .int .i64 qd])] (z2 + 1 + 1) (T0.map eI) (T1.map eI) (L 7) (L 12) wx) [28, 29, 30, 31, 32, 33, 34, 35, 36, 37, 38, 39] (by kernel_rfl) (by kernel_rfl) (fun _ => Off.refl _ _) (fun _ _ _ h k => h.trans k) (fun i => (match i with
        | 0 => regs.Say.val _ (.slice (some ⟨z2 + 1 + 1, 0, none⟩) Ln Ln)
        | 1 => regs.Say.val _ (.pointer (some ⟨(z7 + 1), 1, none⟩))
        | 2 => regs.Say.val _ (.int .i64 ex0)
        | 3 => regs.Say.val _ (.pointer (some ⟨z2, 0, none⟩))
        | 4 => regs.Say.val _ (.int .i64 qa)
        | 5 => regs.Say.val _ (.int .i64 (i0 : Nat))
        | 6 => regs.Say.val _ (.pointer (some ⟨(z2 + 1 + 1), i0, none⟩))
        | 7 => regs.Say.val _ (.int .i64 s0)
        | 8 => regs.Say.val _ (.pointer (some ⟨(z7 + 1), 3, none⟩))
        | 9 => regs.Say.val _ (.int .i64 em)
        | 10 => regs.Say.val _ (.int .i64 (s0 + em))
        | 11 => regs.Say.val _ (.pointer (some ⟨(z2 + 1 + 1), i0, none⟩))
        | 12 => regs.Say.any _
        | _ => regs.Say.any _ : regs.Say (Off [z2 + 1 + 1])).p) (fun _ => regs.Say.mono _) (by kernel_rfl) (Off.of_below (Below.refl _ _).drew) (HJ6.out) ⟨?_, ?_, ?_, ?_, ?_, ?_, ?_, ?_, ?_, ?_, ?_, ?_, ?_, trivial⟩ ?_
      · refine regs.StepOK.plain rfl fun L a w1 hh => ?_
        have h6 : a.tmps[6]?.getD undef = .slice (some ⟨z2 + 1 + 1, 0, none⟩) Ln Ln := by rw [← Array.getD_eq_getD_getElem?]; exact hh.old 6 rfl
        have hJ := Lib.hid hh.st
        clear hh
        go_simp
        exact ⟨_, rfl, Off.refl _ _, rfl, hJ.out⟩
      · refine regs.StepOK.plain rfl fun L a w1 hh => ?_
        have h8 : a.tmps[8]?.getD undef = .pointer (some ⟨(z7 + 1), 0, none⟩) := by rw [← Array.getD_eq_getD_getElem?]; exact hh.old 8 rfl
        have hJ := Lib.hid hh.st
        clear hh
        go_simp
        exact ⟨_, rfl, Off.refl _ _, rfl, hJ.out⟩
      · refine regs.StepOK.plain rfl fun L a w1 hh => ?_
        have h29 : a.tmps[29]?.getD undef = .pointer (some ⟨(z7 + 1), 1, none⟩) := by rw [← Array.getD_eq_getD_getElem?]; exact hh.dep 1 29 (by kernel_rfl) (by kernel_rfl)
        obtain ⟨⟨c0, c1, c2, c3⟩, -, ci⟩ := (hh.st.1.1.1).c4
        have hJ := Lib.hid hh.st
        clear hh
        go_simp
        exact ⟨_, rfl, Off.refl _ _, rfl, hJ.out⟩
      · refine regs.StepOK.plain rfl fun L a w1 hh => ?_
        have h4 : a.tmps[4]?.getD undef = .pointer (some ⟨z2, 0, none⟩) := by rw [← Array.getD_eq_getD_getElem?]; exact hh.old 4 rfl
        have hJ := Lib.hid hh.st
        clear hh
        go_simp
        exact ⟨_, rfl, Off.refl _ _, rfl, hJ.out⟩
      · refine regs.StepOK.plain rfl fun L a w1 hh => ?_
        have h31 : a.tmps[31]?.getD undef = .pointer (some ⟨z2, 0, none⟩) := by rw [← Array.getD_eq_getD_getElem?]; exact hh.dep 3 31 (by kernel_rfl) (by kernel_rfl)
        obtain ⟨⟨c0, c1, c2, c3⟩, -, ci⟩ := (hh.st.1.1.2.1).c4
        have hJ := Lib.hid hh.st
        clear hh
        go_simp
        exact ⟨_, rfl, Off.refl _ _, rfl, hJ.out⟩
      · refine regs.StepOK.plain rfl fun L a w1 hh => ?_
        have h30 : a.tmps[30]?.getD undef = .int .i64 ex0 := by rw [← Array.getD_eq_getD_getElem?]; exact hh.dep 2 30 (by kernel_rfl) (by kernel_rfl)
        have h32 : a.tmps[32]?.getD undef = .int .i64 qa := by rw [← Array.getD_eq_getD_getElem?]; exact hh.dep 4 32 (by kernel_rfl) (by kernel_rfl)
        have q := HX0.out
        have hJ := Lib.hid hh.st
        clear hh
        go_simp
        exact ⟨_, rfl, Off.refl _ _, rfl, hJ.out⟩
      · refine regs.StepOK.plain rfl fun L a w1 hh => ?_
        have h28 : a.tmps[28]?.getD undef = .slice (some ⟨z2 + 1 + 1, 0, none⟩) Ln Ln := by rw [← Array.getD_eq_getD_getElem?]; exact hh.dep 0 28 (by kernel_rfl) (by kernel_rfl)
        have h33 : a.tmps[33]?.getD undef = .int .i64 (i0 : Nat) := by rw [← Array.getD_eq_getD_getElem?]; exact hh.dep 5 33 (by kernel_rfl) (by kernel_rfl)
        have t9 := HIL.out.1
        have hJ := Lib.hid hh.st
        clear hh
        go_simp
        exact ⟨_, rfl, Off.refl _ _, rfl, hJ.out⟩
      · refine regs.StepOK.plain rfl fun L a w1 hh => ?_
        have h34 : a.tmps[34]?.getD undef = .pointer (some ⟨(z2 + 1 + 1), i0, none⟩) := by rw [← Array.getD_eq_getD_getElem?]; exact hh.dep 6 34 (by kernel_rfl) (by kernel_rfl)
        have hrd := JO.read hh.st hh.un
        have c0 := (hrd.cell i0).trans HT0.out
        have ci := hrd.inside
        have hJ := Lib.hid (JO.done hh.st)
        clear hh hrd
        go_simp
        exact ⟨_, rfl, Off.refl _ _, rfl, hJ.out⟩
      · refine regs.StepOK.plain rfl fun L a w1 hh => ?_
        have h8 : a.tmps[8]?.getD undef = .pointer (some ⟨(z7 + 1), 0, none⟩) := by rw [← Array.getD_eq_getD_getElem?]; exact hh.old 8 rfl
        have hJ := Lib.hid hh.st
        clear hh
        go_simp
        exact ⟨_, rfl, Off.refl _ _, rfl, hJ.out⟩
      · refine regs.StepOK.plain rfl fun L a w1 hh => ?_
        have h36 : a.tmps[36]?.getD undef = .pointer (some ⟨(z7 + 1), 3, none⟩) := by rw [← Array.getD_eq_getD_getElem?]; exact hh.dep 8 36 (by kernel_rfl) (by kernel_rfl)
        obtain ⟨⟨c0, c1, c2, c3⟩, -, ci⟩ := (hh.st.1.1.1).c4
        have hJ := Lib.hid hh.st
        clear hh
        go_simp
        exact ⟨_, rfl, Off.refl _ _, rfl, hJ.out⟩
      · refine regs.StepOK.plain rfl fun L a w1 hh => ?_
        have h35 : a.tmps[35]?.getD undef = .int .i64 s0 := by rw [← Array.getD_eq_getD_getElem?]; exact hh.dep 7 35 (by kernel_rfl) (by kernel_rfl)
        have h37 : a.tmps[37]?.getD undef = .int .i64 em := by rw [← Array.getD_eq_getD_getElem?]; exact hh.dep 9 37 (by kernel_rfl) (by kernel_rfl)
        have q := HW0.out
        have hJ := Lib.hid hh.st
        clear hh
        go_simp
        exact ⟨_, rfl, Off.refl _ _, rfl, hJ.out⟩
      · refine regs.StepOK.plain rfl fun L a w1 hh => ?_
        have h28 : a.tmps[28]?.getD undef = .slice (some ⟨z2 + 1 + 1, 0, none⟩) Ln Ln := by rw [← Array.getD_eq_getD_getElem?]; exact hh.dep 0 28 (by kernel_rfl) (by kernel_rfl)
        have h33 : a.tmps[33]?.getD undef = .int .i64 (i0 : Nat) := by rw [← Array.getD_eq_getD_getElem?]; exact hh.dep 5 33 (by kernel_rfl) (by kernel_rfl)
        have t9 := HIL.out.1
        have hJ := Lib.hid hh.st
        clear hh
        go_simp
        exact ⟨_, rfl, Off.refl _ _, rfl, hJ.out⟩
      · refine regs.StepOK.plain rfl fun L a w1 hh => ?_
        have h38 : a.tmps[38]?.getD undef = .int .i64 (s0 + em) := by rw [← Array.getD_eq_getD_getElem?]; exact hh.dep 10 38 (by kernel_rfl) (by kernel_rfl)
        have h39 : a.tmps[39]?.getD undef = .pointer (some ⟨(z2 + 1 + 1), i0, none⟩) := by rw [← Array.getD_eq_getD_getElem?]; exact hh.dep 11 39 (by kernel_rfl) (by kernel_rfl)
        have hB := hh.st.2.2.1
        rw [hh.un] at hB
        obtain ⟨vk, ck⟩ : ∃ vk, w1.cell? ⟨z2 + 1 + 1, i0, none⟩ = some vk := ⟨_, (hB.cell i0).trans HT0.out⟩
        have cf := hB.free i0
        have ci := hB.inside
        have hP := Lib.hid (JO.put1 hh.st hh.un (hh.up 7 (by kernel_rfl)) HM1.out)
        clear hh hB
        go_simp
        exact ⟨hP.out.2, ⟨undef, trivial⟩, hP.out.1⟩
      intro L5 w5 val hL hJ hR hv
      have hJ2 := hJ.2.2.1
      rw [hL 12 (by decide)] at hJ2
      have HJJ5 := Lib.hid (And.intro (show Blk w5 (z2 + 1 + 1) (T1.map eI) from hJ2) hR)
      clear hv hL hJ hR hJ2
      simp only [regs.putAll, List.map_cons, List.map_nil]
      generalize val 28 = v28
      generalize val 29 = v29
      generalize val 30 = v30
      generalize val 31 = v31
      generalize val 32 = v32
      generalize val 33 = v33
      generalize val 34 = v34
      generalize val 35 = v35
      generalize val 36 = v36
      generalize val 37 = v37
      generalize val 38 = v38
      generalize val 39 = v39
      simp only [Act.put, List.setIfInBounds_toArray, List.set_cons_zero, List.set_cons_succ]
      have HS5 := Lib.hid (HS4.out.turn HJJ5.out.2 HJJ5.out.1)
      have hn7 : z7 ∉ [z2 + 1 + 1] := by have := HZ7.out; simp; omega
      have hn8 : z7 + 1 ∉ [z2 + 1 + 1] := by have := HZ7.out; simp; omega
      have K75 := Lib.hid (HJJ5.out.2.blk K7.out hn7)
      have K85 := Lib.hid (HJJ5.out.2.blk K8.out hn8)
      have hlo : ∀ g ∈ [z2 + 1 + 1], w.heap.size ≤ g := by intro g hg; have := HS4.out.lo; simp at hg; rw [hg]; omega
      have HI5 := Lib.hid (HI.out _ _ _ HI4.out (HJJ5.out.2.to_below HO4.out.size hlo))
      have HO5 : Hid (Off SS w w5) := HO4.out.then_below (HJJ5.out.2.to_below HO4.out.size hlo)
      clear HS4 K7 K8 HI4 HO4 HJJ5 HJ6
      have HJ7 : Hid (JO [(z7 + 1, [.int .i64 ey, .int .i64 ex0, .int .i64 ex1, .int .i64 em]), (z2, [.int .i64 qa, .int .i64 qb, .int .i64 qc, .int .i64 qd])] (z2 + 1 + 1) (T1.map eI) (T2.map eI) false false w5) :=
        JO.start ⟨K85.out, HS5.out.k4, trivial⟩ HS5.out.ks (by intro p hp; have := HZ7.out; simp at hp; rcases hp with rfl | rfl <;> simp only <;> omega)
      go_wp2_with (fail)
      refine regs.wp_region_put (Off [z2 + 1 + 1]) (fun L wx => JO [(z7 + 1, [.int .i64 ey, .int .i64 ex0, .int .i64 ex1, .int .i64 em]), (z2, [.int .i64 qa, .int .i64 qb, .int .i64 qc, .int .i64 qd])] (z2 + 1 + 1) (T1.map eI) (T2.map eI) (L 7) (L 12) wx) [40, 41, 42, 43, 44, 45, 46, 47, 48, 49, 50, 51] (by kernel_rfl) (by kernel_rfl) (fun _ => Off.refl _ _) (fun _ _ _ h k => h.trans k) (fun i => (match i with
        | 0 => regs.Say.val _ (.slice (some ⟨z2 + 1 + 1, 0, none⟩) Ln Ln)
        | 1 => regs.Say.val _ (.pointer (some ⟨(z7 + 1), 2, none⟩))
        | 2 => regs.Say.val _ (.int .i64 ex1)
        | 3 => regs.Say.val _ (.pointer (some ⟨z2, 0, none⟩))
        | 4 => regs.Say.val _ (.int .i64 qa)
        | 5 => regs.Say.val _ (.int .i64 (i1 : Nat))
        | 6 => regs.Say.val _ (.pointer (some ⟨(z2 + 1 + 1), i1, none⟩))
        | 7 => regs.Say.val _ (.int .i64 s1)
        | 8 => regs.Say.val _ (.pointer (some ⟨(z7 + 1), 3, none⟩))
        | 9 => regs.Say.val _ (.int .i64 em)
        | 10 => regs.Say.val _ (.int .i64 (s1 - em))
        | 11 => regs.Say.val _ (.pointer (some ⟨(z2 + 1 + 1), i1, none⟩))
        | 12 => regs.Say.any _
        | _ => regs.Say.any _ : regs.Say (Off [z2 + 1 + 1])).p) (fun _ => regs.Say.mono _) (by kernel_rfl) (Off.of_below (Below.refl _ _).drew) (HJ7.out) ⟨?_, ?_, ?_, ?_, ?_, ?_, ?_, ?_, ?_, ?_, ?_, ?_, ?_, trivial⟩ ?_
      · refine regs.StepOK.plain rfl fun L a w1 hh => ?_
        have h6 : a.tmps[6]?.getD undef = .slice (some ⟨z2 + 1 + 1, 0, none⟩) Ln Ln := by rw [← Array.getD_eq_getD_getElem?]; exact hh.old 6 rfl
        have hJ := Lib.hid hh.st
        clear hh
        go_simp
        exact ⟨_, rfl, Off.refl _ _, rfl, hJ.out⟩
      · refine regs.StepOK.plain rfl fun L a w1 hh => ?_
        have h8 : a.tmps[8]?.getD undef = .pointer (some ⟨(z7 + 1), 0, none⟩) := by rw [← Array.getD_eq_getD_getElem?]; exact hh.old 8 rfl
        have hJ := Lib.hid hh.st
        clear hh
        go_simp
        exact ⟨_, rfl, Off.refl _ _, rfl, hJ.out⟩
      · refine regs.StepOK.plain rfl fun L a w1 hh => ?_
        have h41 : a.tmps[41]?.getD undef = .pointer (some ⟨(z7 + 1), 2, none⟩) := by rw [← Array.getD_eq_getD_getElem?]; exact hh.dep 1 41 (by kernel_rfl) (by kernel_rfl)
        obtain ⟨⟨c0, c1, c2, c3⟩, -, ci⟩ := (hh.st.1.1.1).c4
        have hJ := Lib.hid hh.st
        clear hh
        go_simp
        exact ⟨_, rfl, Off.refl _ _, rfl, hJ.out⟩
      · refine regs.StepOK.plain rfl fun L a w1 hh => ?_
        have h4 : a.tmps[4]?.getD undef = .pointer (some ⟨z2, 0, none⟩) := by rw [← Array.getD_eq_getD_getElem?]; exact hh.old 4 rfl
        have hJ := Lib.hid hh.st
        clear hh
        go_simp
        exact ⟨_, rfl, Off.refl _ _, rfl, hJ.out⟩
      · refine regs.StepOK.plain rfl fun L a w1 hh => ?_
        have h43 : a.tmps[43]?.getD undef = .pointer (some ⟨z2, 0, none⟩) := by rw [← Array.getD_eq_getD_getElem?]; exact hh.dep 3 43 (by kernel_rfl) (by kernel_rfl)
        obtain ⟨⟨c0, c1, c2, c3⟩, -, ci⟩ := (hh.st.1.1.2.1).c4
        have hJ := Lib.hid hh.st
        clear hh
        go_simp
        exact ⟨_, rfl, Off.refl _ _, rfl, hJ.out⟩
      · refine regs.StepOK.plain rfl fun L a w1 hh => ?_
        have h42 : a.tmps[42]?.getD undef = .int .i64 ex1 := by rw [← Array.getD_eq_getD_getElem?]; exact hh.dep 2 42 (by kernel_rfl) (by kernel_rfl)
        have h44 : a.tmps[44]?.getD undef = .int .i64 qa := by rw [← Array.getD_eq_getD_getElem?]; exact hh.dep 4 44 (by kernel_rfl) (by kernel_rfl)
        have q := HX1.out
        have hJ := Lib.hid hh.st
        clear hh
        go_simp
        exact ⟨_, rfl, Off.refl _ _, rfl, hJ.out⟩
      · refine regs.StepOK.plain rfl fun L a w1 hh => ?_
        have h40 : a.tmps[40]?.getD undef = .slice (some ⟨z2 + 1 + 1, 0, none⟩) Ln Ln := by rw [← Array.getD_eq_getD_getElem?]; exact hh.dep 0 40 (by kernel_rfl) (by kernel_rfl)
        have h45 : a.tmps[45]?.getD undef = .int .i64 (i1 : Nat) := by rw [← Array.getD_eq_getD_getElem?]; exact hh.dep 5 45 (by kernel_rfl) (by kernel_rfl)
        have t9 := HIL.out.2
        have hJ := Lib.hid hh.st
        clear hh
        go_simp
        exact ⟨_, rfl, Off.refl _ _, rfl, hJ.out⟩
      · refine regs.StepOK.plain rfl fun L a w1 hh => ?_
        have h46 : a.tmps[46]?.getD undef = .pointer (some ⟨(z2 + 1 + 1), i1, none⟩) := by rw [← Array.getD_eq_getD_getElem?]; exact hh.dep 6 46 (by kernel_rfl) (by kernel_rfl)
        have hrd := JO.read hh.st hh.un
        have c0 := (hrd.cell i1).trans HT1.out
        have ci := hrd.inside
        have hJ := Lib.hid (JO.done hh.st)
        clear hh hrd
        go_simp
        exact ⟨_, rfl, Off.refl _ _, rfl, hJ.out⟩
      · refine regs.StepOK.plain rfl fun L a w1 hh => ?_
        have h8 : a.tmps[8]?.getD undef = .pointer (some ⟨(z7 + 1), 0, none⟩) := by rw [← Array.getD_eq_getD_getElem?]; exact hh.old 8 rfl
        have hJ := Lib.hid hh.st
        clear hh
        go_simp
        exact ⟨_, rfl, Off.refl _ _, rfl, hJ.out⟩
      · refine regs.StepOK.plain rfl fun L a w1 hh => ?_
        have h48 : a.tmps[48]?.getD undef = .pointer (some ⟨(z7 + 1), 3, none⟩) := by rw [← Array.getD_eq_getD_getElem?]; exact hh.dep 8 48 (by kernel_rfl) (by kernel_rfl)
        obtain ⟨⟨c0, c1, c2, c3⟩, -, ci⟩ := (hh.st.1.1.1).c4
        have hJ := Lib.hid hh.st
        clear hh
        go_simp
        exact ⟨_, rfl, Off.refl _ _, rfl, hJ.out⟩
      · refine regs.StepOK.plain rfl fun L a w1 hh => ?_
        have h47 : a.tmps[47]?.getD undef = .int .i64 s1 := by rw [← Array.getD_eq_getD_getElem?]; exact hh.dep 7 47 (by kernel_rfl) (by kernel_rfl)
        have h49 : a.tmps[49]?.getD undef = .int .i64 em := by rw [← Array.getD_eq_getD_getElem?]; exact hh.dep 9 49 (by kernel_rfl) (by kernel_rfl)
        have q := HW1.out
        have hJ := Lib.hid hh.st
        clear hh
        go_simp
        exact ⟨_, rfl, Off.refl _ _, rfl, hJ.out⟩
      · refine regs.StepOK.plain rfl fun L a w1 hh => ?_
        have h40 : a.tmps[40]?.getD undef = .slice (some ⟨z2 + 1 + 1, 0, none⟩) Ln Ln := by rw [← Array.getD_eq_getD_getElem?]; exact hh.dep 0 40 (by kernel_rfl) (by kernel_rfl)
        have h45 : a.tmps[45]?.getD undef = .int .i64 (i1 : Nat) := by rw [← Array.getD_eq_getD_getElem?]; exact hh.dep 5 45 (by kernel_rfl) (by kernel_rfl)
        have t9 := HIL.out.2
        have hJ := Lib.hid hh.st
        clear hh
        go_simp
        exact ⟨_, rfl, Off.refl _ _, rfl, hJ.out⟩
      · refine regs.StepOK.plain rfl fun L a w1 hh => ?_
        have h50 : a.tmps[50]?.getD undef = .int .i64 (s1 - em) := by rw [← Array.getD_eq_getD_getElem?]; exact hh.dep 10 50 (by kernel_rfl) (by kernel_rfl)
        have h51 : a.tmps[51]?.getD undef = .pointer (some ⟨(z2 + 1 + 1), i1, none⟩) := by rw [← Array.getD_eq_getD_getElem?]; exact hh.dep 11 51 (by kernel_rfl) (by kernel_rfl)
        have hB := hh.st.2.2.1
        rw [hh.un] at hB
        obtain ⟨vk, ck⟩ : ∃ vk, w1.cell? ⟨z2 + 1 + 1, i1, none⟩ = some vk := ⟨_, (hB.cell i1).trans HT1.out⟩
        have cf := hB.free i1
        have ci := hB.inside
        have hP := Lib.hid (JO.put1 hh.st hh.un (hh.up 7 (by kernel_rfl)) HM2.out)
        clear hh hB
        go_simp
        exact ⟨hP.out.2, ⟨undef, trivial⟩, hP.out.1⟩
      intro L6 w6 val hL hJ hR hv
      have hJ2 := hJ.2.2.1
      rw [hL 12 (by decide)] at hJ2
      have HJJ6 := Lib.hid (And.intro (show Blk w6 (z2 + 1 + 1) (T2.map eI) from hJ2) hR)
      clear hv hL hJ hR hJ2
      simp only [regs.putAll, List.map_cons, List.map_nil]
      generalize val 40 = v40
      generalize val 41 = v41
      generalize val 42 = v42
      generalize val 43 = v43
      generalize val 44 = v44
      generalize val 45 = v45
      generalize val 46 = v46
      generalize val 47 = v47
      generalize val 48 = v48
      generalize val 49 = v49
      generalize val 50 = v50
      generalize val 51 = v51
      simp only [Act.put, List.setIfInBounds_toArray, List.set_cons_zero, List.set_cons_succ]
      have HS6 := Lib.hid (HS5.out.turn HJJ6.out.2 HJJ6.out.1)
      have K76 := Lib.hid (HJJ6.out.2.blk K75.out hn7)
      have K86 := Lib.hid (HJJ6.out.2.blk K85.out hn8)
      have HI6 := Lib.hid (HI.out _ _ _ HI5.out (HJJ6.out.2.to_below HO5.out.size hlo))
      have HO6 : Hid (Off SS w w6) := HO5.out.then_below (HJJ6.out.2.to_below HO5.out.size hlo)
      clear HS5 K75 K85 HI5 HO5 HJJ6 HJ7 hn7 hn8 hlo HT0 HT1 HM1 HM2 HW0 HW1 HX0 HX1 HIL
      have hn1 : IntKind.i64.wrap ((k : Int) + 1) = ((k + 1 : Nat) : Int) := by rw [IntWalk.i64_in _ (by omega)]; omega
      have HK1 : Hid (k + 1 = k + 1) := rfl
      by_cases hk1 : k + 1 < es.length
      · obtain ⟨hr1, -, -, -⟩ := HS6.out.edge hk1
        by_cases hy : es[k].y < es[k + 1].y
        · obtain ⟨y1, hy1⟩ : ∃ y1, es[k + 1].y = y1 := ⟨_, rfl⟩
          have HSAY : Hid (∀ j : Nat, j ≤ Ln → pre T2 j = some_ l (qa + (j : Nat) - 1) ey) := fun j hj => by
            have h := steps_say HF.out.1 HF.out.2 HES.out.1 HES.out.2 hk1 hy Ln hj
            rw [HQE.out, HT2E.out, HEY.out] at h
            exact h
          have HFS : Hid (FB l ey y1 qa 0 = FK l es k) := by
            have h := FB_start HF.out.1 HF.out.2 (es := es) hk1
            rw [HQE.out, HEY.out, hy1] at h
            exact h
          have HFE : Hid (FB l ey y1 qa Ln = FK l es (k + 1)) := by
            have h := FB_end HF.out.1 HF.out.2 HES.out.2 hk1 (L := Ln) (by rw [HQE.out]; exact HL.out.symm)
            rw [HQE.out, HEY.out, hy1] at h
            exact h
          have HSKIP : Hid (∀ X : Nat, some_ l (qa + (X : Nat)) ey = 0 → FB l ey y1 qa (X + 1) = FB l ey y1 qa X) := fun X h => by
            have h2 := FB_skip HES.out.1 HES.out.2 hk1 (a := qa) (X := X) (by rw [HEY.out]; exact h)
            rw [HEY.out, hy1] at h2
            exact h2
          have HROW : Hid (∀ X0 X : Nat, X0 < X → (∀ j : Nat, X0 ≤ j → j < X → some_ l (qa + (j : Nat)) ey ≠ 0) → (fun x y => FB l ey y1 qa X0 x y || Bx.has ⟨qa + (X0 : Nat), ey, qa + (X : Nat), y1⟩ x y) = FB l ey y1 qa X ∧
              ∀ x y, Bx.has ⟨qa + (X0 : Nat), ey, qa + (X : Nat), y1⟩ x y = true → FB l ey y1 qa X0 x y = false ∧ cov l x y = true) := fun X0 X hX h => by
            have h2 := FB_row HES.out.1 HES.out.2 hk1 (a := qa) (X0 := X0) (X := X) hX (by rw [HEY.out]; exact h)
            rw [HEY.out, hy1] at h2
            exact h2
          rw [HEY.out, hy1] at hy
          rw [hy1] at hr1
          clear hy1
          have HPC := Lib.hid hr1
          have HYY := Lib.hid hy
          have HN1 := Lib.hid hn1
          have HLT := Lib.hid hk1
          have HJ8 : Hid (JC8 [(z7, [.int .i64 (k : Nat)]), (z7 + 1, [.int .i64 ey, .int .i64 ex0, .int .i64 ex1, .int .i64 em]), (z2 + 1, [.slice (some ⟨ge, 0, none⟩) es.length cap])] ge ((k + 1) * 4) (.int .i64 y1) w6) := ⟨⟨K76.out, K86.out, HS6.out.k5, trivial⟩, hr1, HS6.out.gi⟩
          clear hr1 hy hn1 hk1
          obtain ⟨n1, hn1⟩ : ∃ n, k + 1 = n := ⟨_, rfl⟩
          have HNK := Lib.hid hn1
          rw [hn1] at HPC HN1 HLT HJ8
          clear hn1
          go_wp2_with (fail)
          refine regs.wp_region_put (regs.bl) (fun _ wx => JC8 [(z7, [.int .i64 (k : Nat)]), (z7 + 1, [.int .i64 ey, .int .i64 ex0, .int .i64 ex1, .int .i64 em]), (z2 + 1, [.slice (some ⟨ge, 0, none⟩) es.length cap])] ge (n1 * 4) (.int .i64 y1) wx) [52, 53, 54, 55, 56, 57, 58, 59, 60, 61, 62, 63, 64, 65, 66, 67] (by kernel_rfl) (by kernel_rfl) (fun _ => regs.bl_refl _) (regs.bl_trans) (fun i => (match i with
            | 0 => regs.Say.val _ (.int .i64 (k : Nat))
            | 1 => regs.Say.val _ (.int .i64 (n1 : Nat))
            | 2 => regs.Say.val _ (.slice (some ⟨ge, 0, none⟩) es.length cap)
            | 3 => regs.Say.val _ (.int .i64 (es.length : Nat))
            | 4 => regs.Say.val _ (.bool true)
            | 5 => regs.Say.val _ (.bool true)
            | 6 => regs.Say.val _ (.pointer (some ⟨(z7 + 1), 0, none⟩))
            | 7 => regs.Say.val _ (.int .i64 ey)
            | 8 => regs.Say.val _ (.slice (some ⟨ge, 0, none⟩) es.length cap)
            | 9 => regs.Say.val _ (.int .i64 (k : Nat))
            | 10 => regs.Say.val _ (.int .i64 (n1 : Nat))
            | 11 => regs.Say.val _ (.pointer (some ⟨ge, n1 * 4, none⟩))
            | 12 => regs.Say.val _ (.pointer (some ⟨ge, n1 * 4, none⟩))
            | 13 => regs.Say.val _ (.int .i64 y1)
            | 14 => regs.Say.val _ (.bool true)
            | 15 => regs.Say.val _ (.bool true)
            | _ => regs.Say.any _ : regs.Say (regs.bl)).p) (fun _ => regs.Say.mono _) (by kernel_rfl) ((Below.refl _ _).drew) (HJ8.out) ⟨?_, ?_, ?_, ?_, ?_, ?_, ?_, ?_, ?_, ?_, ?_, ?_, ?_, ?_, ?_, ?_, trivial⟩ ?_
          · refine regs.StepOK.plain rfl fun L a w1 hh => ?_
            have h7 : a.tmps[7]?.getD undef = .pointer (some ⟨z7, 0, none⟩) := by rw [← Array.getD_eq_getD_getElem?]; exact hh.old 7 rfl
            obtain ⟨c0, -, ci⟩ := (hh.st.1.1).c1
            have hJ := Lib.hid hh.st
            clear hh
            go_simp
            exact ⟨_, rfl, regs.bl_refl _, rfl, hJ.out⟩
          · refine regs.StepOK.plain rfl fun L a w1 hh => ?_
            have h52 : a.tmps[52]?.getD undef = .int .i64 (k : Nat) := by rw [← Array.getD_eq_getD_getElem?]; exact hh.dep 0 52 (by kernel_rfl) (by kernel_rfl)
            have q := HN1.out
            have hJ := Lib.hid hh.st
            clear hh
            go_simp
            exact ⟨_, rfl, regs.bl_refl _, rfl, hJ.out⟩
          · refine regs.StepOK.plain rfl fun L a w1 hh => ?_
            have h5 : a.tmps[5]?.getD undef = .pointer (some ⟨(z2 + 1), 0, none⟩) := by rw [← Array.getD_eq_getD_getElem?]; exact hh.old 5 rfl
            obtain ⟨c0, -, ci⟩ := (hh.st.1.2.2.1).c1
            have hJ := Lib.hid hh.st
            clear hh
            go_simp
            exact ⟨_, rfl, regs.bl_refl _, rfl, hJ.out⟩
          · refine regs.StepOK.plain rfl fun L a w1 hh => ?_
            have h54 : a.tmps[54]?.getD undef = .slice (some ⟨ge, 0, none⟩) es.length cap := by rw [← Array.getD_eq_getD_getElem?]; exact hh.dep 2 54 (by kernel_rfl) (by kernel_rfl)
            have hJ := Lib.hid hh.st
            clear hh
            go_simp
            exact ⟨_, rfl, regs.bl_refl _, rfl, hJ.out⟩
          · refine regs.StepOK.plain rfl fun L a w1 hh => ?_
            have h53 : a.tmps[53]?.getD undef = .int .i64 (n1 : Nat) := by rw [← Array.getD_eq_getD_getElem?]; exact hh.dep 1 53 (by kernel_rfl) (by kernel_rfl)
            have h55 : a.tmps[55]?.getD undef = .int .i64 (es.length : Nat) := by rw [← Array.getD_eq_getD_getElem?]; exact hh.dep 3 55 (by kernel_rfl) (by kernel_rfl)
            have t9 : decide (n1 < es.length) = true := decide_eq_true HLT.out
            have hJ := Lib.hid hh.st
            clear hh
            go_simp
            exact ⟨_, rfl, regs.bl_refl _, rfl, hJ.out⟩
          · refine regs.StepOK.plain rfl fun L a w1 hh => ?_
            have h56 : a.tmps[56]?.getD undef = .bool true := by rw [← Array.getD_eq_getD_getElem?]; exact hh.dep 4 56 (by kernel_rfl) (by kernel_rfl)
            have hJ := Lib.hid hh.st
            clear hh
            go_simp
            exact ⟨_, rfl, regs.bl_refl _, rfl, hJ.out⟩
          · refine regs.StepOK.yes 5 true 57 rfl rfl (fun L a w1 hh => hh.dep 5 57 (by kernel_rfl) (by kernel_rfl)) fun L a w1 hh => ?_
            have h8 : a.tmps[8]?.getD undef = .pointer (some ⟨(z7 + 1), 0, none⟩) := by rw [← Array.getD_eq_getD_getElem?]; exact hh.old 8 rfl
            have hJ := Lib.hid hh.st
            clear hh
            go_simp
            exact ⟨_, rfl, regs.bl_refl _, rfl, hJ.out⟩
          · refine regs.StepOK.yes 5 true 57 rfl rfl (fun L a w1 hh => hh.dep 5 57 (by kernel_rfl) (by kernel_rfl)) fun L a w1 hh => ?_
            have h58 : a.tmps[58]?.getD undef = .pointer (some ⟨(z7 + 1), 0, none⟩) := by rw [← Array.getD_eq_getD_getElem?]; exact hh.dep 6 58 (by kernel_rfl) (by kernel_rfl)
            obtain ⟨⟨c0, c1, c2, c3⟩, -, ci⟩ := (hh.st.1.2.1).c4
            have hJ := Lib.hid hh.st
            clear hh
            go_simp
            exact ⟨_, rfl, regs.bl_refl _, rfl, hJ.out⟩
          · refine regs.StepOK.yes 5 true 57 rfl rfl (fun L a w1 hh => hh.dep 5 57 (by kernel_rfl) (by kernel_rfl)) fun L a w1 hh => ?_
            have h5 : a.tmps[5]?.getD undef = .pointer (some ⟨(z2 + 1), 0, none⟩) := by rw [← Array.getD_eq_getD_getElem?]; exact hh.old 5 rfl
            obtain ⟨c0, -, ci⟩ := (hh.st.1.2.2.1).c1
            have hJ := Lib.hid hh.st
            clear hh
            go_simp
            exact ⟨_, rfl, regs.bl_refl _, rfl, hJ.out⟩
          · refine regs.StepOK.yes 5 true 57 rfl rfl (fun L a w1 hh => hh.dep 5 57 (by kernel_rfl) (by kernel_rfl)) fun L a w1 hh => ?_
            have h7 : a.tmps[7]?.getD undef = .pointer (some ⟨z7, 0, none⟩) := by rw [← Array.getD_eq_getD_getElem?]; exact hh.old 7 rfl
            obtain ⟨c0, -, ci⟩ := (hh.st.1.1).c1
            have hJ := Lib.hid hh.st
            clear hh
            go_simp
            exact ⟨_, rfl, regs.bl_refl _, rfl, hJ.out⟩
          · refine regs.StepOK.yes 5 true 57 rfl rfl (fun L a w1 hh => hh.dep 5 57 (by kernel_rfl) (by kernel_rfl)) fun L a w1 hh => ?_
            have h61 : a.tmps[61]?.getD undef = .int .i64 (k : Nat) := by rw [← Array.getD_eq_getD_getElem?]; exact hh.dep 9 61 (by kernel_rfl) (by kernel_rfl)
            have q := HN1.out
            have hJ := Lib.hid hh.st
            clear hh
            go_simp
            exact ⟨_, rfl, regs.bl_refl _, rfl, hJ.out⟩
          · refine regs.StepOK.yes 5 true 57 rfl rfl (fun L a w1 hh => hh.dep 5 57 (by kernel_rfl) (by kernel_rfl)) fun L a w1 hh => ?_
            have h60 : a.tmps[60]?.getD undef = .slice (some ⟨ge, 0, none⟩) es.length cap := by rw [← Array.getD_eq_getD_getElem?]; exact hh.dep 8 60 (by kernel_rfl) (by kernel_rfl)
            have h62 : a.tmps[62]?.getD undef = .int .i64 (n1 : Nat) := by rw [← Array.getD_eq_getD_getElem?]; exact hh.dep 10 62 (by kernel_rfl) (by kernel_rfl)
            have t9 := HLT.out
            have hJ := Lib.hid hh.st
            clear hh
            go_simp
            exact ⟨_, rfl, regs.bl_refl _, rfl, hJ.out⟩
          · refine regs.StepOK.yes 5 true 57 rfl rfl (fun L a w1 hh => hh.dep 5 57 (by kernel_rfl) (by kernel_rfl)) fun L a w1 hh => ?_
            have h63 : a.tmps[63]?.getD undef = .pointer (some ⟨ge, n1 * 4, none⟩) := by rw [← Array.getD_eq_getD_getElem?]; exact hh.dep 11 63 (by kernel_rfl) (by kernel_rfl)
            have hJ := Lib.hid hh.st
            clear hh
            go_simp
            exact ⟨_, rfl, regs.bl_refl _, rfl, hJ.out⟩
          · refine regs.StepOK.yes 5 true 57 rfl rfl (fun L a w1 hh => hh.dep 5 57 (by kernel_rfl) (by kernel_rfl)) fun L a w1 hh => ?_
            have h64 : a.tmps[64]?.getD undef = .pointer (some ⟨ge, n1 * 4, none⟩) := by rw [← Array.getD_eq_getD_getElem?]; exact hh.dep 12 64 (by kernel_rfl) (by kernel_rfl)
            have c0 := hh.st.2.1
            have ci := hh.st.2.2
            have hJ := Lib.hid hh.st
            clear hh
            go_simp
            exact ⟨_, rfl, regs.bl_refl _, rfl, hJ.out⟩
          · refine regs.StepOK.yes 5 true 57 rfl rfl (fun L a w1 hh => hh.dep 5 57 (by kernel_rfl) (by kernel_rfl)) fun L a w1 hh => ?_
            have h59 : a.tmps[59]?.getD undef = .int .i64 ey := by rw [← Array.getD_eq_getD_getElem?]; exact hh.dep 7 59 (by kernel_rfl) (by kernel_rfl)
            have h65 : a.tmps[65]?.getD undef = .int .i64 y1 := by rw [← Array.getD_eq_getD_getElem?]; exact hh.dep 13 65 (by kernel_rfl) (by kernel_rfl)
            have t9 : decide (ey < y1) = true := decide_eq_true HYY.out
            have hJ := Lib.hid hh.st
            clear hh
            go_simp
            exact ⟨_, rfl, regs.bl_refl _, rfl, hJ.out⟩
          · refine regs.StepOK.plain rfl fun L a w1 hh => ?_
            have h57 : a.tmps[57]?.getD undef = .bool true := by rw [← Array.getD_eq_getD_getElem?]; exact hh.dep 5 57 (by kernel_rfl) (by kernel_rfl)
            have h66 : a.tmps[66]?.getD undef = .bool true := by rw [← Array.getD_eq_getD_getElem?]; exact hh.dep 14 66 (by kernel_rfl) (by kernel_rfl)
            have hJ := Lib.hid hh.st
            clear hh
            go_simp
            exact ⟨_, rfl, regs.bl_refl _, rfl, hJ.out⟩
          intro L w7 val hL hJ hR hv
          have h67 : val 67 = .bool true := hv 15 67 (by kernel_rfl)
          have HK7 := Lib.hid hJ
          have HR7 := Lib.hid hR
          clear hv hL hJ hR
          simp only [regs.putAll, List.map_cons, List.map_nil]
          rw [h67]
          generalize val 52 = v52
          generalize val 53 = v53
          generalize val 54 = v54
          generalize val 55 = v55
          generalize val 56 = v56
          generalize val 57 = v57
          generalize val 58 = v58
          generalize val 59 = v59
          generalize val 60 = v60
          generalize val 61 = v61
          generalize val 62 = v62
          generalize val 63 = v63
          generalize val 64 = v64
          generalize val 65 = v65
          generalize val 66 = v66
          simp only [Act.put, List.setIfInBounds_toArray, List.set_cons_zero, List.set_cons_succ]
          clear h67
          have HS7 := Lib.hid (HS6.out.below HR7.out)
          have K77 : Hid (Blk w7 z7 [.int .i64 (k : Nat)]) := HK7.out.1.1
          have K87 : Hid (Blk w7 (z7 + 1) [.int .i64 ey, .int .i64 ex0, .int .i64 ex1, .int .i64 em]) := HK7.out.1.2.1
          have HI7 := Lib.hid (HI.out _ _ _ HI6.out (HR7.out.mono HO6.out.size))
          have HO7 : Hid (Off SS w w7) := HO6.out.trans (Off.of_below HR7.out)
          have HC7 : Hid (w7.cell? ⟨ge, n1 * 4, none⟩ = some (.int .i64 y1)) := HK7.out.2.1
          clear HS6 K76 K86 HI6 HO6 HR7 HK7 HJ8 HPC
          have HTL : Hid (T2.length = Ln) := by rw [← HT2E.out]; exact stp_len _ _ _
          have HCR : Hid (Calls Tryd.prog 44 #[.slice (some ⟨z2 + 1 + 1, 0, none⟩) Ln Ln, .func (.func 45) #[] #[.pointer (some ⟨w.heap.size, 0, none⟩), .pointer (some ⟨z2, 0, none⟩), .pointer (some ⟨z7 + 1, 0, none⟩), .pointer (some ⟨z2 + 1, 0, none⟩), .pointer (some ⟨z7, 0, none⟩)]] w7
              fun e w' => e = .returned (.tuple #[]) ∧ (I (FB l ey y1 qa Ln) w' ∧ Off SS w w') ∧ Off SS w7 w') := by
            have hnS : ∀ g, w.heap.size ≤ g → g ∉ SS := fun g hg hm => by have := HSS.out g hm; omega
            obtain ⟨l3, l4, l5, ls, lg⟩ := HS7.out.lo
            have hz7 := HZ7.out
            have hLQ := HL.out
            have hBQ := HB.out
            have h := eachRow_any SS T2 (z2 + 1 + 1) Ln 45 #[.pointer (some ⟨w.heap.size, 0, none⟩), .pointer (some ⟨z2, 0, none⟩), .pointer (some ⟨z7 + 1, 0, none⟩), .pointer (some ⟨z2 + 1, 0, none⟩), .pointer (some ⟨z7, 0, none⟩)] enters_each1 (fun X wx => I (FB l ey y1 qa X) wx ∧ Off SS w wx) w7
              HS7.out.ks.inside (hnS _ ls) HS7.out.ks.row_eI (by rw [HTL.out]; omega)
              (fun j hj => by rw [HTL.out] at hj; rw [HSAY.out j hj]; exact ⟨(some_nn _ _ _).1, by have := some_le l (qa + (j : Nat) - 1) ey; omega⟩)
              (by
                rw [HTL.out, HSAY.out Ln (Nat.le_refl _)]
                refine (some_nn _ _ _).2.2 ?_
                cases hc : cov l (qa + (Ln : Nat) - 1) ey with
                | false => rfl
                | true =>
                  have := cov_x HF.out.1 HF.out.2 hc
                  rw [HQE.out] at this
                  simp only at this
                  omega)
              (fun X0 X wa hX hXL hne hz hJ ho => by
                rw [HTL.out] at hXL
                have hsz := ho.size
                have hrow := HROW.out X0 X hX (fun j h1 h2 => by
                  have h3 := hne j h1 h2
                  rw [HSAY.out (j + 1) (by omega)] at h3
                  rw [show qa + ((j + 1 : Nat) : Int) - 1 = qa + (j : Nat) by omega] at h3
                  exact h3)
                have hES := HS7.out.off ho HSS.out
                refine each1_any SS (fun wx => I (FB l ey y1 qa X0) wx ∧ Off SS w wx) (fun wx => I (FB l ey y1 qa X) wx ∧ Off SS w wx)
                  (fun wx wy h hb => ⟨HI.out _ _ _ h.1 (hb.mono h.2.size), h.2.trans (Off.of_below hb)⟩) (fun wx wy h hb => ⟨HI.out _ _ _ h.1 (hb.mono h.2.size), h.2.trans (Off.of_below hb)⟩)
                  gl capt HE.out w.heap.size z2 (z7 + 1) (z2 + 1) z7 ge cap es.length k n1 qa qb qc qd ey ex0 ex1 em y1 X0 X (qa + (X0 : Nat)) (qa + (X : Nat)) (IntWalk.i64_in _ (by omega)) (IntWalk.i64_in _ (by omega)) HN1.out HLT.out (by omega) HYY.out
                  wa hES.k3 hES.k4 (ho.blk K87.out (hnS _ (by omega))) hES.k5 (ho.blk K77.out (hnS _ (by omega))) ?_ hES.gi hJ ⟨hnS _ l3, hnS _ l4, hnS _ (by omega), hnS _ l5, hnS _ (by omega), hnS _ lg⟩ ?_
                · have h3 := ho.far ge HS7.out.gi (hnS _ lg)
                  have h4 : wa.cell? ⟨ge, n1 * 4, none⟩ = w7.cell? ⟨ge, n1 * 4, none⟩ := by simp only [World.cell?, h3]
                  exact h4.trans HC7.out
                · intro wb hb
                  refine (HD.out (FB l ey y1 qa X0) ⟨qa + (X0 : Nat), ey, qa + (X : Nat), y1⟩ wb hrow.2 (emp_ff.2 ⟨by simp only; omega, HYY.out⟩) hb.1 hb.2).mono ?_
                  rintro e wc ⟨he, hI2, ho2⟩
                  rw [hrow.1] at hI2
                  exact ⟨he, ⟨hI2, hb.2.trans ho2⟩, ho2⟩)
              (fun X wa hX hz hJ => by
                rw [HTL.out] at hX
                rw [HSAY.out (X + 1) (by omega), show qa + ((X + 1 : Nat) : Int) - 1 = qa + (X : Nat) by omega] at hz
                rw [HSKIP.out X hz]
                exact hJ)
              ⟨by rw [HFS.out]; exact HI7.out, HO7.out⟩
            rw [HTL.out] at h
            exact h
          clear HSAY HFS HSKIP HROW HYY HN1 HLT HC7 K77 K87 HI7 HO7 HTL
          go_wp2_with (fail)
          refine HCR.out.mono ?_
          rintro e w8 ⟨rfl, ⟨hI8, hO8⟩, ho⟩
          have HS8 := Lib.hid (HS7.out.off ho HSS.out)
          have HI8 : Hid (I (FK l es n1) w8) := by rw [← HNK.out, ← HFE.out]; exact hI8
          have HO8 := Lib.hid hO8
          have HST : Hid (stp (es.take n1) qa Ln = T2) := by rw [← HNK.out]; exact HT2E.out
          have hkn : k + 1 = n1 := HNK.out
          have hk2 : n1 ≤ es.length := by omega
          clear hI8 hO8 ho HCR HS7 HFE
          go_wp2_with (fail)
          go_roundw
          case rel => exact ⟨n1, hk2, by rw [← hkn]; go_num, HI8, HO8, by rw [HST.out]; exact HS8⟩
          case measure => simp [intOf]; omega
        · have HFK : Hid (FK l es (k + 1) = FK l es k) := FK_same hk1 (by have := HES.out.2 k (k + 1) (by omega) hk1 (by omega); omega)
          obtain ⟨y1, hy1⟩ : ∃ y1, es[k + 1].y = y1 := ⟨_, rfl⟩
          rw [HEY.out, hy1] at hy
          rw [hy1] at hr1
          have HPC := Lib.hid hr1
          have HYY := Lib.hid hy
          have HN1 := Lib.hid hn1
          have HLT := Lib.hid hk1
          have HJ8 : Hid (JC8 [(z7, [.int .i64 (k : Nat)]), (z7 + 1, [.int .i64 ey, .int .i64 ex0, .int .i64 ex1, .int .i64 em]), (z2 + 1, [.slice (some ⟨ge, 0, none⟩) es.length cap])] ge ((k + 1) * 4) (.int .i64 y1) w6) := ⟨⟨K76.out, K86.out, HS6.out.k5, trivial⟩, hr1, HS6.out.gi⟩
          clear hr1 hy hn1 hy1 hk1
          obtain ⟨n1, hn1⟩ : ∃ n, k + 1 = n := ⟨_, rfl⟩
          have HNK := Lib.hid hn1
          rw [hn1] at HPC HN1 HLT HJ8
          clear hn1
          go_wp2_with (fail)
          refine regs.wp_region_put (regs.bl) (fun _ wx => JC8 [(z7, [.int .i64 (k : Nat)]), (z7 + 1, [.int .i64 ey, .int .i64 ex0, .int .i64 ex1, .int .i64 em]), (z2 + 1, [.slice (some ⟨ge, 0, none⟩) es.length cap])] ge (n1 * 4) (.int .i64 y1) wx) [52, 53, 54, 55, 56, 57, 58, 59, 60, 61, 62, 63, 64, 65, 66, 67] (by kernel_rfl) (by kernel_rfl) (fun _ => regs.bl_refl _) (regs.bl_trans) (fun i => (match i with
            | 0 => regs.Say.val _ (.int .i64 (k : Nat))
            | 1 => regs.Say.val _ (.int .i64 (n1 : Nat))
            | 2 => regs.Say.val _ (.slice (some ⟨ge, 0, none⟩) es.length cap)
            | 3 => regs.Say.val _ (.int .i64 (es.length : Nat))
            | 4 => regs.Say.val _ (.bool true)
            | 5 => regs.Say.val _ (.bool true)
            | 6 => regs.Say.val _ (.pointer (some ⟨(z7 + 1), 0, none⟩))
            | 7 => regs.Say.val _ (.int .i64 ey)
            | 8 => regs.Say.val _ (.slice (some ⟨ge, 0, none⟩) es.length cap)
            | 9 => regs.Say.val _ (.int .i64 (k : Nat))
            | 10 => regs.Say.val _ (.int .i64 (n1 : Nat))
            | 11 => regs.Say.val _ (.pointer (some ⟨ge, n1 * 4, none⟩))
            | 12 => regs.Say.val _ (.pointer (some ⟨ge, n1 * 4, none⟩))
            | 13 => regs.Say.val _ (.int .i64 y1)
            | 14 => regs.Say.val _ (.bool false)
            | 15 => regs.Say.val _ (.bool false)
            | _ => regs.Say.any _ : regs.Say (regs.bl)).p) (fun _ => regs.Say.mono _) (by kernel_rfl) ((Below.refl _ _).drew) (HJ8.out) ⟨?_, ?_, ?_, ?_, ?_, ?_, ?_, ?_, ?_, ?_, ?_, ?_, ?_, ?_, ?_, ?_, trivial⟩ ?_
          · refine regs.StepOK.plain rfl fun L a w1 hh => ?_
            have h7 : a.tmps[7]?.getD undef = .pointer (some ⟨z7, 0, none⟩) := by rw [← Array.getD_eq_getD_getElem?]; exact hh.old 7 rfl
            obtain ⟨c0, -, ci⟩ := (hh.st.1.1).c1
            have hJ := Lib.hid hh.st
            clear hh
            go_simp
            exact ⟨_, rfl, regs.bl_refl _, rfl, hJ.out⟩
          · refine regs.StepOK.plain rfl fun L a w1 hh => ?_
            have h52 : a.tmps[52]?.getD undef = .int .i64 (k : Nat) := by rw [← Array.getD_eq_getD_getElem?]; exact hh.dep 0 52 (by kernel_rfl) (by kernel_rfl)
            have q := HN1.out
            have hJ := Lib.hid hh.st
            clear hh
            go_simp
            exact ⟨_, rfl, regs.bl_refl _, rfl, hJ.out⟩
          · refine regs.StepOK.plain rfl fun L a w1 hh => ?_
            have h5 : a.tmps[5]?.getD undef = .pointer (some ⟨(z2 + 1), 0, none⟩) := by rw [← Array.getD_eq_getD_getElem?]; exact hh.old 5 rfl
            obtain ⟨c0, -, ci⟩ := (hh.st.1.2.2.1).c1
            have hJ := Lib.hid hh.st
            clear hh
            go_simp
            exact ⟨_, rfl, regs.bl_refl _, rfl, hJ.out⟩
          · refine regs.StepOK.plain rfl fun L a w1 hh => ?_
            have h54 : a.tmps[54]?.getD undef = .slice (some ⟨ge, 0, none⟩) es.length cap := by rw [← Array.getD_eq_getD_getElem?]; exact hh.dep 2 54 (by kernel_rfl) (by kernel_rfl)
            have hJ := Lib.hid hh.st
            clear hh
            go_simp
            exact ⟨_, rfl, regs.bl_refl _, rfl, hJ.out⟩
          · refine regs.StepOK.plain rfl fun L a w1 hh => ?_
            have h53 : a.tmps[53]?.getD undef = .int .i64 (n1 : Nat) := by rw [← Array.getD_eq_getD_getElem?]; exact hh.dep 1 53 (by kernel_rfl) (by kernel_rfl)
            have h55 : a.tmps[55]?.getD undef = .int .i64 (es.length : Nat) := by rw [← Array.getD_eq_getD_getElem?]; exact hh.dep 3 55 (by kernel_rfl) (by kernel_rfl)
            have t9 : decide (n1 < es.length) = true := decide_eq_true HLT.out
            have hJ := Lib.hid hh.st
            clear hh
            go_simp
            exact ⟨_, rfl, regs.bl_refl _, rfl, hJ.out⟩
          · refine regs.StepOK.plain rfl fun L a w1 hh => ?_
            have h56 : a.tmps[56]?.getD undef = .bool true := by rw [← Array.getD_eq_getD_getElem?]; exact hh.dep 4 56 (by kernel_rfl) (by kernel_rfl)
            have hJ := Lib.hid hh.st
            clear hh
            go_simp
            exact ⟨_, rfl, regs.bl_refl _, rfl, hJ.out⟩
          · refine regs.StepOK.yes 5 true 57 rfl rfl (fun L a w1 hh => hh.dep 5 57 (by kernel_rfl) (by kernel_rfl)) fun L a w1 hh => ?_
            have h8 : a.tmps[8]?.getD undef = .pointer (some ⟨(z7 + 1), 0, none⟩) := by rw [← Array.getD_eq_getD_getElem?]; exact hh.old 8 rfl
            have hJ := Lib.hid hh.st
            clear hh
            go_simp
            exact ⟨_, rfl, regs.bl_refl _, rfl, hJ.out⟩
          · refine regs.StepOK.yes 5 true 57 rfl rfl (fun L a w1 hh => hh.dep 5 57 (by kernel_rfl) (by kernel_rfl)) fun L a w1 hh => ?_
            have h58 : a.tmps[58]?.getD undef = .pointer (some ⟨(z7 + 1), 0, none⟩) := by rw [← Array.getD_eq_getD_getElem?]; exact hh.dep 6 58 (by kernel_rfl) (by kernel_rfl)
            obtain ⟨⟨c0, c1, c2, c3⟩, -, ci⟩ := (hh.st.1.2.1).c4
            have hJ := Lib.hid hh.st
            clear hh
            go_simp
            exact ⟨_, rfl, regs.bl_refl _, rfl, hJ.out⟩
          · refine regs.StepOK.yes 5 true 57 rfl rfl (fun L a w1 hh => hh.dep 5 57 (by kernel_rfl) (by kernel_rfl)) fun L a w1 hh => ?_
            have h5 : a.tmps[5]?.getD undef = .pointer (some ⟨(z2 + 1), 0, none⟩) := by rw [← Array.getD_eq_getD_getElem?]; exact hh.old 5 rfl
            obtain ⟨c0, -, ci⟩ := (hh.st.1.2.2.1).c1
            have hJ := Lib.hid hh.st
            clear hh
            go_simp
            exact ⟨_, rfl, regs.bl_refl _, rfl, hJ.out⟩
          · refine regs.StepOK.yes 5 true 57 rfl rfl (fun L a w1 hh => hh.dep 5 57 (by kernel_rfl) (by kernel_rfl)) fun L a w1 hh => ?_
            have h7 : a.tmps[7]?.getD undef = .pointer (some ⟨z7, 0, none⟩) := by rw [← Array.getD_eq_getD_getElem?]; exact hh.old 7 rfl
            obtain ⟨c0, -, ci⟩ := (hh.st.1.1).c1
            have hJ := Lib.hid hh.st
            clear hh
            go_simp
            exact ⟨_, rfl, regs.bl_refl _, rfl, hJ.out⟩
          · refine regs.StepOK.yes 5 true 57 rfl rfl (fun L a w1 hh => hh.dep 5 57 (by kernel_rfl) (by kernel_rfl)) fun L a w1 hh => ?_
            have h61 : a.tmps[61]?.getD undef = .int .i64 (k : Nat) := by rw [← Array.getD_eq_getD_getElem?]; exact hh.dep 9 61 (by kernel_rfl) (by kernel_rfl)
            have q := HN1.out
            have hJ := Lib.hid hh.st
            clear hh
            go_simp
            exact ⟨_, rfl, regs.bl_refl _, rfl, hJ.out⟩
          · refine regs.StepOK.yes 5 true 57 rfl rfl (fun L a w1 hh => hh.dep 5 57 (by kernel_rfl) (by kernel_rfl)) fun L a w1 hh => ?_
            have h60 : a.tmps[60]?.getD undef = .slice (some ⟨ge, 0, none⟩) es.length cap := by rw [← Array.getD_eq_getD_getElem?]; exact hh.dep 8 60 (by kernel_rfl) (by kernel_rfl)
            have h62 : a.tmps[62]?.getD undef = .int .i64 (n1 : Nat) := by rw [← Array.getD_eq_getD_getElem?]; exact hh.dep 10 62 (by kernel_rfl) (by kernel_rfl)
            have t9 := HLT.out
            have hJ := Lib.hid hh.st
            clear hh
            go_simp
            exact ⟨_, rfl, regs.bl_refl _, rfl, hJ.out⟩
          · refine regs.StepOK.yes 5 true 57 rfl rfl (fun L a w1 hh => hh.dep 5 57 (by kernel_rfl) (by kernel_rfl)) fun L a w1 hh => ?_
            have h63 : a.tmps[63]?.getD undef = .pointer (some ⟨ge, n1 * 4, none⟩) := by rw [← Array.getD_eq_getD_getElem?]; exact hh.dep 11 63 (by kernel_rfl) (by kernel_rfl)
            have hJ := Lib.hid hh.st
            clear hh
            go_simp
            exact ⟨_, rfl, regs.bl_refl _, rfl, hJ.out⟩
          · refine regs.StepOK.yes 5 true 57 rfl rfl (fun L a w1 hh => hh.dep 5 57 (by kernel_rfl) (by kernel_rfl)) fun L a w1 hh => ?_
            have h64 : a.tmps[64]?.getD undef = .pointer (some ⟨ge, n1 * 4, none⟩) := by rw [← Array.getD_eq_getD_getElem?]; exact hh.dep 12 64 (by kernel_rfl) (by kernel_rfl)
            have c0 := hh.st.2.1
            have ci := hh.st.2.2
            have hJ := Lib.hid hh.st
            clear hh
            go_simp
            exact ⟨_, rfl, regs.bl_refl _, rfl, hJ.out⟩
          · refine regs.StepOK.yes 5 true 57 rfl rfl (fun L a w1 hh => hh.dep 5 57 (by kernel_rfl) (by kernel_rfl)) fun L a w1 hh => ?_
            have h59 : a.tmps[59]?.getD undef = .int .i64 ey := by rw [← Array.getD_eq_getD_getElem?]; exact hh.dep 7 59 (by kernel_rfl) (by kernel_rfl)
            have h65 : a.tmps[65]?.getD undef = .int .i64 y1 := by rw [← Array.getD_eq_getD_getElem?]; exact hh.dep 13 65 (by kernel_rfl) (by kernel_rfl)
            have t9 : decide (ey < y1) = false := decide_eq_false (Int.not_lt.2 HYY.out)
            have hJ := Lib.hid hh.st
            clear hh
            go_simp
            exact ⟨_, rfl, regs.bl_refl _, rfl, hJ.out⟩
          · refine regs.StepOK.plain rfl fun L a w1 hh => ?_
            have h57 : a.tmps[57]?.getD undef = .bool true := by rw [← Array.getD_eq_getD_getElem?]; exact hh.dep 5 57 (by kernel_rfl) (by kernel_rfl)
            have h66 : a.tmps[66]?.getD undef = .bool false := by rw [← Array.getD_eq_getD_getElem?]; exact hh.dep 14 66 (by kernel_rfl) (by kernel_rfl)
            have hJ := Lib.hid hh.st
            clear hh
            go_simp
            exact ⟨_, rfl, regs.bl_refl _, rfl, hJ.out⟩
          intro L w7 val hL hJ hR hv
          have h67 : val 67 = .bool false := hv 15 67 (by kernel_rfl)
          have HK7 := Lib.hid hJ
          have HR7 := Lib.hid hR
          clear hv hL hJ hR
          simp only [regs.putAll, List.map_cons, List.map_nil]
          rw [h67]
          generalize val 52 = v52
          generalize val 53 = v53
          generalize val 54 = v54
          generalize val 55 = v55
          generalize val 56 = v56
          generalize val 57 = v57
          generalize val 58 = v58
          generalize val 59 = v59
          generalize val 60 = v60
          generalize val 61 = v61
          generalize val 62 = v62
          generalize val 63 = v63
          generalize val 64 = v64
          generalize val 65 = v65
          generalize val 66 = v66
          simp only [Act.put, List.setIfInBounds_toArray, List.set_cons_zero, List.set_cons_succ]
          clear h67
          have HS7 := Lib.hid (HS6.out.below HR7.out)
          have HI7 : Hid (I (FK l es n1) w7) := by rw [← HNK.out, HFK.out]; exact HI.out _ _ _ HI6.out (HR7.out.mono HO6.out.size)
          have HO7 : Hid (Off SS w w7) := HO6.out.trans (Off.of_below HR7.out)
          have HST : Hid (stp (es.take n1) qa Ln = T2) := by rw [← HNK.out]; exact HT2E.out
          have hkn : k + 1 = n1 := HNK.out
          have hk2 : n1 ≤ es.length := by omega
          clear HS6 K76 K86 HI6 HO6 HR7 HK7 HJ8 HFK
          go_wp2_with (fail)
          go_roundw
          case rel => exact ⟨n1, hk2, by rw [← hkn]; go_num, HI7, HO7, by rw [HST.out]; exact HS7⟩
          case measure => simp [intOf]; omega
      · have HFK : Hid (FK l es (k + 1) = FK l es k) := FK_last HES.out.1 HES.out.2 (by omega)
        have HN1 := Lib.hid hn1
        have HLT : Hid (decide (k + 1 < es.length) = false) := decide_eq_false hk1
        have HJ8 : Hid (JBs [(z7, [.int .i64 (k : Nat)]), (z7 + 1, [.int .i64 ey, .int .i64 ex0, .int .i64 ex1, .int .i64 em]), (z2 + 1, [.slice (some ⟨ge, 0, none⟩) es.length cap])] w6) := ⟨K76.out, K86.out, HS6.out.k5, trivial⟩
        clear hn1 hk1
        obtain ⟨n1, hn1⟩ : ∃ n, k + 1 = n := ⟨_, rfl⟩
        have HNK := Lib.hid hn1
        rw [hn1] at HN1 HLT
        clear hn1
        go_wp2_with (fail)
        refine regs.wp_region_put (regs.bl) (fun _ wx => JBs [(z7, [.int .i64 (k : Nat)]), (z7 + 1, [.int .i64 ey, .int .i64 ex0, .int .i64 ex1, .int .i64 em]), (z2 + 1, [.slice (some ⟨ge, 0, none⟩) es.length cap])] wx) [52, 53, 54, 55, 56, 57, 58, 59, 60, 61, 62, 63, 64, 65, 66, 67] (by kernel_rfl) (by kernel_rfl) (fun _ => regs.bl_refl _) (regs.bl_trans) (fun i => (match i with
          | 0 => regs.Say.val _ (.int .i64 (k : Nat))
          | 1 => regs.Say.val _ (.int .i64 (n1 : Nat))
          | 2 => regs.Say.val _ (.slice (some ⟨ge, 0, none⟩) es.length cap)
          | 3 => regs.Say.val _ (.int .i64 (es.length : Nat))
          | 4 => regs.Say.val _ (.bool false)
          | 5 => regs.Say.val _ (.bool false)
          | 6 => regs.Say.val _ (undef)
          | 7 => regs.Say.val _ (undef)
          | 8 => regs.Say.val _ (undef)
          | 9 => regs.Say.val _ (undef)
          | 10 => regs.Say.val _ (undef)
          | 11 => regs.Say.val _ (undef)
          | 12 => regs.Say.val _ (undef)
          | 13 => regs.Say.val _ (undef)
          | 14 => regs.Say.val _ (undef)
          | 15 => regs.Say.val _ (.bool false)
          | _ => regs.Say.any _ : regs.Say (regs.bl)).p) (fun _ => regs.Say.mono _) (by kernel_rfl) ((Below.refl _ _).drew) (HJ8.out) ⟨?_, ?_, ?_, ?_, ?_, ?_, ?_, ?_, ?_, ?_, ?_, ?_, ?_, ?_, ?_, ?_, trivial⟩ ?_
        · refine regs.StepOK.plain rfl fun L a w1 hh => ?_
          have h7 : a.tmps[7]?.getD undef = .pointer (some ⟨z7, 0, none⟩) := by rw [← Array.getD_eq_getD_getElem?]; exact hh.old 7 rfl
          obtain ⟨c0, -, ci⟩ := (hh.st.1).c1
          have hJ := Lib.hid hh.st
          clear hh
          go_simp
          exact ⟨_, rfl, regs.bl_refl _, rfl, hJ.out⟩
        · refine regs.StepOK.plain rfl fun L a w1 hh => ?_
          have h52 : a.tmps[52]?.getD undef = .int .i64 (k : Nat) := by rw [← Array.getD_eq_getD_getElem?]; exact hh.dep 0 52 (by kernel_rfl) (by kernel_rfl)
          have q := HN1.out
          have hJ := Lib.hid hh.st
          clear hh
          go_simp
          exact ⟨_, rfl, regs.bl_refl _, rfl, hJ.out⟩
        · refine regs.StepOK.plain rfl fun L a w1 hh => ?_
          have h5 : a.tmps[5]?.getD undef = .pointer (some ⟨(z2 + 1), 0, none⟩) := by rw [← Array.getD_eq_getD_getElem?]; exact hh.old 5 rfl
          obtain ⟨c0, -, ci⟩ := (hh.st.2.2.1).c1
          have hJ := Lib.hid hh.st
          clear hh
          go_simp
          exact ⟨_, rfl, regs.bl_refl _, rfl, hJ.out⟩
        · refine regs.StepOK.plain rfl fun L a w1 hh => ?_
          have h54 : a.tmps[54]?.getD undef = .slice (some ⟨ge, 0, none⟩) es.length cap := by rw [← Array.getD_eq_getD_getElem?]; exact hh.dep 2 54 (by kernel_rfl) (by kernel_rfl)
          have hJ := Lib.hid hh.st
          clear hh
          go_simp
          exact ⟨_, rfl, regs.bl_refl _, rfl, hJ.out⟩
        · refine regs.StepOK.plain rfl fun L a w1 hh => ?_
          have h53 : a.tmps[53]?.getD undef = .int .i64 (n1 : Nat) := by rw [← Array.getD_eq_getD_getElem?]; exact hh.dep 1 53 (by kernel_rfl) (by kernel_rfl)
          have h55 : a.tmps[55]?.getD undef = .int .i64 (es.length : Nat) := by rw [← Array.getD_eq_getD_getElem?]; exact hh.dep 3 55 (by kernel_rfl) (by kernel_rfl)
          have t9 : decide (n1 < es.length) = false := HLT.out
          have hJ := Lib.hid hh.st
          clear hh
          go_simp
          exact ⟨_, rfl, regs.bl_refl _, rfl, hJ.out⟩
        · refine regs.StepOK.plain rfl fun L a w1 hh => ?_
          have h56 : a.tmps[56]?.getD undef = .bool false := by rw [← Array.getD_eq_getD_getElem?]; exact hh.dep 4 56 (by kernel_rfl) (by kernel_rfl)
          have hJ := Lib.hid hh.st
          clear hh
          go_simp
          exact ⟨_, rfl, regs.bl_refl _, rfl, hJ.out⟩
        · refine regs.StepOK.no 5 true 57 rfl rfl (fun L a w1 hh => ?_) fun L a w1 hh => ⟨rfl, hh.st⟩
          exact hh.dep 5 57 (by kernel_rfl) (by kernel_rfl)
        · refine regs.StepOK.no 5 true 57 rfl rfl (fun L a w1 hh => ?_) fun L a w1 hh => ⟨rfl, hh.st⟩
          exact hh.dep 5 57 (by kernel_rfl) (by kernel_rfl)
        · refine regs.StepOK.no 5 true 57 rfl rfl (fun L a w1 hh => ?_) fun L a w1 hh => ⟨rfl, hh.st⟩
          exact hh.dep 5 57 (by kernel_rfl) (by kernel_rfl)
        · refine regs.StepOK.no 5 true 57 rfl rfl (fun L a w1 hh => ?_) fun L a w1 hh => ⟨rfl, hh.st⟩
          exact hh.dep 5 57 (by kernel_rfl) (by kernel_rfl)
        · refine regs.StepOK.no 5 true 57 rfl rfl (fun L a w1 hh => ?_) fun L a w1 hh => ⟨rfl, hh.st⟩
          exact hh.dep 5 57 (by kernel_rfl) (by kernel_rfl)
        · refine regs.StepOK.no 5 true 57 rfl rfl (fun L a w1 hh => ?_) fun L a w1 hh => ⟨rfl, hh.st⟩
          exact hh.dep 5 57 (by kernel_rfl) (by kernel_rfl)
        · refine regs.StepOK.no 5 true 57 rfl rfl (fun L a w1 hh => ?_) fun L a w1 hh => ⟨rfl, hh.st⟩
          exact hh.dep 5 57 (by kernel_rfl) (by kernel_rfl)
        · refine regs.StepOK.no 5 true 57 rfl rfl (fun L a w1 hh => ?_) fun L a w1 hh => ⟨rfl, hh.st⟩
          exact hh.dep 5 57 (by kernel_rfl) (by kernel_rfl)
        · refine regs.StepOK.no 5 true 57 rfl rfl (fun L a w1 hh => ?_) fun L a w1 hh => ⟨rfl, hh.st⟩
          exact hh.dep 5 57 (by kernel_rfl) (by kernel_rfl)
        · refine regs.StepOK.plain rfl fun L a w1 hh => ?_
          have h57 : a.tmps[57]?.getD undef = .bool false := by rw [← Array.getD_eq_getD_getElem?]; exact hh.dep 5 57 (by kernel_rfl) (by kernel_rfl)
          have hJ := Lib.hid hh.st
          clear hh
          go_simp
          exact ⟨_, rfl, regs.bl_refl _, rfl, hJ.out⟩
        intro L w7 val hL hJ hR hv
        have h67 : val 67 = .bool false := hv 15 67 (by kernel_rfl)
        have HK7 := Lib.hid hJ
        have HR7 := Lib.hid hR
        clear hv hL hJ hR
        simp only [regs.putAll, List.map_cons, List.map_nil]
        rw [h67]
        generalize val 52 = v52
        generalize val 53 = v53
        generalize val 54 = v54
        generalize val 55 = v55
        generalize val 56 = v56
        generalize val 57 = v57
        generalize val 58 = v58
        generalize val 59 = v59
        generalize val 60 = v60
        generalize val 61 = v61
        generalize val 62 = v62
        generalize val 63 = v63
        generalize val 64 = v64
        generalize val 65 = v65
        generalize val 66 = v66
        simp only [Act.put, List.setIfInBounds_toArray, List.set_cons_zero, List.set_cons_succ]
        clear h67
        have HS7 := Lib.hid (HS6.out.below HR7.out)
        have HI7 : Hid (I (FK l es n1) w7) := by rw [← HNK.out, HFK.out]; exact HI.out _ _ _ HI6.out (HR7.out.mono HO6.out.size)
        have HO7 : Hid (Off SS w w7) := HO6.out.trans (Off.of_below HR7.out)
        have HST : Hid (stp (es.take n1) qa Ln = T2) := by rw [← HNK.out]; exact HT2E.out
        have hkn : k + 1 = n1 := HNK.out
        have hk2 : n1 ≤ es.length := by omega
        clear HS6 K76 K86 HI6 HO6 HR7 HK7 HJ8 HFK
        go_wp2_with (fail)
        go_roundw
        case rel => exact ⟨n1, hk2, by rw [← hkn]; go_num, HI7, HO7, by rw [HST.out]; exact HS7⟩
        case measure => simp [intOf]; omega
    · obtain rfl : k = es.length := by omega
      have t : decide (es.length < es.length) = false := by simp
      have hI2 := HIK.out
      rw [FK_end] at hI2
      have HI2 := Lib.hid hI2
      clear hI2
      go_wp2_with (fail)
      go_end0
      exact ⟨rfl, HI2.out, HOK.out⟩
end Go.Proofs.YtboelbmpcbeifaaDoor
