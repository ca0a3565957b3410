import Derived.Test.YtehmblcbccceaaaGreatLScQ
namespace Go.Proofs.YtehmblcbccceaaaGreat
open Go.RowKit pxm imm trm Go.Maps
def doS (most : Int) (x : PSc) (o : Op9) : PSc × Int :=
  if o.k = 1 then createS most x o.i o.p o.n else if o.k = 2 then removeS x o.i else if o.k = 3 then moveS x o.i o.p o.n else if 4 ≤ o.k ∧ o.k ≤ 8 then setS x o else (x,38)
structure OpOk (o : Op9) : Prop where
  i : I64 o.i
  p : I64 o.p
  fit : Fit { Nd.plain with lk := o.lk }
theorem OpQ.under {g b m : Nat} {Z : ZZ} {s : Sh} {x : PSc} {r : PSc × Int} {w w1 w' : World} {e : Ending} (h : OpQ g b m Z s x r w1 e w') (hb : Below w.heap.size w w1) : OpQ g b m Z s x r w e w' := by
  obtain ⟨fv,s',h1,h2,h3,h4⟩ := h
  exact ⟨fv,s',h1,h2,(TurnP.below hb).trans h3,h4⟩
section
variable {w : World} {g b m : Nat} {s : Sh} {Z : ZZ} {x : PSc}
set_option maxHeartbeats 4000000 in
set_option maxRecDepth 100000 in
theorem do_any (h : SceneAt w g b m s Z x) (hn : x.t.length ≤ 900) (o : Op9) (Ao : Option Addr) (co : Nat) (hr : Row eW w Ao o.lk.l) (ho : OpOk o) (hfx : ∀ i,has x.t i = true → Fit (x.nd i)) :
    Calls Tryz.prog 96 #[.pointer (some ⟨g,0,none⟩),o.v Ao co] w (OpQ g b m Z s x (doS Z.2.2 x o) w) := by
  have HB : Hid (Below w.heap.size w (w.alloc (.cells (o.cs Ao co).toArray 77))) := (Below.refl _ _).alloc (Nat.le_refl _) _
  have HK : Hid (Blk (w.alloc (.cells (o.cs Ao co).toArray 77)) w.heap.size (o.cs Ao co)) := blk_new w (o.cs Ao co) _
  have HS : Hid (SceneAt (w.alloc (.cells (o.cs Ao co).toArray 77)) g b m s Z x) := h.below HB.out
  have HR : Hid (Row eW (w.alloc (.cells (o.cs Ao co).toArray 77)) Ao o.lk.l) := Row.below hr HB.out
  have HN := Lib.hid hn
  have HO := Lib.hid ho
  have HFX := Lib.hid hfx
  obtain ⟨R,hR⟩ : ∃ R,doS Z.2.2 x o = R := ⟨_,rfl⟩
  have HE := Lib.hid hR
  rw [hR]
  clear hR h hn hr ho hfx
  unfold Op9.v
  go_enter Tryz.func96,Tryz.ntmps96
  go_upto_region 1 with (fail)
  generalize (w.alloc (.cells (o.cs Ao co).toArray 77)) = w0 at *
  have c0 : w0.cell? ⟨w.heap.size,0,none⟩ = some (.int .i64 o.k) := HK.out.cell 0
  have c1 : w0.cell? ⟨w.heap.size,1,none⟩ = some (.int .i64 o.i) := HK.out.cell 1
  have c2 : w0.cell? ⟨w.heap.size,2,none⟩ = some (.int .i64 o.p) := HK.out.cell 2
  have c3 : w0.cell? ⟨w.heap.size,3,none⟩ = some (.int .i64 o.n) := HK.out.cell 3
  have i0 : w.heap.size < w0.heap.size := HK.out.inside
  by_cases h1 : o.k = 1
  · skip
    have t1 : (o.k == 1) = true := by simpa using h1
    have HE2 : Hid (R = createS Z.2.2 x o.i o.p o.n) := by show _ = _; rw [← HE.out]; unfold doS; rw [if_pos h1]
    clear h1 HE
    have HC := Lib.hid (create_any HS.out HN.out o.i o.p o.n HO.out.i HO.out.p)
    go_wp2_with (fail)
    refine HC.out.mono ?_
    rw [← HE2.out]
    rintro e w1 ⟨fv,s1,rfl,h2,h3,h4⟩
    have H2 := Lib.hid h2
    have H3 := Lib.hid h3
    have H4 := Lib.hid h4
    clear h2 h3 h4
    go_wp2_with (fail)
    go_ret2
    exact ⟨_,s1,rfl,H2.out,(TurnP.below HB.out).trans H3.out,H4.out⟩
  by_cases h2 : o.k = 2
  · skip
    have t1 : (o.k == 1) = false := by simpa using h1
    have t2 : (o.k == 2) = true := by simpa using h2
    have HE2 : Hid (R = removeS x o.i) := by show _ = _; rw [← HE.out]; unfold doS; rw [if_neg h1,if_pos h2]
    clear h1 h2 HE
    have HC := Lib.hid (remove_any HS.out HN.out o.i HO.out.i)
    go_wp2_with (fail)
    refine HC.out.mono ?_
    rw [← HE2.out]
    rintro e w1 ⟨fv,s1,rfl,h2,h3,h4⟩
    have H2 := Lib.hid h2
    have H3 := Lib.hid h3
    have H4 := Lib.hid h4
    clear h2 h3 h4
    go_wp2_with (fail)
    go_ret2
    exact ⟨_,s1,rfl,H2.out,(TurnP.below HB.out).trans H3.out,H4.out⟩
  by_cases h3 : o.k = 3
  · skip
    have t1 : (o.k == 1) = false := by simpa using h1
    have t2 : (o.k == 2) = false := by simpa using h2
    have t3 : (o.k == 3) = true := by simpa using h3
    have HE2 : Hid (R = moveS x o.i o.p o.n) := by show _ = _; rw [← HE.out]; unfold doS; rw [if_neg h1,if_neg h2,if_pos h3]
    clear h1 h2 h3 HE
    have HC := Lib.hid (move_any HS.out HN.out o.i o.p o.n HO.out.i HO.out.p)
    go_wp2_with (fail)
    refine HC.out.mono ?_
    rw [← HE2.out]
    rintro e w1 ⟨fv,s1,rfl,h2,h3,h4⟩
    have H2 := Lib.hid h2
    have H3 := Lib.hid h3
    have H4 := Lib.hid h4
    clear h2 h3 h4
    go_wp2_with (fail)
    go_ret2
    exact ⟨_,s1,rfl,H2.out,(TurnP.below HB.out).trans H3.out,H4.out⟩
  by_cases h4 : o.k = 4
  · skip
    have t1 : (o.k == 1) = false := by simpa using h1
    have t2 : (o.k == 2) = false := by simpa using h2
    have t3 : (o.k == 3) = false := by simpa using h3
    have t4 : (o.k == 4) = true := by simpa using h4
    have HE2 : Hid (R = setS x o) := by show _ = _; rw [← HE.out]; unfold doS; rw [if_neg h1,if_neg h2,if_neg h3,if_pos (by omega)]
    clear h1 h2 h3 h4 HE
    have HC := Lib.hid (set_any HS.out (by have := HN.out; omega) o Ao co HR.out HO.out.fit HFX.out HO.out.i)
    go_wp2_with (first | (with_reducible show wpList _ _ _ (Oper.mk _ (Op.load _ _) _ _ _ _ :: _) _ _; first | (refine wpl_take 77 _ rfl rfl _ 0 rfl (o.cs Ao co) HK.out (o.cs Ao co) rfl _ Tryz.underlying77 rfl (by kernel_rfl) ?_)))
    refine HC.out.mono ?_
    rw [← HE2.out]
    rintro e w1 ⟨fv,s1,rfl,h2,h3,h4⟩
    have H2 := Lib.hid h2
    have H3 := Lib.hid h3
    have H4 := Lib.hid h4
    clear h2 h3 h4
    go_wp2_with (fail)
    go_ret2
    exact ⟨_,s1,rfl,H2.out,(TurnP.below HB.out).trans H3.out,H4.out⟩
  by_cases h5 : o.k = 5
  · skip
    have t1 : (o.k == 1) = false := by simpa using h1
    have t2 : (o.k == 2) = false := by simpa using h2
    have t3 : (o.k == 3) = false := by simpa using h3
    have t4 : (o.k == 4) = false := by simpa using h4
    have t5 : (o.k == 5) = true := by simpa using h5
    have HE2 : Hid (R = setS x o) := by show _ = _; rw [← HE.out]; unfold doS; rw [if_neg h1,if_neg h2,if_neg h3,if_pos (by omega)]
    clear h1 h2 h3 h4 h5 HE
    have HC := Lib.hid (set_any HS.out (by have := HN.out; omega) o Ao co HR.out HO.out.fit HFX.out HO.out.i)
    go_wp2_with (first | (with_reducible show wpList _ _ _ (Oper.mk _ (Op.load _ _) _ _ _ _ :: _) _ _; first | (refine wpl_take 77 _ rfl rfl _ 0 rfl (o.cs Ao co) HK.out (o.cs Ao co) rfl _ Tryz.underlying77 rfl (by kernel_rfl) ?_)))
    refine HC.out.mono ?_
    rw [← HE2.out]
    rintro e w1 ⟨fv,s1,rfl,h2,h3,h4⟩
    have H2 := Lib.hid h2
    have H3 := Lib.hid h3
    have H4 := Lib.hid h4
    clear h2 h3 h4
    go_wp2_with (fail)
    go_ret2
    exact ⟨_,s1,rfl,H2.out,(TurnP.below HB.out).trans H3.out,H4.out⟩
  by_cases h6 : o.k = 6
  · skip
    have t1 : (o.k == 1) = false := by simpa using h1
    have t2 : (o.k == 2) = false := by simpa using h2
    have t3 : (o.k == 3) = false := by simpa using h3
    have t4 : (o.k == 4) = false := by simpa using h4
    have t5 : (o.k == 5) = false := by simpa using h5
    have t6 : (o.k == 6) = true := by simpa using h6
    have HE2 : Hid (R = setS x o) := by show _ = _; rw [← HE.out]; unfold doS; rw [if_neg h1,if_neg h2,if_neg h3,if_pos (by omega)]
    clear h1 h2 h3 h4 h5 h6 HE
    have HC := Lib.hid (set_any HS.out (by have := HN.out; omega) o Ao co HR.out HO.out.fit HFX.out HO.out.i)
    go_wp2_with (first | (with_reducible show wpList _ _ _ (Oper.mk _ (Op.load _ _) _ _ _ _ :: _) _ _; first | (refine wpl_take 77 _ rfl rfl _ 0 rfl (o.cs Ao co) HK.out (o.cs Ao co) rfl _ Tryz.underlying77 rfl (by kernel_rfl) ?_)))
    refine HC.out.mono ?_
    rw [← HE2.out]
    rintro e w1 ⟨fv,s1,rfl,h2,h3,h4⟩
    have H2 := Lib.hid h2
    have H3 := Lib.hid h3
    have H4 := Lib.hid h4
    clear h2 h3 h4
    go_wp2_with (fail)
    go_ret2
    exact ⟨_,s1,rfl,H2.out,(TurnP.below HB.out).trans H3.out,H4.out⟩
  by_cases h7 : o.k = 7
  · skip
    have t1 : (o.k == 1) = false := by simpa using h1
    have t2 : (o.k == 2) = false := by simpa using h2
    have t3 : (o.k == 3) = false := by simpa using h3
    have t4 : (o.k == 4) = false := by simpa using h4
    have t5 : (o.k == 5) = false := by simpa using h5
    have t6 : (o.k == 6) = false := by simpa using h6
    have t7 : (o.k == 7) = true := by simpa using h7
    have HE2 : Hid (R = setS x o) := by show _ = _; rw [← HE.out]; unfold doS; rw [if_neg h1,if_neg h2,if_neg h3,if_pos (by omega)]
    clear h1 h2 h3 h4 h5 h6 h7 HE
    have HC := Lib.hid (set_any HS.out (by have := HN.out; omega) o Ao co HR.out HO.out.fit HFX.out HO.out.i)
    go_wp2_with (first | (with_reducible show wpList _ _ _ (Oper.mk _ (Op.load _ _) _ _ _ _ :: _) _ _; first | (refine wpl_take 77 _ rfl rfl _ 0 rfl (o.cs Ao co) HK.out (o.cs Ao co) rfl _ Tryz.underlying77 rfl (by kernel_rfl) ?_)))
    refine HC.out.mono ?_
    rw [← HE2.out]
    rintro e w1 ⟨fv,s1,rfl,h2,h3,h4⟩
    have H2 := Lib.hid h2
    have H3 := Lib.hid h3
    have H4 := Lib.hid h4
    clear h2 h3 h4
    go_wp2_with (fail)
    go_ret2
    exact ⟨_,s1,rfl,H2.out,(TurnP.below HB.out).trans H3.out,H4.out⟩
  by_cases h8 : o.k = 8
  · skip
    have t1 : (o.k == 1) = false := by simpa using h1
    have t2 : (o.k == 2) = false := by simpa using h2
    have t3 : (o.k == 3) = false := by simpa using h3
    have t4 : (o.k == 4) = false := by simpa using h4
    have t5 : (o.k == 5) = false := by simpa using h5
    have t6 : (o.k == 6) = false := by simpa using h6
    have t7 : (o.k == 7) = false := by simpa using h7
    have t8 : (o.k == 8) = true := by simpa using h8
    have HE2 : Hid (R = setS x o) := by show _ = _; rw [← HE.out]; unfold doS; rw [if_neg h1,if_neg h2,if_neg h3,if_pos (by omega)]
    clear h1 h2 h3 h4 h5 h6 h7 h8 HE
    have HC := Lib.hid (set_any HS.out (by have := HN.out; omega) o Ao co HR.out HO.out.fit HFX.out HO.out.i)
    go_wp2_with (first | (with_reducible show wpList _ _ _ (Oper.mk _ (Op.load _ _) _ _ _ _ :: _) _ _; first | (refine wpl_take 77 _ rfl rfl _ 0 rfl (o.cs Ao co) HK.out (o.cs Ao co) rfl _ Tryz.underlying77 rfl (by kernel_rfl) ?_)))
    refine HC.out.mono ?_
    rw [← HE2.out]
    rintro e w1 ⟨fv,s1,rfl,h2,h3,h4⟩
    have H2 := Lib.hid h2
    have H3 := Lib.hid h3
    have H4 := Lib.hid h4
    clear h2 h3 h4
    go_wp2_with (fail)
    go_ret2
    exact ⟨_,s1,rfl,H2.out,(TurnP.below HB.out).trans H3.out,H4.out⟩
  · skip
    have t1 : (o.k == 1) = false := by simpa using h1
    have t2 : (o.k == 2) = false := by simpa using h2
    have t3 : (o.k == 3) = false := by simpa using h3
    have t4 : (o.k == 4) = false := by simpa using h4
    have t5 : (o.k == 5) = false := by simpa using h5
    have t6 : (o.k == 6) = false := by simpa using h6
    have t7 : (o.k == 7) = false := by simpa using h7
    have t8 : (o.k == 8) = false := by simpa using h8
    have HE2 : Hid (R = (x,38)) := by show _ = _; rw [← HE.out]; unfold doS; rw [if_neg h1,if_neg h2,if_neg h3,if_neg (by omega)]
    clear h1 h2 h3 h4 h5 h6 h7 h8 HE
    go_wp2_with (fail)
    go_ret2
    rw [HE2.out]
    exact ⟨_,s,rfl,HS.out,TurnP.below HB.out,fun e => nomatch e⟩
end
end Go.Proofs.YtehmblcbccceaaaGreat
