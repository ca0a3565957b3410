import Derived.Test.YtehmblcbccceaaaGreatLScY
namespace Go.Proofs.YtehmblcbccceaaaGreat
open Go.RowKit pxm imm trm Go.Maps
abbrev tFresh : TypeId := 211
theorem und_fresh : Tryz.prog.underlying tFresh = some (.map 3 68) := Tryz.underlying211
theorem zero_map (w : World) : (zeroValue 68).run Tryz.prog w = .ok (.agg Mp.o.cs.toArray) w := by kernel_rfl
def FRm (w : World) (mf : Nat) (fr : Int → Option Mp) : Prop := ∃ es,VM w mf es ∧ ∀ j,omap.look es j = (fr j).map fun q => .agg q.cs.toArray
theorem FRm.stays {w w' : World} {mf : Nat} {fr : Int → Option Mp} (h : FRm w mf fr) (hb : w'.heap[mf]? = w.heap[mf]?) : FRm w' mf fr := by
  obtain ⟨es,h1,h2⟩ := h
  exact ⟨es,h1.stays hb,h2⟩
theorem FRm.inside {w : World} {mf : Nat} {fr : Int → Option Mp} (h : FRm w mf fr) : mf < w.heap.size := h.elim fun _ h => h.1.inside
theorem FRm.below {w w' : World} {mf : Nat} {fr : Int → Option Mp} (h : FRm w mf fr) (hb : Below w.heap.size w w') : FRm w' mf fr := h.stays (hb.block _ h.inside)
theorem FRm.look {w : World} {mf : Nat} {fr : Int → Option Mp} (h : FRm w mf fr) {i : Int} (hi : I64 i) : (Instr.lookup tFresh (.map (some mf)) (.int .i64 i) true).run Tryz.prog w = .ok (.tuple #[.agg (((fr i).getD Mp.o).cs).toArray,.bool (fr i).isSome]) w := by
  obtain ⟨es,h1,h2⟩ := h
  have h3 := h1.look_ok und_fresh (zero_map w) hi
  rw [h2] at h3
  cases e : fr i with
  | none => rw [e] at h3; exact h3
  | some q => rw [e] at h3; exact h3
theorem field_map (n : Nd) (A : Option Addr) (c : Nat) (w : World) : (Instr.field 72 (.agg (n.cs A c).toArray) 0).run Tryz.prog w = .ok (.agg n.m.cs.toArray) w := by kernel_rfl
theorem field_world (n : Nd) (A : Option Addr) (c : Nat) (u : Mp) (w : World) : (Instr.field tPlaced (.agg (plcs n A c u).toArray) 1).run Tryz.prog w = .ok (.agg u.cs.toArray) w := by kernel_rfl
theorem bs_map (q : Mp) (w : World) : (Instr.buildSlice 278 1 #[(0,.agg q.cs.toArray)]).run Tryz.prog w = .ok (.slice (some ⟨w.heap.size,0,none⟩) 1 1) (w.alloc (.cells q.cs.toArray 68)) := by kernel_rfl
def reckonS (x : PSc) (fr : Int → Option Mp) (i : Int) : Mp × Int := if i = 0 then ((ndAt x i).m,0) else (ndAt x i).m.thens [(fr (par x.t i)).getD (wsAt x (par x.t i))]
section
variable {w w' : World} {g b m : Nat} {s : Sh} {Z : ZZ} {x : PSc}
theorem SceneAt.look_no (h : SceneAt w g b m s Z x) {i : Int} (hi : I64 i) : ∃ A c,∀ W,Below w.heap.size w W → (Instr.lookup tPlaces (.map (some m)) (.int .i64 i) false).run Tryz.prog W = .ok (.agg (plcs (ndAt x i) A c (wsAt x i)).toArray) W := by
  obtain ⟨A,c,hl⟩ := h.look_all hi
  exact ⟨A,c,fun W hb => (hl W hb).1⟩
set_option maxHeartbeats 4000000 in
set_option maxRecDepth 100000 in
theorem reckon_any (h : SceneAt w g b m s Z x) (i : Int) (hi : I64 i) {mf : Nat} {fr : Int → Option Mp} (hf : FRm w mf fr) :
    Calls Tryz.prog 99 #[.pointer (some ⟨g,0,none⟩),.int .i64 i,.map (some mf)] w fun e w' => e = .returned (.tuple #[.agg ((reckonS x fr i).1.cs).toArray,.int .i64 (reckonS x fr i).2]) ∧ Below w.heap.size w w' := by
  obtain ⟨R,hR⟩ : ∃ R,reckonS x fr i = R := ⟨_,rfl⟩
  have HR := Lib.hid hR
  rw [hR]
  unfold reckonS at HR
  obtain ⟨A,c,hl⟩ := h.look_no hi
  obtain ⟨n,hn⟩ : ∃ n,ndAt x i = n := ⟨_,rfl⟩
  obtain ⟨u,hu⟩ : ∃ u,wsAt x i = u := ⟨_,rfl⟩
  obtain ⟨p,hp⟩ : ∃ p,par x.t i = p := ⟨_,rfl⟩
  rw [hn,hu] at hl
  rw [hn,hp] at HR
  have HL := Lib.hid hl
  have HP := Lib.hid hp
  have HP64 : Hid (I64 p) := by rw [← hp]; exact par_64 h.tree.ok i
  have HS := Lib.hid h
  have HF := Lib.hid hf
  have HI := Lib.hid hi
  have HB0 : Hid (Below w.heap.size w (w.alloc (.cells #[.int .i64 0,.int .i64 0,.int .i64 0,.int .i64 0,.int .i64 0,.int .i64 0] 68))) := (Below.refl _ _).alloc (Nat.le_refl _) _
  have HZ0 : Hid (Blk (w.alloc (.cells #[.int .i64 0,.int .i64 0,.int .i64 0,.int .i64 0,.int .i64 0,.int .i64 0] 68)) w.heap.size [.int .i64 0,.int .i64 0,.int .i64 0,.int .i64 0,.int .i64 0,.int .i64 0]) := blk_new w [.int .i64 0,.int .i64 0,.int .i64 0,.int .i64 0,.int .i64 0,.int .i64 0] _
  have HSZ : Hid ((w.alloc (.cells #[.int .i64 0,.int .i64 0,.int .i64 0,.int .i64 0,.int .i64 0,.int .i64 0] 68)).heap.size = w.heap.size + 1) := by show _ = _; simp
  clear hR hl hn hu hp h hf hi
  go_enter Tryz.func99,Tryz.ntmps99
  go_upto_region 1 with (fail)
  generalize (w.alloc (.cells #[.int .i64 0,.int .i64 0,.int .i64 0,.int .i64 0,.int .i64 0,.int .i64 0] 68)) = w0 at *
  obtain ⟨⟨-,-,-,-,-,c5⟩,i0⟩ := (HS.out.below HB0.out).top
  have hlk := HL.out w0 HB0.out
  have hf1 := field_node n A c u w0
  have hf2 := field_map n A c w0
  have HZ2 : Hid (Blk (w0.alloc (.cells #[.int .i64 0,.int .i64 0,.int .i64 0,.int .i64 0,.int .i64 0,.int .i64 0] 68)) w0.heap.size [.int .i64 0,.int .i64 0,.int .i64 0,.int .i64 0,.int .i64 0,.int .i64 0]) := blk_new w0 [.int .i64 0,.int .i64 0,.int .i64 0,.int .i64 0,.int .i64 0,.int .i64 0] _
  have HBa : Hid (Below w0.heap.size w0 (w0.alloc (.cells #[.int .i64 0,.int .i64 0,.int .i64 0,.int .i64 0,.int .i64 0,.int .i64 0] 68))) := (Below.refl _ _).alloc (Nat.le_refl _) _
  go_upto_region 2 with (first | (with_reducible show wpList _ _ _ (Oper.mk _ (Op.store _ _ _) _ _ _ _ :: _) _ _; first | (refine wpl_stow 68 _ _ rfl rfl rfl _ 0 rfl (n.m.cs) rfl ([.int .i64 0,.int .i64 0,.int .i64 0,.int .i64 0,.int .i64 0,.int .i64 0]) HZ2.out (n.m.cs) rfl (Nat.le_of_ble_eq_true rfl) (by kernel_rfl) (Mp.one1 _) ?_; intro w3 HW3 HK3)))
  have HB3 : Hid (Below w0.heap.size w0 w3) := HW3.out.below HBa.out (Nat.le_refl _)
  have HB03 : Hid (Below w.heap.size w w3) := HB0.out.trans (HB3.out.mono HB0.out.size)
  have HZ3 : Hid (Blk w3 w.heap.size [.int .i64 0,.int .i64 0,.int .i64 0,.int .i64 0,.int .i64 0,.int .i64 0]) := HZ0.out.below' HB3.out
  have HLT : Hid (w.heap.size < w0.heap.size ∧ w0.heap.size < w3.heap.size) := ⟨by have := HSZ.out; omega,HK3.out.inside⟩
  clear hlk hf1 hf2 c5 i0 HZ2 HBa HW3 HZ0 HL
  obtain ⟨k8,hk8⟩ : ∃ k8,w0.heap.size = k8 := ⟨_,rfl⟩
  rw [hk8] at HK3 HLT ⊢
  clear hk8 HSZ
  by_cases h0 : i = 0
  · subst h0
    have HE : Hid (R = (n.m,0)) := by show _ = _; rw [← HR.out,if_pos rfl]
    clear HR
    go_wp2_with (first | (with_reducible show wpList _ _ _ (Oper.mk _ (Op.load _ _) _ _ _ _ :: _) _ _; first | (refine wpl_take 68 _ rfl rfl _ 0 rfl (n.m.cs) HK3.out (n.m.cs) rfl _ Tryz.underlying68 rfl (by kernel_rfl) ?_)) | (with_reducible show wpList _ _ _ (Oper.mk _ (Op.store _ _ _) _ _ _ _ :: _) _ _; first | (refine wpl_stow 68 _ _ rfl rfl rfl _ 0 rfl (n.m.cs) rfl ([.int .i64 0,.int .i64 0,.int .i64 0,.int .i64 0,.int .i64 0,.int .i64 0]) HZ3.out (n.m.cs) rfl (Nat.le_of_ble_eq_true rfl) (by kernel_rfl) (Mp.one1 _) ?_; intro w4 HW4 HK4)))
    rw [HE.out]
    exact blk_ret2 rfl rfl rfl HK4.out Tryz.underlying68 rfl (by kernel_rfl) ⟨rfl,HW4.out.below HB03.out (Nat.le_refl _)⟩
  have t1 : (i == 0) = false := by simpa using h0
  have HE : Hid (R = n.m.thens [(fr p).getD (wsAt x p)]) := by show _ = _; rw [← HR.out,if_neg h0]
  clear HR h0
  have HS3 := Lib.hid (HS.out.below HB03.out)
  have HPC := Lib.hid (tparent HS3.out.tree i HI.out)
  rw [HP.out] at HPC
  obtain ⟨⟨c0,-,-,-,-,-⟩,i0⟩ := HS3.out.top
  have hinv := inv_parent (.pointer (some ⟨b,0,none⟩))
  go_wp2_with (fail)
  refine HPC.out.mono ?_
  rintro e w4 ⟨rfl,hb4⟩
  have HB4 := Lib.hid hb4
  have HB04 : Hid (Below w.heap.size w w4) := HB03.out.trans (hb4.mono HB03.out.size)
  have HK4 : Hid (Blk w4 k8 n.m.cs) := HK3.out.below' hb4
  have HZ4 : Hid (Blk w4 w.heap.size [.int .i64 0,.int .i64 0,.int .i64 0,.int .i64 0,.int .i64 0,.int .i64 0]) := HZ3.out.below' hb4
  have HL4 : Hid (w.heap.size < k8 ∧ k8 < w4.heap.size) := ⟨HLT.out.1,Nat.lt_of_lt_of_le HLT.out.2 hb4.size⟩
  clear hb4 HPC hinv c0 i0 HS3 HK3 HZ3 HB3 HB4 HB03 HLT t1
  have hlk := (HF.out.below HB04.out).look HP64.out
  obtain ⟨q,hq⟩ : ∃ q,(fr p).getD Mp.o = q := ⟨_,rfl⟩
  rw [hq] at hlk
  have HQ := Lib.hid hq
  have HZ5 : Hid (Blk (w4.alloc (.cells #[.int .i64 0,.int .i64 0,.int .i64 0,.int .i64 0,.int .i64 0,.int .i64 0] 68)) w4.heap.size [.int .i64 0,.int .i64 0,.int .i64 0,.int .i64 0,.int .i64 0,.int .i64 0]) := blk_new w4 [.int .i64 0,.int .i64 0,.int .i64 0,.int .i64 0,.int .i64 0,.int .i64 0] _
  have HBa : Hid (Below w4.heap.size w4 (w4.alloc (.cells #[.int .i64 0,.int .i64 0,.int .i64 0,.int .i64 0,.int .i64 0,.int .i64 0] 68))) := (Below.refl _ _).alloc (Nat.le_refl _) _
  clear hq
  go_upto_region 6 with (first | (with_reducible show wpList _ _ _ (Oper.mk _ (Op.store _ _ _) _ _ _ _ :: _) _ _; first | (refine wpl_stow 68 _ _ rfl rfl rfl _ 0 rfl (q.cs) rfl ([.int .i64 0,.int .i64 0,.int .i64 0,.int .i64 0,.int .i64 0,.int .i64 0]) HZ5.out (q.cs) rfl (Nat.le_of_ble_eq_true rfl) (by kernel_rfl) (Mp.one1 _) ?_; intro w5 HW5 HK5)))
  have HB5 : Hid (Below w4.heap.size w4 w5) := HW5.out.below HBa.out (Nat.le_refl _)
  have HB05 : Hid (Below w.heap.size w w5) := HB04.out.trans (HB5.out.mono HB04.out.size)
  have HK8 : Hid (Blk w5 k8 n.m.cs) := HK4.out.below' HB5.out
  have HZ8 : Hid (Blk w5 w.heap.size [.int .i64 0,.int .i64 0,.int .i64 0,.int .i64 0,.int .i64 0,.int .i64 0]) := HZ4.out.below' HB5.out
  obtain ⟨k9,hk9⟩ : ∃ k9,w4.heap.size = k9 := ⟨_,rfl⟩
  have HL5 : Hid (w.heap.size < k8 ∧ k8 < k9 ∧ k9 < w5.heap.size) := ⟨HL4.out.1,by rw [← hk9]; exact HL4.out.2,by rw [← hk9]; exact HK5.out.inside⟩
  rw [hk9] at HK5 ⊢
  clear hlk HZ5 HBa HW5 HK4 HZ4 HL4 HB04 hk9 HB5
  cases hfr : (fr p) with
  | some q2 =>
    obtain rfl : q2 = q := by have := HQ.out; rw [hfr] at this; exact this
    have HE2 : Hid (R = n.m.thens [q2]) := by show _ = _; rw [HE.out,hfr]; rfl
    clear hfr HE
    have t3 : (some q2 : Option Mp).isSome = true := rfl
    go_wp2_with (first | (with_reducible show wpList _ _ _ (Oper.mk _ (Op.load _ _) _ _ _ _ :: _) _ _; first | (refine wpl_take 68 _ rfl rfl _ 0 rfl (n.m.cs) HK8.out (n.m.cs) rfl _ Tryz.underlying68 rfl (by kernel_rfl) ?_) | (refine wpl_take 68 _ rfl rfl _ 0 rfl (q2.cs) HK5.out (q2.cs) rfl _ Tryz.underlying68 rfl (by kernel_rfl) ?_)) | ((with_reducible show wpList _ _ _ (Oper.mk _ (Op.buildSlice _ _ _) _ _ _ _ :: _) _ _); refine wpl_bs _ _ _ rfl rfl (by simp [go_sem]) (bs_map q2 _) ?_))
    have hmr : MRow (w5.alloc (.cells q2.cs.toArray 68)) (some ⟨w5.heap.size,0,none⟩) [q2] := by
      have := mrow_new w5 [q2] 68 rfl
      rwa [show ([q2] : List Mp).flatMap Mp.cs = q2.cs from by simp] at this
    refine (mp_thens n.m _ [q2] 1 _ hmr (by simp)).mono ?_
    rintro e w9 ⟨rfl,hb9⟩
    have hb8 : Below w5.heap.size w5 w9 := ((Below.refl _ _).alloc (Nat.le_refl _) _).trans (hb9.mono (by simp))
    rw [show (n.m.thens [q2]).1.v = .agg (n.m.thens [q2]).1.cs.toArray from rfl]
    have HB9 : Hid (Below w.heap.size w w9) := HB05.out.trans (hb8.mono HB05.out.size)
    have HZ9 : Hid (Blk w9 w.heap.size [.int .i64 0,.int .i64 0,.int .i64 0,.int .i64 0,.int .i64 0,.int .i64 0]) := HZ8.out.below' hb8
    rw [← HE2.out]
    obtain ⟨RM,RE⟩ := R
    clear hmr hb9 hb8
    dsimp only
    go_wp2_with (first | (with_reducible show wpList _ _ _ (Oper.mk _ (Op.store _ _ _) _ _ _ _ :: _) _ _; first | (refine wpl_stow 68 _ _ rfl rfl rfl _ 0 rfl (RM.cs) rfl ([.int .i64 0,.int .i64 0,.int .i64 0,.int .i64 0,.int .i64 0,.int .i64 0]) HZ9.out (RM.cs) rfl (Nat.le_of_ble_eq_true rfl) (by kernel_rfl) (Mp.one1 _) ?_; intro wz HWz HKz)))
    exact blk_ret2 rfl rfl rfl HKz.out Tryz.underlying68 rfl (by kernel_rfl) ⟨rfl,HWz.out.below HB9.out (Nat.le_refl _)⟩
  | none =>
    obtain rfl : Mp.o = q := by have := HQ.out; rw [hfr] at this; exact this
    have HE2 : Hid (R = n.m.thens [wsAt x p]) := by show _ = _; rw [HE.out,hfr]; rfl
    clear hfr HE HQ
    have t3 : (none : Option Mp).isSome = false := rfl
    obtain ⟨A6,c6,hl6⟩ := HS.out.look_no HP64.out
    obtain ⟨n6,hn6⟩ : ∃ n6,ndAt x p = n6 := ⟨_,rfl⟩
    obtain ⟨u6,hu6⟩ : ∃ u6,wsAt x p = u6 := ⟨_,rfl⟩
    have hlk := hl6 w5 HB05.out
    rw [hn6,hu6] at hlk
    rw [hu6] at HE2
    have hf3 := field_world n6 A6 c6 u6 w5
    obtain ⟨⟨-,-,-,-,-,c5⟩,i0⟩ := (HS.out.below HB05.out).top
    clear hl6 hn6 hu6
    go_upto_region 8 with (first | (with_reducible show wpList _ _ _ (Oper.mk _ (Op.store _ _ _) _ _ _ _ :: _) _ _; first | (refine wpl_stow 68 _ _ rfl rfl rfl _ 0 rfl (u6.cs) rfl (Mp.o.cs) HK5.out (u6.cs) rfl (Nat.le_of_ble_eq_true rfl) (by kernel_rfl) (Mp.one1 _) ?_; intro w6 HW6 HK6)))
    have HB06 : Hid (Below w.heap.size w w6) := HW6.out.below HB05.out (by have := HL5.out; omega)
    have HKm6 : Hid (Blk w6 k8 n.m.cs) := HW6.out.blk (by have := HL5.out; omega) HK8.out
    have HZ6 : Hid (Blk w6 w.heap.size [.int .i64 0,.int .i64 0,.int .i64 0,.int .i64 0,.int .i64 0,.int .i64 0]) := HW6.out.blk (by have := HL5.out; omega) HZ8.out
    clear hlk hf3 c5 i0 HW6 HK8 HZ8 HK5
    go_wp2_with (first | (with_reducible show wpList _ _ _ (Oper.mk _ (Op.load _ _) _ _ _ _ :: _) _ _; first | (refine wpl_take 68 _ rfl rfl _ 0 rfl (n.m.cs) HKm6.out (n.m.cs) rfl _ Tryz.underlying68 rfl (by kernel_rfl) ?_) | (refine wpl_take 68 _ rfl rfl _ 0 rfl (u6.cs) HK6.out (u6.cs) rfl _ Tryz.underlying68 rfl (by kernel_rfl) ?_)) | ((with_reducible show wpList _ _ _ (Oper.mk _ (Op.buildSlice _ _ _) _ _ _ _ :: _) _ _); refine wpl_bs _ _ _ rfl rfl (by simp [go_sem]) (bs_map u6 _) ?_))
    have hmr : MRow (w6.alloc (.cells u6.cs.toArray 68)) (some ⟨w6.heap.size,0,none⟩) [u6] := by
      have := mrow_new w6 [u6] 68 rfl
      rwa [show ([u6] : List Mp).flatMap Mp.cs = u6.cs from by simp] at this
    refine (mp_thens n.m _ [u6] 1 _ hmr (by simp)).mono ?_
    rintro e w9 ⟨rfl,hb9⟩
    have hb8 : Below w6.heap.size w6 w9 := ((Below.refl _ _).alloc (Nat.le_refl _) _).trans (hb9.mono (by simp))
    rw [show (n.m.thens [u6]).1.v = .agg (n.m.thens [u6]).1.cs.toArray from rfl]
    have HB9 : Hid (Below w.heap.size w w9) := HB06.out.trans (hb8.mono HB06.out.size)
    have HZ9 : Hid (Blk w9 w.heap.size [.int .i64 0,.int .i64 0,.int .i64 0,.int .i64 0,.int .i64 0,.int .i64 0]) := HZ6.out.below' hb8
    rw [← HE2.out]
    obtain ⟨RM,RE⟩ := R
    clear hmr hb9 hb8
    dsimp only
    go_wp2_with (first | (with_reducible show wpList _ _ _ (Oper.mk _ (Op.store _ _ _) _ _ _ _ :: _) _ _; first | (refine wpl_stow 68 _ _ rfl rfl rfl _ 0 rfl (RM.cs) rfl ([.int .i64 0,.int .i64 0,.int .i64 0,.int .i64 0,.int .i64 0,.int .i64 0]) HZ9.out (RM.cs) rfl (Nat.le_of_ble_eq_true rfl) (by kernel_rfl) (Mp.one1 _) ?_; intro wz HWz HKz)))
    exact blk_ret2 rfl rfl rfl HKz.out Tryz.underlying68 rfl (by kernel_rfl) ⟨rfl,HWz.out.below HB9.out (Nat.le_refl _)⟩
end
end Go.Proofs.YtehmblcbccceaaaGreat
