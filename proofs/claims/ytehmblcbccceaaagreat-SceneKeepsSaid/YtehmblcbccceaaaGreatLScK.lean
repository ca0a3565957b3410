import Derived.Test.YtehmblcbccceaaaGreatLScE
import Derived.Test.YtehmblcbccceaaaGreatLScJ
import Derived.BigRegion
namespace Go.Proofs.YtehmblcbccceaaaGreat
open Go.RowKit pxm imm
structure Lk where
  k : Int
  W : Int
  H : Int
  p : Nat
  iw : Int
  ih : Int
  l : List Nat
structure Nd where
  m : Mp
  op : Int
  hi : Bool
  cl : Bool
  r : Bx
  lk : Lk
structure Op9 where
  k : Int
  i : Int
  p : Int
  n : Int
  m : Mp
  r : Bx
  on : Bool
  N : Int
  lk : Lk
def Lk.cs (q : Lk) (A : Option Addr) (c : Nat) : List Value := [.int .i64 q.k,.int .i64 q.W,.int .i64 q.H,.int .u32 (q.p : Nat),.int .i64 q.iw,.int .i64 q.ih,.slice A q.l.length c]
def Bx.cs4 (r : Bx) : List Value := [.int .i64 r.a,.int .i64 r.b,.int .i64 r.c,.int .i64 r.d]
def Nd.cs (n : Nd) (A : Option Addr) (c : Nat) : List Value := [.int .i64 n.m.a,.int .i64 n.m.b,.int .i64 n.m.c,.int .i64 n.m.d,.int .i64 n.m.e,.int .i64 n.m.f,.int .i64 n.op,.bool n.hi,.bool n.cl,.int .i64 n.r.a,.int .i64 n.r.b,.int .i64 n.r.c,.int .i64 n.r.d,
  .int .i64 n.lk.k,.int .i64 n.lk.W,.int .i64 n.lk.H,.int .u32 (n.lk.p : Nat),.int .i64 n.lk.iw,.int .i64 n.lk.ih,.slice A n.lk.l.length c]
def Op9.cs (o : Op9) (A : Option Addr) (c : Nat) : List Value := [.int .i64 o.k,.int .i64 o.i,.int .i64 o.p,.int .i64 o.n,.int .i64 o.m.a,.int .i64 o.m.b,.int .i64 o.m.c,.int .i64 o.m.d,.int .i64 o.m.e,.int .i64 o.m.f,.int .i64 o.r.a,.int .i64 o.r.b,.int .i64 o.r.c,.int .i64 o.r.d,.bool o.on,.int .i64 o.N,
  .int .i64 o.lk.k,.int .i64 o.lk.W,.int .i64 o.lk.H,.int .u32 (o.lk.p : Nat),.int .i64 o.lk.iw,.int .i64 o.lk.ih,.slice A o.lk.l.length c]
def plcs (n : Nd) (A : Option Addr) (c : Nat) (u : Mp) : List Value := [.int .i64 n.m.a,.int .i64 n.m.b,.int .i64 n.m.c,.int .i64 n.m.d,.int .i64 n.m.e,.int .i64 n.m.f,.int .i64 n.op,.bool n.hi,.bool n.cl,.int .i64 n.r.a,.int .i64 n.r.b,.int .i64 n.r.c,.int .i64 n.r.d,
  .int .i64 n.lk.k,.int .i64 n.lk.W,.int .i64 n.lk.H,.int .u32 (n.lk.p : Nat),.int .i64 n.lk.iw,.int .i64 n.lk.ih,.slice A n.lk.l.length c,.int .i64 u.a,.int .i64 u.b,.int .i64 u.c,.int .i64 u.d,.int .i64 u.e,.int .i64 u.f]
def Nd.v (n : Nd) (A : Option Addr) (c : Nat) : Value := .agg (n.cs A c).toArray
def Op9.v (o : Op9) (A : Option Addr) (c : Nat) : Value := .agg (o.cs A c).toArray
def plv (n : Nd) (A : Option Addr) (c : Nat) (u : Mp) : Value := .agg (plcs n A c u).toArray
theorem Nd.v_eq (n : Nd) (A : Option Addr) (c : Nat) : n.v A c = ndV n.m n.op n.hi n.cl n.r n.lk.k n.lk.W n.lk.H n.lk.p n.lk.iw n.lk.ih A n.lk.l.length c := rfl
theorem Nd.one (n : Nd) (A : Option Addr) (c : Nat) : (n.cs A c).all (·.oneCell') = true := rfl
theorem Lk.one (q : Lk) (A : Option Addr) (c : Nat) : (q.cs A c).all (·.oneCell') = true := rfl
theorem Mp.one1 (m : Mp) : m.cs.all (·.oneCell') = true := rfl
theorem Op9.one (o : Op9) (A : Option Addr) (c : Nat) : (o.cs A c).all (·.oneCell') = true := rfl
theorem plcs_one (n : Nd) (A : Option Addr) (c : Nat) (u : Mp) : (plcs n A c u).all (·.oneCell') = true := rfl
def Nd.plain : Nd := ⟨Mp.one,255,false,false,Bx.o,⟨0,0,0,0,0,0,[]⟩⟩
def Nd.chk (n : Nd) : Int := ndC n.m n.op n.cl n.r (lkC n.lk.k n.lk.W n.lk.H n.lk.p n.lk.iw n.lk.ih n.lk.l)
def setN (n : Nd) (o : Op9) : Nd :=
  if o.k = 4 then { n with m := o.m } else if o.k = 5 then { n with cl := o.on,r := o.r } else if o.k = 6 then { n with op := o.N } else if o.k = 7 then { n with lk := o.lk } else if o.k = 8 then { n with hi := o.on } else n
def pick7 {α : Type} (o : Op9) (x y : α) : α := if o.k = 7 then x else y
set_option maxHeartbeats 4000000 in
set_option maxRecDepth 100000 in
theorem on_any (o : Op9) (Ao : Option Addr) (co : Nat) (n : Nd) (An : Option Addr) (cn : Nat) (w : World) :
    Calls Tryz.prog 160 #[o.v Ao co,n.v An cn] w fun e w' => e = .returned ((setN n o).v (pick7 o Ao An) (pick7 o co cn)) ∧ Below w.heap.size w w' := by
  have HB0 : Hid (Below w.heap.size w (((w.alloc (.cells (o.cs Ao co).toArray 77)).alloc (.cells (n.cs An cn).toArray 72)).alloc (.cells #[.int .i64 0,.int .i64 0,.int .i64 0,.int .i64 0,.int .i64 0,.int .i64 0,.int .i64 0,.bool false,.bool false,.int .i64 0,.int .i64 0,.int .i64 0,.int .i64 0,.int .i64 0,.int .i64 0,.int .i64 0,.int .u32 0,.int .i64 0,.int .i64 0,.slice none 0 0] 72))) := (((Below.refl _ _).alloc (Nat.le_refl _) _).alloc (by simp) _).alloc (by simp; omega) _
  have HKo : Hid (Blk (((w.alloc (.cells (o.cs Ao co).toArray 77)).alloc (.cells (n.cs An cn).toArray 72)).alloc (.cells #[.int .i64 0,.int .i64 0,.int .i64 0,.int .i64 0,.int .i64 0,.int .i64 0,.int .i64 0,.bool false,.bool false,.int .i64 0,.int .i64 0,.int .i64 0,.int .i64 0,.int .i64 0,.int .i64 0,.int .i64 0,.int .u32 0,.int .i64 0,.int .i64 0,.slice none 0 0] 72)) w.heap.size (o.cs Ao co)) := ((blk_new w (o.cs Ao co) _).alloc _).alloc _
  have HKn : Hid (Blk (((w.alloc (.cells (o.cs Ao co).toArray 77)).alloc (.cells (n.cs An cn).toArray 72)).alloc (.cells #[.int .i64 0,.int .i64 0,.int .i64 0,.int .i64 0,.int .i64 0,.int .i64 0,.int .i64 0,.bool false,.bool false,.int .i64 0,.int .i64 0,.int .i64 0,.int .i64 0,.int .i64 0,.int .i64 0,.int .i64 0,.int .u32 0,.int .i64 0,.int .i64 0,.slice none 0 0] 72)) (w.heap.size + 1) (n.cs An cn)) := (blk_at (w.alloc _) _ (by simp) (n.cs An cn) _).alloc _
  have HKr : Hid (Blk (((w.alloc (.cells (o.cs Ao co).toArray 77)).alloc (.cells (n.cs An cn).toArray 72)).alloc (.cells #[.int .i64 0,.int .i64 0,.int .i64 0,.int .i64 0,.int .i64 0,.int .i64 0,.int .i64 0,.bool false,.bool false,.int .i64 0,.int .i64 0,.int .i64 0,.int .i64 0,.int .i64 0,.int .i64 0,.int .i64 0,.int .u32 0,.int .i64 0,.int .i64 0,.slice none 0 0] 72)) (w.heap.size + 2) [.int .i64 0,.int .i64 0,.int .i64 0,.int .i64 0,.int .i64 0,.int .i64 0,.int .i64 0,.bool false,.bool false,.int .i64 0,.int .i64 0,.int .i64 0,.int .i64 0,.int .i64 0,.int .i64 0,.int .i64 0,.int .u32 0,.int .i64 0,.int .i64 0,.slice none 0 0]) := blk_at ((w.alloc _).alloc _) _ (by simp) [.int .i64 0,.int .i64 0,.int .i64 0,.int .i64 0,.int .i64 0,.int .i64 0,.int .i64 0,.bool false,.bool false,.int .i64 0,.int .i64 0,.int .i64 0,.int .i64 0,.int .i64 0,.int .i64 0,.int .i64 0,.int .u32 0,.int .i64 0,.int .i64 0,.slice none 0 0] _
  have HSZ : Hid ((((w.alloc (.cells (o.cs Ao co).toArray 77)).alloc (.cells (n.cs An cn).toArray 72)).alloc (.cells #[.int .i64 0,.int .i64 0,.int .i64 0,.int .i64 0,.int .i64 0,.int .i64 0,.int .i64 0,.bool false,.bool false,.int .i64 0,.int .i64 0,.int .i64 0,.int .i64 0,.int .i64 0,.int .i64 0,.int .i64 0,.int .u32 0,.int .i64 0,.int .i64 0,.slice none 0 0] 72)).heap.size = w.heap.size + 3) := by show _ = _; simp
  obtain ⟨X,hX⟩ : ∃ X,(setN n o).v (pick7 o Ao An) (pick7 o co cn) = X := ⟨_,rfl⟩
  have HX := Lib.hid hX
  rw [hX]
  clear hX
  unfold Op9.v Nd.v
  go_enter Tryz.func160,Tryz.ntmps160
  go_upto_region 1 with (fail)
  generalize (((w.alloc (.cells (o.cs Ao co).toArray 77)).alloc (.cells (n.cs An cn).toArray 72)).alloc (.cells #[.int .i64 0,.int .i64 0,.int .i64 0,.int .i64 0,.int .i64 0,.int .i64 0,.int .i64 0,.bool false,.bool false,.int .i64 0,.int .i64 0,.int .i64 0,.int .i64 0,.int .i64 0,.int .i64 0,.int .i64 0,.int .u32 0,.int .i64 0,.int .i64 0,.slice none 0 0] 72)) = wz at *
  have c0 : wz.cell? ⟨w.heap.size,0,none⟩ = some (.int .i64 o.k) := HKo.out.cell 0
  have c14 : wz.cell? ⟨w.heap.size,14,none⟩ = some (.bool o.on) := HKo.out.cell 14
  have c15 : wz.cell? ⟨w.heap.size,15,none⟩ = some (.int .i64 o.N) := HKo.out.cell 15
  have i0 : w.heap.size < wz.heap.size := HKo.out.inside
  have i1 : w.heap.size + 1 < wz.heap.size := HKn.out.inside
  by_cases h4 : o.k = 4
  · have t4 : (o.k == 4) = true := by simpa using h4
    have HE : Hid (X = .agg ((({ n with m := o.m } : Nd).cs An cn)).toArray) := by show _ = _; rw [← HX.out,show setN n o = { n with m := o.m } from by unfold setN; rw [if_pos h4],show pick7 o Ao An = An from if_neg (by omega),show pick7 o co cn = cn from if_neg (by omega)]; rfl
    clear h4
    go_upto_region 12 with (first | (with_reducible show wpList _ _ _ (Oper.mk _ (Op.load _ _) _ _ _ _ :: _) _ _; first | (refine wpl_take 68 _ rfl rfl _ 4 rfl (o.cs Ao co) HKo.out (o.m.cs) rfl _ Tryz.underlying68 rfl (by kernel_rfl) ?_)) | (with_reducible show wpList _ _ _ (Oper.mk _ (Op.store _ _ _) _ _ _ _ :: _) _ _; first | (refine wpl_stow 68 _ _ rfl rfl rfl _ 0 rfl (o.m.cs) rfl (n.cs An cn) HKn.out (({ n with m := o.m } : Nd).cs An cn) rfl (Nat.le_of_ble_eq_true rfl) (by kernel_rfl) (Mp.one1 _) ?_; intro w2 HW2 HK2)))
    have HR2 := Lib.hid (HW2.out.blk (show w.heap.size + 2 ≠ w.heap.size + 1 by omega) HKr.out)
    have HB2 := Lib.hid (HW2.out.below HB0.out (by omega))
    go_wp2_with (first | (with_reducible show wpList _ _ _ (Oper.mk _ (Op.load _ _) _ _ _ _ :: _) _ _; first | (refine wpl_take 72 _ rfl rfl _ 0 rfl (({ n with m := o.m } : Nd).cs An cn) HK2.out (({ n with m := o.m } : Nd).cs An cn) rfl _ Tryz.underlying72 rfl (by kernel_rfl) ?_)) | (with_reducible show wpList _ _ _ (Oper.mk _ (Op.store _ _ _) _ _ _ _ :: _) _ _; first | (refine wpl_stow 72 _ _ rfl rfl rfl _ 0 rfl (({ n with m := o.m } : Nd).cs An cn) rfl ([.int .i64 0,.int .i64 0,.int .i64 0,.int .i64 0,.int .i64 0,.int .i64 0,.int .i64 0,.bool false,.bool false,.int .i64 0,.int .i64 0,.int .i64 0,.int .i64 0,.int .i64 0,.int .i64 0,.int .i64 0,.int .u32 0,.int .i64 0,.int .i64 0,.slice none 0 0]) HR2.out (({ n with m := o.m } : Nd).cs An cn) rfl (Nat.le_of_ble_eq_true rfl) (by kernel_rfl) (Nd.one _ _ _) ?_; intro w3 HW3 HK3)))
    rw [HE.out]
    exact blk_ret rfl rfl HK3.out Tryz.underlying72 rfl (by kernel_rfl) ⟨rfl,HW3.out.below HB2.out (by omega)⟩
  by_cases h5 : o.k = 5
  · have t4 : (o.k == 4) = false := by simpa using h4
    have t5 : (o.k == 5) = true := by simpa using h5
    have HE : Hid (X = .agg ((({ n with cl := o.on,r := o.r } : Nd).cs An cn)).toArray) := by show _ = _; rw [← HX.out,show setN n o = { n with cl := o.on,r := o.r } from by unfold setN; rw [if_neg h4,if_pos h5],show pick7 o Ao An = An from if_neg (by omega),show pick7 o co cn = cn from if_neg (by omega)]; rfl
    clear h4
    clear h5
    have HJ0 : Hid (JF w.heap.size [(w.heap.size,o.cs Ao co),(w.heap.size + 2,[.int .i64 0,.int .i64 0,.int .i64 0,.int .i64 0,.int .i64 0,.int .i64 0,.int .i64 0,.bool false,.bool false,.int .i64 0,.int .i64 0,.int .i64 0,.int .i64 0,.int .i64 0,.int .i64 0,.int .i64 0,.int .u32 0,.int .i64 0,.int .i64 0,.slice none 0 0])] (w.heap.size + 1) (n.cs An cn) wz) := ⟨⟨HKo.out,HKr.out,trivial⟩,by omega,by simp,by omega,HKn.out⟩
    go_upto_region 5 with (fail)
    refine regs.wp_region_put (Below w.heap.size) (fun L wx => JF w.heap.size [(w.heap.size,o.cs Ao co),(w.heap.size + 2,[.int .i64 0,.int .i64 0,.int .i64 0,.int .i64 0,.int .i64 0,.int .i64 0,.int .i64 0,.bool false,.bool false,.int .i64 0,.int .i64 0,.int .i64 0,.int .i64 0,.int .i64 0,.int .i64 0,.int .i64 0,.int .u32 0,.int .i64 0,.int .i64 0,.slice none 0 0])] (w.heap.size + 1) [.int .i64 n.m.a,.int .i64 n.m.b,.int .i64 n.m.c,.int .i64 n.m.d,.int .i64 n.m.e,.int .i64 n.m.f,.int .i64 n.op,.bool n.hi,bif L 5 then .bool o.on else .bool n.cl,bif L 7 then .int .i64 o.r.a else .int .i64 n.r.a,bif L 7 then .int .i64 o.r.b else .int .i64 n.r.b,bif L 7 then .int .i64 o.r.c else .int .i64 n.r.c,bif L 7 then .int .i64 o.r.d else .int .i64 n.r.d,.int .i64 n.lk.k,.int .i64 n.lk.W,.int .i64 n.lk.H,.int .u32 (n.lk.p : Nat),.int .i64 n.lk.iw,.int .i64 n.lk.ih,.slice An n.lk.l.length cn] wx) [14,15,16,17,18,19] (by kernel_rfl) (by kernel_rfl) (fun _ => Below.refl _ _) (fun _ _ _ h k => h.trans k) (fun i => (match i with
      | 0 => regs.Say.val _ (.pointer (some ⟨w.heap.size,14,none⟩))
      | 1 => regs.Say.val _ (.bool o.on)
      | 2 => regs.Say.val _ (.pointer (some ⟨w.heap.size,10,none⟩))
      | 3 => regs.Say.val _ (.agg (o.r.cs4).toArray)
      | 4 => regs.Say.val _ (.pointer (some ⟨(w.heap.size + 1),8,none⟩))
      | 5 => regs.Say.any _
      | 6 => regs.Say.val _ (.pointer (some ⟨(w.heap.size + 1),9,none⟩))
      | 7 => regs.Say.any _
      | _ => regs.Say.any _ : regs.Say (Below w.heap.size)).p) (fun _ => regs.Say.mono _) (by kernel_rfl) ((Below.refl _ _).drew) (HJ0.out.below (Below.refl _ _).drew) ⟨?_,?_,?_,?_,?_,?_,?_,?_,trivial⟩ ?_
    · refine regs.StepOK.plain rfl fun L a w1 hh => ?_
      have h2 : a.tmps[2]?.getD undef = .pointer (some ⟨w.heap.size,0,none⟩) := by rw [← Array.getD_eq_getD_getElem?]; exact hh.old 2 rfl
      have i0 := (hh.st.old.1).inside
      have hJ := Lib.hid hh.st
      clear hh
      go_simp
      exact ⟨_,rfl,Below.refl _ _,rfl,hJ.out⟩
    · refine regs.StepOK.plain rfl fun L a w1 hh => ?_
      have h14 : a.tmps[14]?.getD undef = .pointer (some ⟨w.heap.size,14,none⟩) := by rw [← Array.getD_eq_getD_getElem?]; exact hh.dep 0 14 (by kernel_rfl) (by kernel_rfl)
      have hB := Lib.hid (hh.st.old.1)
      have c0 : w1.cell? ⟨w.heap.size,14,none⟩ = some (.bool o.on) := hB.out.cell 14
      have i0 := hB.out.inside
      have hJ := Lib.hid hh.st
      clear hh
      go_simp
      exact ⟨_,rfl,Below.refl _ _,rfl,hJ.out⟩
    · refine regs.StepOK.plain rfl fun L a w1 hh => ?_
      have h2 : a.tmps[2]?.getD undef = .pointer (some ⟨w.heap.size,0,none⟩) := by rw [← Array.getD_eq_getD_getElem?]; exact hh.old 2 rfl
      have i0 := (hh.st.old.1).inside
      have hJ := Lib.hid hh.st
      clear hh
      go_simp
      exact ⟨_,rfl,Below.refl _ _,rfl,hJ.out⟩
    · refine regs.StepOK.plain rfl fun L a w1 hh => ?_
      have h16 : a.tmps[16]?.getD undef = .pointer (some ⟨w.heap.size,10,none⟩) := by rw [← Array.getD_eq_getD_getElem?]; exact hh.dep 2 16 (by kernel_rfl) (by kernel_rfl)
      have hB := Lib.hid (hh.st.old.1)
      have hJ := Lib.hid hh.st
      exact wp_take 70 _ rfl w.heap.size 10 (by simpa [go_sem] using h16) _ hB.out (o.r.cs4) rfl _ Tryz.underlying70 rfl (by kernel_rfl) ⟨_,rfl,Below.refl _ _,rfl,hJ.out⟩
    · refine regs.StepOK.plain rfl fun L a w1 hh => ?_
      have h3 : a.tmps[3]?.getD undef = .pointer (some ⟨(w.heap.size + 1),0,none⟩) := by rw [← Array.getD_eq_getD_getElem?]; exact hh.old 3 rfl
      have i0 := (hh.st.blk).inside
      have hJ := Lib.hid hh.st
      clear hh
      go_simp
      exact ⟨_,rfl,Below.refl _ _,rfl,hJ.out⟩
    · refine regs.StepOK.plain rfl fun L a w1 hh => ?_
      have h15 : a.tmps[15]?.getD undef = .bool o.on := by rw [← Array.getD_eq_getD_getElem?]; exact hh.dep 1 15 (by kernel_rfl) (by kernel_rfl)
      have h18 : a.tmps[18]?.getD undef = .pointer (some ⟨(w.heap.size + 1),8,none⟩) := by rw [← Array.getD_eq_getD_getElem?]; exact hh.dep 4 18 (by kernel_rfl) (by kernel_rfl)
      have hB := hh.st.blk
      rw [hh.un] at hB
      have c0 := hB.cell 8
      have f0 := hB.free 8
      have i0 := hB.inside
      simp only [List.getElem?_cons_zero,List.getElem?_cons_succ] at c0
      have hP := Lib.hid (hh.st.put (i := 8) (v := .bool o.on) rfl)
      clear hh hB
      go_simp
      exact ⟨hP.out.2,⟨undef,trivial⟩,hP.out.1⟩
    · refine regs.StepOK.plain rfl fun L a w1 hh => ?_
      have h3 : a.tmps[3]?.getD undef = .pointer (some ⟨(w.heap.size + 1),0,none⟩) := by rw [← Array.getD_eq_getD_getElem?]; exact hh.old 3 rfl
      have i0 := (hh.st.blk).inside
      have hJ := Lib.hid hh.st
      clear hh
      go_simp
      exact ⟨_,rfl,Below.refl _ _,rfl,hJ.out⟩
    · refine regs.StepOK.plain rfl fun L a w1 hh => ?_
      have h17 : a.tmps[17]?.getD undef = .agg (o.r.cs4).toArray := by rw [← Array.getD_eq_getD_getElem?]; exact hh.dep 3 17 (by kernel_rfl) (by kernel_rfl)
      have h19 : a.tmps[19]?.getD undef = .pointer (some ⟨(w.heap.size + 1),9,none⟩) := by rw [← Array.getD_eq_getD_getElem?]; exact hh.dep 6 19 (by kernel_rfl) (by kernel_rfl)
      have hJ := Lib.hid hh.st
      refine wp_stow 70 _ _ rfl (w.heap.size + 1) 9 (by simpa [go_sem] using h19) (o.r.cs4) (by simpa [go_sem] using h17) _ hJ.out.blk (Nat.le_of_ble_eq_true rfl) (by kernel_rfl) (by rfl) ?_
      intro w9 hW9 hB9
      have hP := hJ.out.wrote hW9 hB9
      exact ⟨undef,rfl,hP.2,trivial,hP.1⟩
    intro L w4 val hL hJ hR hv
    have HR4 := Lib.hid hR
    have HJ4 := Lib.hid hJ
    have e5 := hL 5 (by decide)
    have e7 := hL 7 (by decide)
    rw [e5,e7] at HJ4
    clear hv hL hJ hR e5 e7
    simp only [regs.putAll,List.map_cons,List.map_nil]
    simp only [Act.put,List.setIfInBounds_toArray,List.set_cons_zero,List.set_cons_succ]
    generalize val 14 = v14 at *
    generalize val 15 = v15 at *
    generalize val 16 = v16 at *
    generalize val 17 = v17 at *
    generalize val 18 = v18 at *
    generalize val 19 = v19 at *
    have HK2 : Hid (Blk w4 (w.heap.size + 1) (({ n with cl := o.on,r := o.r } : Nd).cs An cn)) := HJ4.out.blk
    have HR2 := Lib.hid HJ4.out.old.2.1
    have HB2 : Hid (Below w.heap.size w w4) := HB0.out.trans HR4.out
    clear HJ4
    go_wp2_with (first | (with_reducible show wpList _ _ _ (Oper.mk _ (Op.load _ _) _ _ _ _ :: _) _ _; first | (refine wpl_take 72 _ rfl rfl _ 0 rfl (({ n with cl := o.on,r := o.r } : Nd).cs An cn) HK2.out (({ n with cl := o.on,r := o.r } : Nd).cs An cn) rfl _ Tryz.underlying72 rfl (by kernel_rfl) ?_)) | (with_reducible show wpList _ _ _ (Oper.mk _ (Op.store _ _ _) _ _ _ _ :: _) _ _; first | (refine wpl_stow 72 _ _ rfl rfl rfl _ 0 rfl (({ n with cl := o.on,r := o.r } : Nd).cs An cn) rfl ([.int .i64 0,.int .i64 0,.int .i64 0,.int .i64 0,.int .i64 0,.int .i64 0,.int .i64 0,.bool false,.bool false,.int .i64 0,.int .i64 0,.int .i64 0,.int .i64 0,.int .i64 0,.int .i64 0,.int .i64 0,.int .u32 0,.int .i64 0,.int .i64 0,.slice none 0 0]) HR2.out (({ n with cl := o.on,r := o.r } : Nd).cs An cn) rfl (Nat.le_of_ble_eq_true rfl) (by kernel_rfl) (Nd.one _ _ _) ?_; intro w3 HW3 HK3)))
    rw [HE.out]
    exact blk_ret rfl rfl HK3.out Tryz.underlying72 rfl (by kernel_rfl) ⟨rfl,HW3.out.below HB2.out (by omega)⟩
  by_cases h6 : o.k = 6
  · have t4 : (o.k == 4) = false := by simpa using h4
    have t5 : (o.k == 5) = false := by simpa using h5
    have t6 : (o.k == 6) = true := by simpa using h6
    have HE : Hid (X = .agg ((({ n with op := o.N } : Nd).cs An cn)).toArray) := by show _ = _; rw [← HX.out,show setN n o = { n with op := o.N } from by unfold setN; rw [if_neg h4,if_neg h5,if_pos h6],show pick7 o Ao An = An from if_neg (by omega),show pick7 o co cn = cn from if_neg (by omega)]; rfl
    clear h4
    clear h5
    clear h6
    have d6 := HKn.out.cell 6
    have f6 := HKn.out.free 6
    have HS : Hid (Wrote (w.heap.size + 1) wz (wz.setCell ⟨w.heap.size + 1,6,none⟩ (.int .i64 o.N))) := ⟨6,[.int .i64 o.N],rfl⟩
    have HK2 : Hid (Blk (wz.setCell ⟨w.heap.size + 1,6,none⟩ (.int .i64 o.N)) (w.heap.size + 1) (({ n with op := o.N } : Nd).cs An cn)) := HKn.out.set 6 _
    have HR2 := Lib.hid (HS.out.blk (show w.heap.size + 2 ≠ w.heap.size + 1 by omega) HKr.out)
    have HB2 := Lib.hid (HS.out.below HB0.out (by omega))
    simp only [Nd.cs,List.getElem?_cons_zero,List.getElem?_cons_succ] at d6
    go_wp2_with (first | (with_reducible show wpList _ _ _ (Oper.mk _ (Op.load _ _) _ _ _ _ :: _) _ _; first | (refine wpl_take 72 _ rfl rfl _ 0 rfl (({ n with op := o.N } : Nd).cs An cn) HK2.out (({ n with op := o.N } : Nd).cs An cn) rfl _ Tryz.underlying72 rfl (by kernel_rfl) ?_)) | (with_reducible show wpList _ _ _ (Oper.mk _ (Op.store _ _ _) _ _ _ _ :: _) _ _; first | (refine wpl_stow 72 _ _ rfl rfl rfl _ 0 rfl (({ n with op := o.N } : Nd).cs An cn) rfl ([.int .i64 0,.int .i64 0,.int .i64 0,.int .i64 0,.int .i64 0,.int .i64 0,.int .i64 0,.bool false,.bool false,.int .i64 0,.int .i64 0,.int .i64 0,.int .i64 0,.int .i64 0,.int .i64 0,.int .i64 0,.int .u32 0,.int .i64 0,.int .i64 0,.slice none 0 0]) HR2.out (({ n with op := o.N } : Nd).cs An cn) rfl (Nat.le_of_ble_eq_true rfl) (by kernel_rfl) (Nd.one _ _ _) ?_; intro w3 HW3 HK3)))
    rw [HE.out]
    exact blk_ret rfl rfl HK3.out Tryz.underlying72 rfl (by kernel_rfl) ⟨rfl,HW3.out.below HB2.out (by omega)⟩
  by_cases h7 : o.k = 7
  · have t4 : (o.k == 4) = false := by simpa using h4
    have t5 : (o.k == 5) = false := by simpa using h5
    have t6 : (o.k == 6) = false := by simpa using h6
    have t7 : (o.k == 7) = true := by simpa using h7
    have HE : Hid (X = .agg ((({ n with lk := o.lk } : Nd).cs Ao co)).toArray) := by show _ = _; rw [← HX.out,show setN n o = { n with lk := o.lk } from by unfold setN; rw [if_neg h4,if_neg h5,if_neg h6,if_pos h7],show pick7 o Ao An = Ao from if_pos h7,show pick7 o co cn = co from if_pos h7]; rfl
    clear h4
    clear h5
    clear h6
    clear h7
    go_upto_region 12 with (first | (with_reducible show wpList _ _ _ (Oper.mk _ (Op.load _ _) _ _ _ _ :: _) _ _; first | (refine wpl_take 64 _ rfl rfl _ 16 rfl (o.cs Ao co) HKo.out (o.lk.cs Ao co) rfl _ Tryz.underlying64 rfl (by kernel_rfl) ?_)) | (with_reducible show wpList _ _ _ (Oper.mk _ (Op.store _ _ _) _ _ _ _ :: _) _ _; first | (refine wpl_stow 64 _ _ rfl rfl rfl _ 13 rfl (o.lk.cs Ao co) rfl (n.cs An cn) HKn.out (({ n with lk := o.lk } : Nd).cs Ao co) rfl (Nat.le_of_ble_eq_true rfl) (by kernel_rfl) (Lk.one _ _ _) ?_; intro w2 HW2 HK2)))
    have HR2 := Lib.hid (HW2.out.blk (show w.heap.size + 2 ≠ w.heap.size + 1 by omega) HKr.out)
    have HB2 := Lib.hid (HW2.out.below HB0.out (by omega))
    go_wp2_with (first | (with_reducible show wpList _ _ _ (Oper.mk _ (Op.load _ _) _ _ _ _ :: _) _ _; first | (refine wpl_take 72 _ rfl rfl _ 0 rfl (({ n with lk := o.lk } : Nd).cs Ao co) HK2.out (({ n with lk := o.lk } : Nd).cs Ao co) rfl _ Tryz.underlying72 rfl (by kernel_rfl) ?_)) | (with_reducible show wpList _ _ _ (Oper.mk _ (Op.store _ _ _) _ _ _ _ :: _) _ _; first | (refine wpl_stow 72 _ _ rfl rfl rfl _ 0 rfl (({ n with lk := o.lk } : Nd).cs Ao co) rfl ([.int .i64 0,.int .i64 0,.int .i64 0,.int .i64 0,.int .i64 0,.int .i64 0,.int .i64 0,.bool false,.bool false,.int .i64 0,.int .i64 0,.int .i64 0,.int .i64 0,.int .i64 0,.int .i64 0,.int .i64 0,.int .u32 0,.int .i64 0,.int .i64 0,.slice none 0 0]) HR2.out (({ n with lk := o.lk } : Nd).cs Ao co) rfl (Nat.le_of_ble_eq_true rfl) (by kernel_rfl) (Nd.one _ _ _) ?_; intro w3 HW3 HK3)))
    rw [HE.out]
    exact blk_ret rfl rfl HK3.out Tryz.underlying72 rfl (by kernel_rfl) ⟨rfl,HW3.out.below HB2.out (by omega)⟩
  by_cases h8 : o.k = 8
  · have t4 : (o.k == 4) = false := by simpa using h4
    have t5 : (o.k == 5) = false := by simpa using h5
    have t6 : (o.k == 6) = false := by simpa using h6
    have t7 : (o.k == 7) = false := by simpa using h7
    have t8 : (o.k == 8) = true := by simpa using h8
    have HE : Hid (X = .agg ((({ n with hi := o.on } : Nd).cs An cn)).toArray) := by show _ = _; rw [← HX.out,show setN n o = { n with hi := o.on } from by unfold setN; rw [if_neg h4,if_neg h5,if_neg h6,if_neg h7,if_pos h8],show pick7 o Ao An = An from if_neg (by omega),show pick7 o co cn = cn from if_neg (by omega)]; rfl
    clear h4
    clear h5
    clear h6
    clear h7
    clear h8
    have d7 := HKn.out.cell 7
    have f7 := HKn.out.free 7
    have HS : Hid (Wrote (w.heap.size + 1) wz (wz.setCell ⟨w.heap.size + 1,7,none⟩ (.bool o.on))) := ⟨7,[.bool o.on],rfl⟩
    have HK2 : Hid (Blk (wz.setCell ⟨w.heap.size + 1,7,none⟩ (.bool o.on)) (w.heap.size + 1) (({ n with hi := o.on } : Nd).cs An cn)) := HKn.out.set 7 _
    have HR2 := Lib.hid (HS.out.blk (show w.heap.size + 2 ≠ w.heap.size + 1 by omega) HKr.out)
    have HB2 := Lib.hid (HS.out.below HB0.out (by omega))
    simp only [Nd.cs,List.getElem?_cons_zero,List.getElem?_cons_succ] at d7
    go_wp2_with (first | (with_reducible show wpList _ _ _ (Oper.mk _ (Op.load _ _) _ _ _ _ :: _) _ _; first | (refine wpl_take 72 _ rfl rfl _ 0 rfl (({ n with hi := o.on } : Nd).cs An cn) HK2.out (({ n with hi := o.on } : Nd).cs An cn) rfl _ Tryz.underlying72 rfl (by kernel_rfl) ?_)) | (with_reducible show wpList _ _ _ (Oper.mk _ (Op.store _ _ _) _ _ _ _ :: _) _ _; first | (refine wpl_stow 72 _ _ rfl rfl rfl _ 0 rfl (({ n with hi := o.on } : Nd).cs An cn) rfl ([.int .i64 0,.int .i64 0,.int .i64 0,.int .i64 0,.int .i64 0,.int .i64 0,.int .i64 0,.bool false,.bool false,.int .i64 0,.int .i64 0,.int .i64 0,.int .i64 0,.int .i64 0,.int .i64 0,.int .i64 0,.int .u32 0,.int .i64 0,.int .i64 0,.slice none 0 0]) HR2.out (({ n with hi := o.on } : Nd).cs An cn) rfl (Nat.le_of_ble_eq_true rfl) (by kernel_rfl) (Nd.one _ _ _) ?_; intro w3 HW3 HK3)))
    rw [HE.out]
    exact blk_ret rfl rfl HK3.out Tryz.underlying72 rfl (by kernel_rfl) ⟨rfl,HW3.out.below HB2.out (by omega)⟩
  have t4 : (o.k == 4) = false := by simpa using h4
  have t5 : (o.k == 5) = false := by simpa using h5
  have t6 : (o.k == 6) = false := by simpa using h6
  have t7 : (o.k == 7) = false := by simpa using h7
  have t8 : (o.k == 8) = false := by simpa using h8
  have HE : Hid (X = .agg (((n : Nd).cs An cn)).toArray) := by show _ = _; rw [← HX.out,show setN n o = n from by unfold setN; rw [if_neg h4,if_neg h5,if_neg h6,if_neg h7,if_neg h8],show pick7 o Ao An = An from if_neg (by omega),show pick7 o co cn = cn from if_neg (by omega)]; rfl
  clear h4
  clear h5
  clear h6
  clear h7
  clear h8
  go_wp2_with (first | (with_reducible show wpList _ _ _ (Oper.mk _ (Op.load _ _) _ _ _ _ :: _) _ _; first | (refine wpl_take 72 _ rfl rfl _ 0 rfl ((n : Nd).cs An cn) HKn.out ((n : Nd).cs An cn) rfl _ Tryz.underlying72 rfl (by kernel_rfl) ?_)) | (with_reducible show wpList _ _ _ (Oper.mk _ (Op.store _ _ _) _ _ _ _ :: _) _ _; first | (refine wpl_stow 72 _ _ rfl rfl rfl _ 0 rfl ((n : Nd).cs An cn) rfl ([.int .i64 0,.int .i64 0,.int .i64 0,.int .i64 0,.int .i64 0,.int .i64 0,.int .i64 0,.bool false,.bool false,.int .i64 0,.int .i64 0,.int .i64 0,.int .i64 0,.int .i64 0,.int .i64 0,.int .i64 0,.int .u32 0,.int .i64 0,.int .i64 0,.slice none 0 0]) HKr.out ((n : Nd).cs An cn) rfl (Nat.le_of_ble_eq_true rfl) (by kernel_rfl) (Nd.one _ _ _) ?_; intro w3 HW3 HK3)))
  rw [HE.out]
  exact blk_ret rfl rfl HK3.out Tryz.underlying72 rfl (by kernel_rfl) ⟨rfl,HW3.out.below HB0.out (by omega)⟩
end Go.Proofs.YtehmblcbccceaaaGreat
