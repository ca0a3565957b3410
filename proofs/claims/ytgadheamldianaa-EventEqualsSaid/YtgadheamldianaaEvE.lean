/-
  Nodes, as the document has them.
-/
import Derived.Test.YtgadheamldianaaEvD
import Derived.Deep.Grids
import Derived.Deep.DeepCutAuto
import Derived.Deep.CutBlock

set_option maxRecDepth 100000
namespace Go.Proofs.Ytgadheamldianaa
open Go.RowKit pxm imm

theorem info_u32 : (Try.prog.info? 44).map (fun i => (i.zero, i.size, i.bytes)) = some (some (.int .u32 0), 1, 4) := by kernel_rfl
abbrev WOwn (w : World) (base : Nat) (v : Value) (l : List Nat) : Prop := SOwn 44 1 eWs w base v l
/-- one number more -/
theorem wown_app {w : World} {base : Nat} {v : Value} {l : List Nat} (h : WOwn w base v l) (z : Nat) (hn : l.length ≤ 20000000) (hb : base ≤ w.heap.size) {g : Nat} (hg : g = w.heap.size) :
    ∃ A9 c9 w', (Builtin.append_ #[61, 61] 61 #[v, .slice (some ⟨g, 0, none⟩) 1 1]).run Try.prog (w.alloc (.cells #[.int .u32 (z : Nat)] 44)) = .ok (.slice A9 (l.length + 1) c9) w' ∧ WOwn w' base (.slice A9 (l.length + 1) c9) (l ++ [z]) ∧ Below base w w' := by
  subst hg
  have hr : SRow 1 eWs (w.alloc (.cells #[.int .u32 (z : Nat)] 44)) (some ⟨w.heap.size, 0, none⟩) [z] := srow_new eWs_len w [z] 44 rfl
  obtain ⟨v', w', hrun, ho, hg, -⟩ := SOwn.app (P := Try.prog) (ts := 61) (z := .int .u32 0) (by_ := 4) Try.underlying61 info_u32 rfl (by decide) (by decide) eWs_len (by intro x u hu; rw [List.mem_singleton.1 hu]; rfl) (h.below ((Below.refl _ _).alloc (Nat.le_refl _) (.cells #[.int .u32 (z : Nat)] 44))) (xs := [z]) (c := 1) (fun _ => hr) (by simp; omega) (by simp; omega)
  have hB : Below base w w' := ((Below.refl base w).alloc hb _).grown hg (by simp; omega) (fun j hj => (h.block hj).1)
  obtain ⟨A9, c9, rfl, -⟩ := ho.row eWs_len
  rw [List.length_append, List.length_singleton] at hrun ho
  exact ⟨A9, c9, w', hrun, ho, hB⟩
def RefQ (m : Mp) (op : Int) (hi cl : Bool) (r : Bx) (k W H : Int) (p : Nat) (iw ih : Int) (l : List Nat) (w : World) (e : Ending) (w' : World) : Prop := ∃ A9 cap, e = .returned (ndV m op hi cl r k W H p iw ih A9 l.length cap) ∧ Row eW w' A9 l ∧ l.length ≤ cap ∧ cap ≤ maxLen ∧ Below w.heap.size w w'
set_option maxHeartbeats 4000000 in
set_option maxRecDepth 100000 in
theorem ref_any (m : Mp) (op : Int) (hi cl : Bool) (r : Bx) (k W H : Int) (p : Nat) (iw ih : Int) (A : Option Addr) (l : List Nat) (c : Nat) (w : World) (hr : Row eW w A l) (hn : l.length ≤ 20000000) : Calls Try.prog 24 #[ndV m op hi cl r k W H p iw ih A l.length c] w (RefQ m op hi cl r k W H p iw ih l w) := by
  have HR := Lib.hid hr
  unfold RefQ
  clear hr
  unfold ndV at *
  obtain ⟨ma, mb, mc, md, me, mf⟩ := m
  obtain ⟨x0, y0, x1, y1⟩ := r
  simp only
  have HB0 : Hid (Below w.heap.size w ((w.alloc (.cells #[.int .i64 ma, .int .i64 mb, .int .i64 mc, .int .i64 md, .int .i64 me, .int .i64 mf, .int .i64 op, .bool hi, .bool cl, .int .i64 x0, .int .i64 y0, .int .i64 x1, .int .i64 y1, .int .i64 k, .int .i64 W, .int .i64 H, .int .u32 (p : Nat), .int .i64 iw, .int .i64 ih, .slice A l.length c] 68)).alloc (.cells #[.int .i64 0, .int .i64 0, .int .i64 0, .int .i64 0, .int .i64 0, .int .i64 0, .int .i64 0, .bool false, .bool false, .int .i64 0, .int .i64 0, .int .i64 0, .int .i64 0, .int .i64 0, .int .i64 0, .int .i64 0, .int .u32 0, .int .i64 0, .int .i64 0, .slice none 0 0] 65))) := ((Below.refl _ _).alloc (Nat.le_refl _) _).alloc (by simp) _
  have HK0 : Hid (Blk ((w.alloc (.cells #[.int .i64 ma, .int .i64 mb, .int .i64 mc, .int .i64 md, .int .i64 me, .int .i64 mf, .int .i64 op, .bool hi, .bool cl, .int .i64 x0, .int .i64 y0, .int .i64 x1, .int .i64 y1, .int .i64 k, .int .i64 W, .int .i64 H, .int .u32 (p : Nat), .int .i64 iw, .int .i64 ih, .slice A l.length c] 68)).alloc (.cells #[.int .i64 0, .int .i64 0, .int .i64 0, .int .i64 0, .int .i64 0, .int .i64 0, .int .i64 0, .bool false, .bool false, .int .i64 0, .int .i64 0, .int .i64 0, .int .i64 0, .int .i64 0, .int .i64 0, .int .i64 0, .int .u32 0, .int .i64 0, .int .i64 0, .slice none 0 0] 65)) w.heap.size [.int .i64 ma, .int .i64 mb, .int .i64 mc, .int .i64 md, .int .i64 me, .int .i64 mf, .int .i64 op, .bool hi, .bool cl, .int .i64 x0, .int .i64 y0, .int .i64 x1, .int .i64 y1, .int .i64 k, .int .i64 W, .int .i64 H, .int .u32 (p : Nat), .int .i64 iw, .int .i64 ih, .slice A l.length c]) := (blk_new w [.int .i64 ma, .int .i64 mb, .int .i64 mc, .int .i64 md, .int .i64 me, .int .i64 mf, .int .i64 op, .bool hi, .bool cl, .int .i64 x0, .int .i64 y0, .int .i64 x1, .int .i64 y1, .int .i64 k, .int .i64 W, .int .i64 H, .int .u32 (p : Nat), .int .i64 iw, .int .i64 ih, .slice A l.length c] _).alloc _
  have HKr0 : Hid (Blk ((w.alloc (.cells #[.int .i64 ma, .int .i64 mb, .int .i64 mc, .int .i64 md, .int .i64 me, .int .i64 mf, .int .i64 op, .bool hi, .bool cl, .int .i64 x0, .int .i64 y0, .int .i64 x1, .int .i64 y1, .int .i64 k, .int .i64 W, .int .i64 H, .int .u32 (p : Nat), .int .i64 iw, .int .i64 ih, .slice A l.length c] 68)).alloc (.cells #[.int .i64 0, .int .i64 0, .int .i64 0, .int .i64 0, .int .i64 0, .int .i64 0, .int .i64 0, .bool false, .bool false, .int .i64 0, .int .i64 0, .int .i64 0, .int .i64 0, .int .i64 0, .int .i64 0, .int .i64 0, .int .u32 0, .int .i64 0, .int .i64 0, .slice none 0 0] 65)) (w.heap.size + 1) [.int .i64 0, .int .i64 0, .int .i64 0, .int .i64 0, .int .i64 0, .int .i64 0, .int .i64 0, .bool false, .bool false, .int .i64 0, .int .i64 0, .int .i64 0, .int .i64 0, .int .i64 0, .int .i64 0, .int .i64 0, .int .u32 0, .int .i64 0, .int .i64 0, .slice none 0 0]) := blk_at (w.alloc _) _ (by simp) [.int .i64 0, .int .i64 0, .int .i64 0, .int .i64 0, .int .i64 0, .int .i64 0, .int .i64 0, .bool false, .bool false, .int .i64 0, .int .i64 0, .int .i64 0, .int .i64 0, .int .i64 0, .int .i64 0, .int .i64 0, .int .u32 0, .int .i64 0, .int .i64 0, .slice none 0 0] _
  have HSZ : ((w.alloc (.cells #[.int .i64 ma, .int .i64 mb, .int .i64 mc, .int .i64 md, .int .i64 me, .int .i64 mf, .int .i64 op, .bool hi, .bool cl, .int .i64 x0, .int .i64 y0, .int .i64 x1, .int .i64 y1, .int .i64 k, .int .i64 W, .int .i64 H, .int .u32 (p : Nat), .int .i64 iw, .int .i64 ih, .slice A l.length c] 68)).alloc (.cells #[.int .i64 0, .int .i64 0, .int .i64 0, .int .i64 0, .int .i64 0, .int .i64 0, .int .i64 0, .bool false, .bool false, .int .i64 0, .int .i64 0, .int .i64 0, .int .i64 0, .int .i64 0, .int .i64 0, .int .i64 0, .int .u32 0, .int .i64 0, .int .i64 0, .slice none 0 0] 65)).heap.size = w.heap.size + 2 := by simp
  go_enter Try.func24, Try.ntmps24
  go_upto_region 1 with (fail)
  generalize ((w.alloc (.cells #[.int .i64 ma, .int .i64 mb, .int .i64 mc, .int .i64 md, .int .i64 me, .int .i64 mf, .int .i64 op, .bool hi, .bool cl, .int .i64 x0, .int .i64 y0, .int .i64 x1, .int .i64 y1, .int .i64 k, .int .i64 W, .int .i64 H, .int .u32 (p : Nat), .int .i64 iw, .int .i64 ih, .slice A l.length c] 68)).alloc (.cells #[.int .i64 0, .int .i64 0, .int .i64 0, .int .i64 0, .int .i64 0, .int .i64 0, .int .i64 0, .bool false, .bool false, .int .i64 0, .int .i64 0, .int .i64 0, .int .i64 0, .int .i64 0, .int .i64 0, .int .i64 0, .int .u32 0, .int .i64 0, .int .i64 0, .slice none 0 0] 65)) = wz at *
  have HK1 : Hid (Blk (wz.alloc (.cells #[.int .i64 0, .int .i64 0, .int .i64 0, .int .i64 0, .int .i64 0, .int .i64 0] 41)) w.heap.size [.int .i64 ma, .int .i64 mb, .int .i64 mc, .int .i64 md, .int .i64 me, .int .i64 mf, .int .i64 op, .bool hi, .bool cl, .int .i64 x0, .int .i64 y0, .int .i64 x1, .int .i64 y1, .int .i64 k, .int .i64 W, .int .i64 H, .int .u32 (p : Nat), .int .i64 iw, .int .i64 ih, .slice A l.length c]) := HK0.out.alloc _
  have HKr1 : Hid (Blk (wz.alloc (.cells #[.int .i64 0, .int .i64 0, .int .i64 0, .int .i64 0, .int .i64 0, .int .i64 0] 41)) (w.heap.size + 1) [.int .i64 0, .int .i64 0, .int .i64 0, .int .i64 0, .int .i64 0, .int .i64 0, .int .i64 0, .bool false, .bool false, .int .i64 0, .int .i64 0, .int .i64 0, .int .i64 0, .int .i64 0, .int .i64 0, .int .i64 0, .int .u32 0, .int .i64 0, .int .i64 0, .slice none 0 0]) := HKr0.out.alloc _
  have HKm1 : Hid (Blk (wz.alloc (.cells #[.int .i64 0, .int .i64 0, .int .i64 0, .int .i64 0, .int .i64 0, .int .i64 0] 41)) (w.heap.size + 2) [.int .i64 0, .int .i64 0, .int .i64 0, .int .i64 0, .int .i64 0, .int .i64 0]) := blk_at wz _ HSZ.symm [.int .i64 0, .int .i64 0, .int .i64 0, .int .i64 0, .int .i64 0, .int .i64 0] _
  have HB1 : Hid (Below w.heap.size w (wz.alloc (.cells #[.int .i64 0, .int .i64 0, .int .i64 0, .int .i64 0, .int .i64 0, .int .i64 0] 41))) := HB0.out.alloc (by omega) _
  have HSZ1 : (wz.alloc (.cells #[.int .i64 0, .int .i64 0, .int .i64 0, .int .i64 0, .int .i64 0, .int .i64 0] 41)).heap.size = w.heap.size + 3 := by simp; omega
  go_upto_region 2 with (first | (with_reducible show wpList _ _ _ (Oper.mk _ (Op.load _ _) _ _ _ _ :: _) _ _; first | (refine wpl_take 41 _ rfl rfl _ 0 rfl _ HK0.out [.int .i64 ma, .int .i64 mb, .int .i64 mc, .int .i64 md, .int .i64 me, .int .i64 mf] rfl _ Try.underlying41 rfl (by kernel_rfl) ?_)) | (with_reducible show wpList _ _ _ (Oper.mk _ (Op.store _ _ _) _ _ _ _ :: _) _ _; first | (refine wpl_stow 41 _ _ rfl rfl rfl _ 0 rfl [.int .i64 ma, .int .i64 mb, .int .i64 mc, .int .i64 md, .int .i64 me, .int .i64 mf] rfl _ HKm1.out [.int .i64 ma, .int .i64 mb, .int .i64 mc, .int .i64 md, .int .i64 me, .int .i64 mf] rfl (by simp) (by kernel_rfl) rfl ?_; intro w2 HW2 HKm2)))
  have HK2 := Lib.hid (HW2.out.blk (by omega) HK1.out)
  have HKr2 := Lib.hid (HW2.out.blk (by omega) HKr1.out)
  have HB2 := Lib.hid (HW2.out.below HB1.out (by omega))
  have HSZ2 : w2.heap.size = w.heap.size + 3 := HW2.out.size.trans HSZ1
  clear HW2 HK1 HKr1 HKm1 HB1 HSZ1 HB0 HK0 HKr0 HSZ
  have HK3 : Hid (Blk (w2.alloc (.cells #[.int .i64 0, .int .i64 0, .int .i64 0, .int .i64 0, .int .i64 0, .int .i64 0, .int .i64 0, .bool false, .bool false, .int .i64 0, .int .i64 0, .int .i64 0, .int .i64 0, .int .i64 0, .int .i64 0, .int .i64 0, .int .u32 0, .int .i64 0, .int .i64 0, .slice none 0 0] 65)) w.heap.size [.int .i64 ma, .int .i64 mb, .int .i64 mc, .int .i64 md, .int .i64 me, .int .i64 mf, .int .i64 op, .bool hi, .bool cl, .int .i64 x0, .int .i64 y0, .int .i64 x1, .int .i64 y1, .int .i64 k, .int .i64 W, .int .i64 H, .int .u32 (p : Nat), .int .i64 iw, .int .i64 ih, .slice A l.length c]) := HK2.out.alloc _
  have HKr3 : Hid (Blk (w2.alloc (.cells #[.int .i64 0, .int .i64 0, .int .i64 0, .int .i64 0, .int .i64 0, .int .i64 0, .int .i64 0, .bool false, .bool false, .int .i64 0, .int .i64 0, .int .i64 0, .int .i64 0, .int .i64 0, .int .i64 0, .int .i64 0, .int .u32 0, .int .i64 0, .int .i64 0, .slice none 0 0] 65)) (w.heap.size + 1) [.int .i64 0, .int .i64 0, .int .i64 0, .int .i64 0, .int .i64 0, .int .i64 0, .int .i64 0, .bool false, .bool false, .int .i64 0, .int .i64 0, .int .i64 0, .int .i64 0, .int .i64 0, .int .i64 0, .int .i64 0, .int .u32 0, .int .i64 0, .int .i64 0, .slice none 0 0]) := HKr2.out.alloc _
  have HKo3 : Hid (Blk (w2.alloc (.cells #[.int .i64 0, .int .i64 0, .int .i64 0, .int .i64 0, .int .i64 0, .int .i64 0, .int .i64 0, .bool false, .bool false, .int .i64 0, .int .i64 0, .int .i64 0, .int .i64 0, .int .i64 0, .int .i64 0, .int .i64 0, .int .u32 0, .int .i64 0, .int .i64 0, .slice none 0 0] 65)) (w.heap.size + 3) [.int .i64 0, .int .i64 0, .int .i64 0, .int .i64 0, .int .i64 0, .int .i64 0, .int .i64 0, .bool false, .bool false, .int .i64 0, .int .i64 0, .int .i64 0, .int .i64 0, .int .i64 0, .int .i64 0, .int .i64 0, .int .u32 0, .int .i64 0, .int .i64 0, .slice none 0 0]) := blk_at w2 _ HSZ2.symm [.int .i64 0, .int .i64 0, .int .i64 0, .int .i64 0, .int .i64 0, .int .i64 0, .int .i64 0, .bool false, .bool false, .int .i64 0, .int .i64 0, .int .i64 0, .int .i64 0, .int .i64 0, .int .i64 0, .int .i64 0, .int .u32 0, .int .i64 0, .int .i64 0, .slice none 0 0] _
  have HB3 : Hid (Below w.heap.size w (w2.alloc (.cells #[.int .i64 0, .int .i64 0, .int .i64 0, .int .i64 0, .int .i64 0, .int .i64 0, .int .i64 0, .bool false, .bool false, .int .i64 0, .int .i64 0, .int .i64 0, .int .i64 0, .int .i64 0, .int .i64 0, .int .i64 0, .int .u32 0, .int .i64 0, .int .i64 0, .slice none 0 0] 65))) := HB2.out.alloc (by omega) _
  have HSZ3 : (w2.alloc (.cells #[.int .i64 0, .int .i64 0, .int .i64 0, .int .i64 0, .int .i64 0, .int .i64 0, .int .i64 0, .bool false, .bool false, .int .i64 0, .int .i64 0, .int .i64 0, .int .i64 0, .int .i64 0, .int .i64 0, .int .i64 0, .int .u32 0, .int .i64 0, .int .i64 0, .slice none 0 0] 65)).heap.size = w.heap.size + 4 := by simp; omega
  have c6 : w2.cell? ⟨w.heap.size, 6, none⟩ = some (.int .i64 op) := HK2.out.cell 6
  have c7 : w2.cell? ⟨w.heap.size, 7, none⟩ = some (.bool hi) := HK2.out.cell 7
  have c8 : w2.cell? ⟨w.heap.size, 8, none⟩ = some (.bool cl) := HK2.out.cell 8
  have c9 : w2.cell? ⟨w.heap.size, 9, none⟩ = some (.int .i64 x0) := HK2.out.cell 9
  have c10 : w2.cell? ⟨w.heap.size, 10, none⟩ = some (.int .i64 y0) := HK2.out.cell 10
  have c11 : w2.cell? ⟨w.heap.size, 11, none⟩ = some (.int .i64 x1) := HK2.out.cell 11
  have c12 : w2.cell? ⟨w.heap.size, 12, none⟩ = some (.int .i64 y1) := HK2.out.cell 12
  have c13 : w2.cell? ⟨w.heap.size, 13, none⟩ = some (.int .i64 k) := HK2.out.cell 13
  have c14 : w2.cell? ⟨w.heap.size, 14, none⟩ = some (.int .i64 W) := HK2.out.cell 14
  have c15 : w2.cell? ⟨w.heap.size, 15, none⟩ = some (.int .i64 H) := HK2.out.cell 15
  have c16 : w2.cell? ⟨w.heap.size, 16, none⟩ = some (.int .u32 (p : Nat)) := HK2.out.cell 16
  have c17 : w2.cell? ⟨w.heap.size, 17, none⟩ = some (.int .i64 iw) := HK2.out.cell 17
  have c18 : w2.cell? ⟨w.heap.size, 18, none⟩ = some (.int .i64 ih) := HK2.out.cell 18
  have d0 : w2.cell? ⟨(w.heap.size + 2), 0, none⟩ = some (.int .i64 ma) := HKm2.out.cell 0
  have d1 : w2.cell? ⟨(w.heap.size + 2), 1, none⟩ = some (.int .i64 mb) := HKm2.out.cell 1
  have d2 : w2.cell? ⟨(w.heap.size + 2), 2, none⟩ = some (.int .i64 mc) := HKm2.out.cell 2
  have d3 : w2.cell? ⟨(w.heap.size + 2), 3, none⟩ = some (.int .i64 md) := HKm2.out.cell 3
  have d4 : w2.cell? ⟨(w.heap.size + 2), 4, none⟩ = some (.int .i64 me) := HKm2.out.cell 4
  have d5 : w2.cell? ⟨(w.heap.size + 2), 5, none⟩ = some (.int .i64 mf) := HKm2.out.cell 5
  have hlt : w.heap.size < w2.heap.size := by omega
  have hlt2 : w.heap.size + 2 < w2.heap.size := by omega
  go_upto_region 3 with (first | (with_reducible show wpList _ _ _ (Oper.mk _ (Op.store _ _ _) _ _ _ _ :: _) _ _; first | (refine wpl_stow 65 _ _ rfl rfl rfl _ 0 rfl [.int .i64 ma, .int .i64 mb, .int .i64 mc, .int .i64 md, .int .i64 me, .int .i64 mf, .int .i64 op, .bool hi, .bool cl, .int .i64 x0, .int .i64 y0, .int .i64 x1, .int .i64 y1, .int .i64 k, .int .i64 W, .int .i64 H, .int .u32 (p : Nat), .int .i64 iw, .int .i64 ih, .slice none 0 0] rfl _ HKo3.out [.int .i64 ma, .int .i64 mb, .int .i64 mc, .int .i64 md, .int .i64 me, .int .i64 mf, .int .i64 op, .bool hi, .bool cl, .int .i64 x0, .int .i64 y0, .int .i64 x1, .int .i64 y1, .int .i64 k, .int .i64 W, .int .i64 H, .int .u32 (p : Nat), .int .i64 iw, .int .i64 ih, .slice none 0 0] rfl (by simp) (by kernel_rfl) rfl ?_; intro w4 HW4 HKo4)))
  have HK4 := Lib.hid (HW4.out.blk (by omega) HK3.out)
  have HKr4 := Lib.hid (HW4.out.blk (by omega) HKr3.out)
  have HB4 := Lib.hid (HW4.out.below HB3.out (by omega))
  have HSZ4 : w4.heap.size = w.heap.size + 4 := HW4.out.size.trans HSZ3
  clear HW4 HK3 HKr3 HKo3 HB3 HSZ3 HB2 HK2 HKr2 HSZ2 HKm2 c6 c7 c8 c9 c10 c11 c12 c13 c14 c15 c16 c17 c18 d0 d1 d2 d3 d4 d5 hlt hlt2
  have c19 : w4.cell? ⟨w.heap.size, 19, none⟩ = some (.slice A l.length c) := HK4.out.cell 19
  have hlt : w.heap.size < w4.heap.size := by omega
  go_wp2_with (fail)
  clear c19 hlt HK4
  go_loopw [68] (fun i wr => ∃ (k0 : Nat) (A9 : Option Addr) (c9 : Nat), k0 ≤ l.length ∧ i = .int .i64 k0 ∧ Hid (WOwn wr (w.heap.size + 4) (.slice A9 k0 c9) (l.take k0)) ∧ Hid (Blk wr (w.heap.size + 3) [.int .i64 ma, .int .i64 mb, .int .i64 mc, .int .i64 md, .int .i64 me, .int .i64 mf, .int .i64 op, .bool hi, .bool cl, .int .i64 x0, .int .i64 y0, .int .i64 x1, .int .i64 y1, .int .i64 k, .int .i64 W, .int .i64 H, .int .u32 (p : Nat), .int .i64 iw, .int .i64 ih, .slice A9 k0 c9]) ∧ Hid (Blk wr (w.heap.size + 1) [.int .i64 0, .int .i64 0, .int .i64 0, .int .i64 0, .int .i64 0, .int .i64 0, .int .i64 0, .bool false, .bool false, .int .i64 0, .int .i64 0, .int .i64 0, .int .i64 0, .int .i64 0, .int .i64 0, .int .i64 0, .int .u32 0, .int .i64 0, .int .i64 0, .slice none 0 0]) ∧ Hid (Below w.heap.size w wr) ∧ Hid (w.heap.size + 4 ≤ wr.heap.size)) (fun i _ => l.length - (intOf i).toNat)
  case atStart => exact ⟨0, none, 0, Nat.zero_le _, rfl, SOwn.nil _ _, HKo4.out, HKr4.out, HB4.out, Nat.le_of_eq HSZ4.symm⟩
  case round =>
    clear HKo4 HKr4 HB4 HSZ4
    obtain ⟨k0, A9, c9, hk, rfl, HO, HKo, HKr, HB, HS⟩ := hrel
    by_cases hlt : k0 < l.length
    · have t : decide (k0 < l.length) = true := by simpa using hlt
      obtain ⟨b, off, rfl, hc⟩ := (HR.out.below HB.out).at_ hlt
      have hlk : (l.take k0).length = k0 := by rw [List.length_take]; omega
      have HT := Lib.hid (List.take_succ_eq_append_getElem hlt)
      generalize l[k0] = z at *
      unfold eW at hc
      obtain ⟨A8, c8, w6, hrun, ho, hb⟩ := wown_app HO.out z (by omega) HS.out rfl
      rw [hlk] at hrun ho
      have HO6 : Hid (WOwn w6 (w.heap.size + 4) (.slice A8 (k0 + 1) c8) (l.take (k0 + 1))) := by rw [HT.out]; exact ho
      have HKo6 := Lib.hid (HKo.out.below hb (by omega))
      have HKr6 := Lib.hid (HKr.out.below hb (by omega))
      have HB6 : Hid (Below w.heap.size w w6) := HB.out.trans (hb.mono (by omega))
      have HS6 : Hid (w.heap.size + 4 ≤ w6.heap.size) := Nat.le_trans HS.out hb.size
      have c19 : wr.cell? ⟨w.heap.size + 3, 19, none⟩ = some (.slice A9 k0 c9) := HKo.out.cell 19
      have hlt3 : w.heap.size + 3 < wr.heap.size := by have := HS.out; omega
      have d19 : w6.cell? ⟨w.heap.size + 3, 19, none⟩ = some (.slice A9 k0 c9) := HKo6.out.cell 19
      have f19 : w6.frozen? ⟨w.heap.size + 3, 19, none⟩ = false := HKo6.out.free 19
      have hlt4 : w.heap.size + 3 < w6.heap.size := by have := HS6.out; omega
      clear ho hb HT HO HKo HKr
      go_wp2_with (at_builtin; refine wpl_append rfl _ _ 61 61 61 rfl rfl _ _ _ _ rfl rfl hrun ?_; clear hrun)
      go_roundw
      case rel =>
        have hw : Wrote (w.heap.size + 3) w6 (w6.setCell ⟨w.heap.size + 3, 19, none⟩ (.slice A8 (k0 + 1) c8)) := ⟨19, [.slice A8 (k0 + 1) c8], rfl⟩
        exact ⟨k0 + 1, A8, c8, by omega, by go_num, HO6.out.stays (fun g hg => hw.far (by have := (HO6.out.block hg).1; omega)), HKo6.out.set 19 _, hw.blk (by omega) HKr6.out, hw.below HB6.out (by omega), by rw [hw.size]; exact HS6.out⟩
      case measure => simp [intOf]; omega
    · obtain rfl : k0 = l.length := by omega
      have HO2 : Hid (WOwn wr (w.heap.size + 4) (.slice A9 l.length c9) l) := by have := HO.out; rwa [List.take_length] at this
      have t : decide (l.length < l.length) = false := by simp
      clear HO
      go_wp2_with (first | (with_reducible show wpList _ _ _ (Oper.mk _ (Op.load _ _) _ _ _ _ :: _) _ _; first | (refine wpl_take 65 _ rfl rfl _ 0 rfl _ HKo.out [.int .i64 ma, .int .i64 mb, .int .i64 mc, .int .i64 md, .int .i64 me, .int .i64 mf, .int .i64 op, .bool hi, .bool cl, .int .i64 x0, .int .i64 y0, .int .i64 x1, .int .i64 y1, .int .i64 k, .int .i64 W, .int .i64 H, .int .u32 (p : Nat), .int .i64 iw, .int .i64 ih, .slice A9 l.length c9] rfl _ Try.underlying65 rfl (by kernel_rfl) ?_)) | (with_reducible show wpList _ _ _ (Oper.mk _ (Op.store _ _ _) _ _ _ _ :: _) _ _; first | (refine wpl_stow 65 _ _ rfl rfl rfl _ 0 rfl [.int .i64 ma, .int .i64 mb, .int .i64 mc, .int .i64 md, .int .i64 me, .int .i64 mf, .int .i64 op, .bool hi, .bool cl, .int .i64 x0, .int .i64 y0, .int .i64 x1, .int .i64 y1, .int .i64 k, .int .i64 W, .int .i64 H, .int .u32 (p : Nat), .int .i64 iw, .int .i64 ih, .slice A9 l.length c9] rfl _ HKr.out [.int .i64 ma, .int .i64 mb, .int .i64 mc, .int .i64 md, .int .i64 me, .int .i64 mf, .int .i64 op, .bool hi, .bool cl, .int .i64 x0, .int .i64 y0, .int .i64 x1, .int .i64 y1, .int .i64 k, .int .i64 W, .int .i64 H, .int .u32 (p : Nat), .int .i64 iw, .int .i64 ih, .slice A9 l.length c9] rfl (by simp) (by kernel_rfl) rfl ?_; intro w7 HW7 HK7)))
      have HO7 : Hid (WOwn w7 (w.heap.size + 4) (.slice A9 l.length c9) l) := HO2.out.stays (fun g hg => HW7.out.far (by have := (HO2.out.block hg).1; omega))
      obtain ⟨A7, c7, e7, h1, h2, h3⟩ := HO7.out.row eWs_len
      injection e7 with e1 e2 e3
      subst e1; subst e3
      exact blk_ret rfl rfl HK7.out Try.underlying65 rfl (by kernel_rfl) ⟨A9, c9, rfl, h3.row1, h1, h2, HW7.out.below HB.out (by omega)⟩
end Go.Proofs.Ytgadheamldianaa
