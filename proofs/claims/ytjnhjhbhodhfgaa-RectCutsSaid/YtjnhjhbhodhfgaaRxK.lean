/-
 Layer 6: RectCuts' walk: up to the loops.
-/
import Derived.Test.YtjnhjhbhodhfgaaRxJ
import Derived.Test.YtjnhjhbhodhfgaaRegx
import Derived.ChangeKeysEq
import Derived.Deep.Cut
namespace Go.Proofs.Ytjnhjhbhodhfgaa
open Go.RowKit

set_option maxRecDepth 100000 in
set_option maxHeartbeats 1000000 in
theorem rectCuts_no (r s t : Bx) (w : World) (h : (r.rt && (s.rt && t.rt)) = false) : Calls Try.prog 3 #[r.v, s.v, t.v] w fun e w' => e = .returned (.bool true) ∧ Below w.heap.size w w' := by
 have HR := Lib.hid (fun w => right_any r w)
 have HS := Lib.hid (fun w => right_any s w)
 have HT := Lib.hid (fun w => right_any t w)
 generalize r.rt = x1 at *
 generalize s.rt = x2 at *
 generalize t.rt = x3 at *
 obtain ⟨ra, rb, rc, rd⟩ := r
 obtain ⟨sa, sb, sc, sd⟩ := s
 obtain ⟨ta, tb, tc, td⟩ := t
 unfold Bx.v at *
 simp only at HR HS HT ⊢
 cases x1 with
 | false =>
  clear h
  go_enter Try.func3, Try.ntmps3
  go_wp2_with (fail)
  refine (HR.out _).mono ?_
  rintro e w1 ⟨rfl, hb⟩
  have B1 : Hid (Below w.heap.size w w1) := (below3 _ _ _).trans (hb.mono (by simp; try omega))
  have K1 : Hid (JBs [(w.heap.size + 1, [.int .i64 sa, .int .i64 sb, .int .i64 sc, .int .i64 sd]), (w.heap.size + 2, [.int .i64 ta, .int .i64 tb, .int .i64 tc, .int .i64 td])] w1) := ⟨((blk_at (w.alloc _) _ (by simp) [.int .i64 sa, .int .i64 sb, .int .i64 sc, .int .i64 sd] _).alloc _).below hb (by simp; try omega), (blk_at ((w.alloc _).alloc _) _ (by simp) [.int .i64 ta, .int .i64 tb, .int .i64 tc, .int .i64 td] _).below hb (by simp), trivial⟩
  clear hb
  go_wp2_with (fail)
  refine (awake_any _).mono ?_
  rintro e w9 ⟨rfl, hb⟩
  have B9 : Hid (Below w.heap.size w w9) := B1.out.trans (hb.mono B1.out.size)
  clear hb
  go_wp2_with (fail)
  go_ret
  exact ⟨rfl, B9.out⟩
 | true =>
  cases x2 with
  | false =>
   clear h
   go_enter Try.func3, Try.ntmps3
   go_wp2_with (fail)
   refine (HR.out _).mono ?_
   rintro e w1 ⟨rfl, hb⟩
   have B1 : Hid (Below w.heap.size w w1) := (below3 _ _ _).trans (hb.mono (by simp; try omega))
   have K1 : Hid (JBs [(w.heap.size + 1, [.int .i64 sa, .int .i64 sb, .int .i64 sc, .int .i64 sd]), (w.heap.size + 2, [.int .i64 ta, .int .i64 tb, .int .i64 tc, .int .i64 td])] w1) := ⟨((blk_at (w.alloc _) _ (by simp) [.int .i64 sa, .int .i64 sb, .int .i64 sc, .int .i64 sd] _).alloc _).below hb (by simp; try omega), (blk_at ((w.alloc _).alloc _) _ (by simp) [.int .i64 ta, .int .i64 tb, .int .i64 tc, .int .i64 td] _).below hb (by simp), trivial⟩
   clear hb
   obtain ⟨⟨c0, c1, c2, c3⟩, -, i0⟩ := K1.out.1.c4
   go_wp2_with (fail)
   refine (HS.out _).mono ?_
   rintro e w2 ⟨rfl, hb⟩
   have B2 : Hid (Below w.heap.size w w2) := B1.out.trans (hb.mono B1.out.size)
   have K2 := Lib.hid (K1.out.below hb)
   clear hb c0 c1 c2 c3 i0 K1
   go_wp2_with (fail)
   refine (awake_any _).mono ?_
   rintro e w9 ⟨rfl, hb⟩
   have B9 : Hid (Below w.heap.size w w9) := B2.out.trans (hb.mono B2.out.size)
   clear hb
   go_wp2_with (fail)
   go_ret
   exact ⟨rfl, B9.out⟩
  | true =>
   have h3 : x3 = false := by simpa using h
   subst h3
   go_enter Try.func3, Try.ntmps3
   go_wp2_with (fail)
   refine (HR.out _).mono ?_
   rintro e w1 ⟨rfl, hb⟩
   have B1 : Hid (Below w.heap.size w w1) := (below3 _ _ _).trans (hb.mono (by simp; try omega))
   have K1 : Hid (JBs [(w.heap.size + 1, [.int .i64 sa, .int .i64 sb, .int .i64 sc, .int .i64 sd]), (w.heap.size + 2, [.int .i64 ta, .int .i64 tb, .int .i64 tc, .int .i64 td])] w1) := ⟨((blk_at (w.alloc _) _ (by simp) [.int .i64 sa, .int .i64 sb, .int .i64 sc, .int .i64 sd] _).alloc _).below hb (by simp; try omega), (blk_at ((w.alloc _).alloc _) _ (by simp) [.int .i64 ta, .int .i64 tb, .int .i64 tc, .int .i64 td] _).below hb (by simp), trivial⟩
   clear hb
   obtain ⟨⟨c0, c1, c2, c3⟩, -, i0⟩ := K1.out.1.c4
   go_wp2_with (fail)
   refine (HS.out _).mono ?_
   rintro e w2 ⟨rfl, hb⟩
   have B2 : Hid (Below w.heap.size w w2) := B1.out.trans (hb.mono B1.out.size)
   have K2 := Lib.hid (K1.out.below hb)
   clear hb c0 c1 c2 c3 i0 K1
   obtain ⟨⟨c0, c1, c2, c3⟩, -, i0⟩ := K2.out.2.1.c4
   go_wp2_with (fail)
   refine (HT.out _).mono ?_
   rintro e w3 ⟨rfl, hb⟩
   have B3 : Hid (Below w.heap.size w w3) := B2.out.trans (hb.mono B2.out.size)
   have K3 := Lib.hid (K2.out.below hb)
   clear hb c0 c1 c2 c3 i0 K2
   go_wp2_with (fail)
   refine (awake_any _).mono ?_
   rintro e w9 ⟨rfl, hb⟩
   have B9 : Hid (Below w.heap.size w w9) := B3.out.trans (hb.mono B3.out.size)
   clear hb
   go_wp2_with (fail)
   go_ret
   exact ⟨rfl, B9.out⟩
/-- what is said of a first half: the world behind 'c, j := ..' -/
def CutsAt (w : World) (r s t c j : Bx) (g7 g8 : Nat) (wx : World) : Prop := JBs [(w.heap.size, r.cs), (w.heap.size + 1, s.cs), (w.heap.size + 2, t.cs), (g7, c.cs), (g8, j.cs)] wx ∧ Below w.heap.size w wx ∧ w.heap.size + 3 ≤ wx.heap.size
theorem CutsAt.below {w wx wy : World} {r s t c j : Bx} {g7 g8 : Nat} (h : CutsAt w r s t c j g7 g8 wx) (hb : Below wx.heap.size wx wy) : CutsAt w r s t c j g7 g8 wy := ⟨h.1.below hb, h.2.1.trans (hb.mono h.2.1.size), Nat.le_trans h.2.2 hb.size⟩
/-- .. and while the sides are looked for -/
def SideJ (w : World) (r s t c j : Bx) (g7 g8 gs gl : Nat) (s0 s1 s2 s3 : Bool) (wx : World) : Prop := CutsAt w r s t c j g7 g8 wx ∧ Blk wx gs [.bool s0, .bool s1, .bool s2, .bool s3] ∧ BRow wx (some ⟨gl, 0, none⟩) [r, s, t] ∧ (w.heap.size + 3 ≤ gs ∧ g7 < gs ∧ g8 < gs ∧ gs < gl)
theorem SideJ.below {w wx wy : World} {r s t c j : Bx} {g7 g8 gs gl : Nat} {s0 s1 s2 s3 : Bool} (h : SideJ w r s t c j g7 g8 gs gl s0 s1 s2 s3 wx) (hb : Below wx.heap.size wx wy) : SideJ w r s t c j g7 g8 gs gl s0 s1 s2 s3 wy := ⟨h.1.below hb, h.2.1.below' hb, h.2.2.1.below hb, h.2.2.2⟩
theorem brow_off {w w' : World} {g o : Nat} {l : List Bx} (h : BRow w (some ⟨g, o, none⟩) l) (hb : w'.heap[g]? = w.heap[g]?) : BRow w' (some ⟨g, o, none⟩) l := fun hn => by
 obtain ⟨b, off, e, hc⟩ := h hn
 simp only [Option.some.injEq, Addr.mk.injEq, and_true] at e
 obtain ⟨rfl, rfl⟩ := e
 exact ⟨_, _, rfl, fun j hj i v hv => (World.cell?_of_block (a := ⟨g, _, none⟩) hb).trans (hc j hj i v hv)⟩
theorem SideJ.put {w wx : World} {r s t c j : Bx} {g7 g8 gs gl : Nat} {s0 s1 s2 s3 : Bool} (h : SideJ w r s t c j g7 g8 gs gl s0 s1 s2 s3 wx) (t0 t1 t2 t3 : Bool) :
  SideJ w r s t c j g7 g8 gs gl t0 t1 t2 t3 ((((wx.setCell ⟨gs, 0, none⟩ (.bool t0)).setCell ⟨gs, 1, none⟩ (.bool t1)).setCell ⟨gs, 2, none⟩ (.bool t2)).setCell ⟨gs, 3, none⟩ (.bool t3)) := by
 obtain ⟨⟨h1, h2, h3⟩, h4, h5, h6, h7, h8, h9⟩ := h
 refine ⟨⟨h1.off4 (B := gs) (fun p hp => ?_) (Nat.le_refl _) _ _ _ _, below4 h2 (by omega) _ _ _ _, by simpa [World.setCell] using h3⟩, h4.put4 _ _ _ _, brow_off h5 ?_, h6, h7, h8, h9⟩
 ·simp only [List.mem_cons, List.not_mem_nil, or_false] at hp
  rcases hp with rfl | rfl | rfl | rfl | rfl <;> (show _ < gs; omega)
 ·have hne : gl ≠ gs := by omega
  rw [heap_setCell_other _ _ _ _ hne, heap_setCell_other _ _ _ _ hne, heap_setCell_other _ _ _ _ hne, heap_setCell_other _ _ _ _ hne]
theorem arr4 (w : World) : (binOp .neq 32 (.agg #[.bool true, .bool true, .bool true, .bool true]) (.agg #[.bool true, .bool true, .bool true, .bool true])).run Try.prog w = .ok (.bool false) w := by
 obtain ⟨i, hi⟩ : ∃ i, Try.prog.info? 4 = some i := ⟨_, rfl⟩
 have hc : Try.prog.cellsOf 4 = 1 := by kernel_rfl
 have h := run_equalIn_array (P := Try.prog) w 9999 #[.bool true, .bool true, .bool true, .bool true] #[.bool true, .bool true, .bool true, .bool true] Try.underlying32 hi
 rw [hc] at h
 rw [run_neq_struct, h]
 simp [Op.eqItems, List.range, List.range.loop, part, go_sem]
theorem join_o {r : Bx} {l : List Bx} (h : (r.join l).emp = true) : r.join l = Bx.o := (join_facts r l).1.resolve_right (by rw [h]; decide)
theorem join_emp (r s t : Bx) : (r.join [s, t]).emp = (r.emp && (s.emp && t.emp)) := by
 obtain ⟨h1, h2, h3⟩ := join_facts r [s, t]
 cases hr : r.emp with
 | false => rw [(h2 r hr (by simp)).1]; rfl
 | true =>
  cases hs : s.emp with
  | false => rw [(h2 s hs (by simp)).1]; rfl
  | true =>
   cases ht : t.emp with
   | false => rw [(h2 t ht (by simp)).1]; rfl
   | true =>
    cases hj : (r.join [s, t]).emp with
    | true => rfl
    | false =>
     obtain ⟨x, hx, hm⟩ := join_some hj
     simp only [List.mem_cons, List.not_mem_nil, or_false] at hm
     rcases hm with rfl | rfl | rfl
     ·rw [hr] at hx; cases hx
     ·rw [hs] at hx; cases hx
     ·rw [ht] at hx; cases hx
/-- some rectangle with pixels, of the first k, has it -/
def sideB (f : Bx → Bool) (l : List Bx) : Bool := l.any fun p => !p.emp && f p
theorem sideB_snoc (f : Bx → Bool) (l : List Bx) {k : Nat} (hk : k < l.length) : sideB f (l.take (k + 1)) = (sideB f (l.take k) || (!l[k].emp && f l[k])) := by
 unfold sideB
 rw [List.take_succ_eq_append_getElem hk, List.any_append]
 simp
theorem join_sides (r s t : Bx) (h : (r.join [s, t]).emp = false) : sideB (fun p => p.a == (r.join [s, t]).a) [r, s, t] = true ∧ sideB (fun p => p.b == (r.join [s, t]).b) [r, s, t] = true ∧ sideB (fun p => p.c == (r.join [s, t]).c) [r, s, t] = true ∧ sideB (fun p => p.d == (r.join [s, t]).d) [r, s, t] = true := by
 obtain ⟨⟨x1, a1, a2, a3⟩, ⟨x2, b1, b2, b3⟩, ⟨x3, c1, c2, c3⟩, ⟨x4, d1, d2, d3⟩⟩ := (join_facts r [s, t]).2.2 h
 have key : ∀ {f : Bx → Bool} {x : Bx}, x.emp = false → x ∈ [r, s, t] → f x = true → sideB f [r, s, t] = true := fun hx hm hf => by
  unfold sideB
  rw [List.any_eq_true]
  exact ⟨_, hm, by rw [hx, hf]; rfl⟩
 exact ⟨key a1 a2 (by simpa using a3), key b1 b2 (by simpa using b3), key c1 c2 (by simpa using c3), key d1 d2 (by simpa using d3)⟩
def CutsJ (w : World) (r s t c j : Bx) (g7 g8 : Nat) (A9 A10 : Option Addr) (lx ly : List Int) (wx : World) : Prop := CutsAt w r s t c j g7 g8 wx ∧ Row eI wx A9 lx ∧ Row eI wx A10 ly
theorem CutsJ.below {w wx wy : World} {r s t c j : Bx} {g7 g8 : Nat} {A9 A10 : Option Addr} {lx ly : List Int} (h : CutsJ w r s t c j g7 g8 A9 A10 lx ly wx) (hb : Below wx.heap.size wx wy) : CutsJ w r s t c j g7 g8 A9 A10 lx ly wy := ⟨h.1.below hb, h.2.1.below hb, h.2.2.below hb⟩
theorem cuts_has (r s t : Bx) (x y : Int) : (r.cut [s, t]).has x y = (r.has x y && (s.has x y && t.has x y)) ∧ ((r.has x y || (s.has x y || t.has x y)) = true → (r.join [s, t]).has x y = true) := by
 refine ⟨by rw [cut2_has, Bool.and_assoc], fun h => ?_⟩
 rw [Bool.or_eq_true, Bool.or_eq_true] at h
 rcases h with h | h | h
 ·exact join_has (by simp) h
 ·exact join_has (by simp) h
 ·exact join_has (by simp) h
set_option maxRecDepth 100000 in
set_option maxHeartbeats 4000000 in
theorem rectCuts_yes (r s t : Bx) (w : World) (h1 : r.rt = true) (h2 : s.rt = true) (h3 : t.rt = true) : Calls Try.prog 3 #[r.v, s.v, t.v] w fun e w' => e = .returned (.bool true) ∧ Below w.heap.size w w' := by
 have HR := Lib.hid (fun w => right_any r w)
 have HS := Lib.hid (fun w => right_any s w)
 have HT := Lib.hid (fun w => right_any t w)
 rw [h1] at HR
 rw [h2] at HS
 rw [h3] at HT
 clear h1 h2 h3
 obtain ⟨⟨ca, cb, cc, cd⟩, hc⟩ : ∃ c, r.cut [s, t] = c := ⟨_, rfl⟩
 obtain ⟨⟨ja, jb, jc, jd⟩, hj⟩ : ∃ j, r.join [s, t] = j := ⟨_, rfl⟩
 have HC := Lib.hid hc
 have HJ := Lib.hid hj
 clear hc hj
 obtain ⟨ra, rb, rc, rd⟩ := r
 obtain ⟨sa, sb, sc, sd⟩ := s
 obtain ⟨ta, tb, tc, td⟩ := t
 unfold Bx.v
 unfold Bx.v at HR HS HT
 simp only at HR HS HT ⊢
 go_enter Try.func3, Try.ntmps3
 go_wp2_with (fail)
 refine (HR.out _).mono ?_
 rintro e w1 ⟨rfl, hb⟩
 have B1 : Hid (Below w.heap.size w w1 ∧ w.heap.size + 3 ≤ w1.heap.size) := ⟨(below3 _ _ _).trans (hb.mono (by simp; try omega)), by have := hb.size; simp at this; omega⟩
 have K1 : Hid (JBs [(w.heap.size, [.int .i64 ra, .int .i64 rb, .int .i64 rc, .int .i64 rd]), (w.heap.size + 1, [.int .i64 sa, .int .i64 sb, .int .i64 sc, .int .i64 sd]), (w.heap.size + 2, [.int .i64 ta, .int .i64 tb, .int .i64 tc, .int .i64 td])] w1) := ⟨(((blk_new w [.int .i64 ra, .int .i64 rb, .int .i64 rc, .int .i64 rd] _).alloc _).alloc _).below hb (by simp; omega), ((blk_at (w.alloc _) _ (by simp) [.int .i64 sa, .int .i64 sb, .int .i64 sc, .int .i64 sd] _).alloc _).below hb (by simp; try omega), (blk_at ((w.alloc _).alloc _) _ (by simp) [.int .i64 ta, .int .i64 tb, .int .i64 tc, .int .i64 td] _).below hb (by simp), trivial⟩
 clear hb
 obtain ⟨⟨c0, c1, c2, c3⟩, -, i0⟩ := K1.out.2.1.c4
 go_wp2_with (fail)
 refine (HS.out _).mono ?_
 rintro e w2 ⟨rfl, hb⟩
 have B2 : Hid (Below w.heap.size w w2 ∧ w.heap.size + 3 ≤ w2.heap.size) := ⟨B1.out.1.trans (hb.mono B1.out.1.size), Nat.le_trans B1.out.2 hb.size⟩
 have K2 := Lib.hid (K1.out.below hb)
 clear hb c0 c1 c2 c3 i0 K1 B1
 obtain ⟨⟨c0, c1, c2, c3⟩, -, i0⟩ := K2.out.2.2.1.c4
 go_wp2_with (fail)
 refine (HT.out _).mono ?_
 rintro e w3 ⟨rfl, hb⟩
 have B3 : Hid (Below w.heap.size w w3 ∧ w.heap.size + 3 ≤ w3.heap.size) := ⟨B2.out.1.trans (hb.mono B2.out.1.size), Nat.le_trans B2.out.2 hb.size⟩
 have K3 := Lib.hid (K2.out.below hb)
 clear hb c0 c1 c2 c3 i0 K2 B2
 go_upto_region 3 with fail
 refine regv.wp_region_put (Below w3.heap.size) (fun L V wx => JC w3.heap.size [(w.heap.size, [.int .i64 ra, .int .i64 rb, .int .i64 rc, .int .i64 rd]), (w.heap.size + 1, [.int .i64 sa, .int .i64 sb, .int .i64 sc, .int .i64 sd]), (w.heap.size + 2, [.int .i64 ta, .int .i64 tb, .int .i64 tc, .int .i64 td])] [.int .i64 0, .int .i64 0, .int .i64 0, .int .i64 0] [.int .i64 ca, .int .i64 cb, .int .i64 cc, .int .i64 cd] [.int .i64 ja, .int .i64 jb, .int .i64 jc, .int .i64 jd] [(⟨sa, sb, sc, sd⟩ : Bx), (⟨ta, tb, tc, td⟩ : Bx)] (L 3) (L 4) (L 8) (L 9) (L 10) (L 11) (L 12) (L 13) (V 7) (V 8) (V 38) (V 43) wx) [35, 36, 37, 38, 39, 40, 41, 42, 43, 44, 7, 8] (by kernel_rfl) (by kernel_rfl) (fun _ => Below.refl _ _) (fun _ _ _ h k => h.trans k) (fun i => (match i with
  | 0 => regs.Say.val _ (.agg #[.int .i64 ra, .int .i64 rb, .int .i64 rc, .int .i64 rd])
  | 1 => regs.Say.val _ (.agg #[.int .i64 sa, .int .i64 sb, .int .i64 sc, .int .i64 sd])
  | 2 => regs.Say.val _ (.agg #[.int .i64 ta, .int .i64 tb, .int .i64 tc, .int .i64 td])
  | 3 => regs.Say.any _
  | 4 => regs.Say.val _ (.agg #[.int .i64 ca, .int .i64 cb, .int .i64 cc, .int .i64 cd])
  | 5 => regs.Say.val _ (.agg #[.int .i64 ra, .int .i64 rb, .int .i64 rc, .int .i64 rd])
  | 6 => regs.Say.val _ (.agg #[.int .i64 sa, .int .i64 sb, .int .i64 sc, .int .i64 sd])
  | 7 => regs.Say.val _ (.agg #[.int .i64 ta, .int .i64 tb, .int .i64 tc, .int .i64 td])
  | 8 => regs.Say.any _
  | 9 => regs.Say.val _ (.agg #[.int .i64 ja, .int .i64 jb, .int .i64 jc, .int .i64 jd])
  | 10 => regs.Say.any _
  | 11 => regs.Say.any _
  | 12 => regs.Say.any _
  | 13 => regs.Say.any _
  | _ => regs.Say.any _ : regs.Say (Below w3.heap.size)).p) (fun _ => regs.Say.mono _) (by kernel_rfl) ((Below.refl _ _).drew) (⟨⟨K3.out, Nat.le_refl _, fun p hp => by have := B3.out.2; simp at hp; rcases hp with rfl | rfl | rfl <;> simp <;> omega⟩, fun e => (nomatch e), fun e => (nomatch e), fun e => (nomatch e), fun e => (nomatch e), fun e => (nomatch e), fun e => (nomatch e), fun e => (nomatch e)⟩) ⟨?_, ?_, ?_, ?_, ?_, ?_, ?_, ?_, ?_, ?_, ?_, ?_, ?_, ?_, trivial⟩ ?_
 ·refine regv.StepOK.plain rfl fun L a w1 hh => ?_
  have h3 : a.tmps[3]?.getD undef = .pointer (some ⟨w.heap.size, 0, none⟩) := hh.kp 3 rfl rfl
  obtain ⟨⟨c0, c1, c2, c3⟩, -, -⟩ := hh.st.1.1.1.c4
  have hJ := Lib.hid hh.st
  clear hh
  go_simp
  exact ⟨_, rfl, Below.refl _ _, rfl, JC.slots hJ.out (regv.sl_ne (by decide)) (regv.sl_ne (by decide)) (regv.sl_ne (by decide)) (regv.sl_ne (by decide))⟩
 ·refine regv.StepOK.plain rfl fun L a w1 hh => ?_
  have h4 : a.tmps[4]?.getD undef = .pointer (some ⟨w.heap.size + 1, 0, none⟩) := hh.kp 4 rfl rfl
  obtain ⟨⟨c0, c1, c2, c3⟩, -, -⟩ := hh.st.1.1.2.1.c4
  have hJ := Lib.hid hh.st
  clear hh
  go_simp
  exact ⟨_, rfl, Below.refl _ _, rfl, JC.slots hJ.out (regv.sl_ne (by decide)) (regv.sl_ne (by decide)) (regv.sl_ne (by decide)) (regv.sl_ne (by decide))⟩
 ·refine regv.StepOK.plain rfl fun L a w1 hh => ?_
  have h5 : a.tmps[5]?.getD undef = .pointer (some ⟨w.heap.size + 2, 0, none⟩) := hh.kp 5 rfl rfl
  obtain ⟨⟨c0, c1, c2, c3⟩, -, -⟩ := hh.st.1.1.2.2.1.c4
  have hJ := Lib.hid hh.st
  clear hh
  go_simp
  exact ⟨_, rfl, Below.refl _ _, rfl, JC.slots hJ.out (regv.sl_ne (by decide)) (regv.sl_ne (by decide)) (regv.sl_ne (by decide)) (regv.sl_ne (by decide))⟩
 ·refine regv.StepOK.plain rfl fun L a w1 hh => ?_
  have h36 := hh.v 1 36 rfl (by kernel_rfl) (by kernel_rfl)
  have h37 := hh.v 2 37 rfl (by kernel_rfl) (by kernel_rfl)
  have hJ := Lib.hid hh.st
  have hsz := Lib.hid hh.size
  clear hh
  go_simp
  exact ⟨_, rfl, (Below.refl _ _).alloc hJ.out.1.2.1 _, trivial, JC.slots (JC.row38 (hJ.out.below ((Below.refl _ _).alloc (Nat.le_refl _) _)) ⟨_, _, rfl, brow_new w1 [(⟨sa, sb, sc, sd⟩ : Bx), (⟨ta, tb, tc, td⟩ : Bx)] rfl, Nat.le_refl _, by simp [maxLen]⟩) (regv.sl_ne (by decide)) (regv.sl_ne (by decide)) (regv.sl_same (by rw [hsz.out]; simp)) (regv.sl_ne (by decide))⟩
 ·refine regv.StepOK.plain rfl fun L a w1 hh => ?_
  have h35 := hh.v 0 35 rfl (by kernel_rfl) (by kernel_rfl)
  obtain ⟨A, cc_, h0, hrow, hc, hm⟩ := hh.st.2.2.2.2.1 (hh.up 3 (by kernel_rfl)) hh.un
  have h38 : a.tmps[38]?.getD undef = .slice A 2 cc_ := by rw [← Array.getD_eq_getD_getElem?]; exact h0
  have hJ := Lib.hid hh.st
  clear hh h0
  go_simp
  refine (bx_cut (⟨ra, rb, rc, rd⟩ : Bx) A [(⟨sa, sb, sc, sd⟩ : Bx), (⟨ta, tb, tc, td⟩ : Bx)] cc_ w1 hrow (by simp)).mono ?_
  rintro e w9 ⟨rfl, hb9⟩
  exact ⟨_, rfl, hb9.mono hJ.out.1.2.1, congrArg Bx.v HC.out, JC.slots (JC.done4 (hJ.out.below hb9)) (regv.sl_ne (by decide)) (regv.sl_ne (by decide)) (regv.sl_ne (by decide)) (regv.sl_ne (by decide))⟩
 ·refine regv.StepOK.plain rfl fun L a w1 hh => ?_
  have h3 : a.tmps[3]?.getD undef = .pointer (some ⟨w.heap.size, 0, none⟩) := hh.kp 3 rfl rfl
  obtain ⟨⟨c0, c1, c2, c3⟩, -, -⟩ := hh.st.1.1.1.c4
  have hJ := Lib.hid hh.st
  clear hh
  go_simp
  exact ⟨_, rfl, Below.refl _ _, rfl, JC.slots hJ.out (regv.sl_ne (by decide)) (regv.sl_ne (by decide)) (regv.sl_ne (by decide)) (regv.sl_ne (by decide))⟩
 ·refine regv.StepOK.plain rfl fun L a w1 hh => ?_
  have h4 : a.tmps[4]?.getD undef = .pointer (some ⟨w.heap.size + 1, 0, none⟩) := hh.kp 4 rfl rfl
  obtain ⟨⟨c0, c1, c2, c3⟩, -, -⟩ := hh.st.1.1.2.1.c4
  have hJ := Lib.hid hh.st
  clear hh
  go_simp
  exact ⟨_, rfl, Below.refl _ _, rfl, JC.slots hJ.out (regv.sl_ne (by decide)) (regv.sl_ne (by decide)) (regv.sl_ne (by decide)) (regv.sl_ne (by decide))⟩
 ·refine regv.StepOK.plain rfl fun L a w1 hh => ?_
  have h5 : a.tmps[5]?.getD undef = .pointer (some ⟨w.heap.size + 2, 0, none⟩) := hh.kp 5 rfl rfl
  obtain ⟨⟨c0, c1, c2, c3⟩, -, -⟩ := hh.st.1.1.2.2.1.c4
  have hJ := Lib.hid hh.st
  clear hh
  go_simp
  exact ⟨_, rfl, Below.refl _ _, rfl, JC.slots hJ.out (regv.sl_ne (by decide)) (regv.sl_ne (by decide)) (regv.sl_ne (by decide)) (regv.sl_ne (by decide))⟩
 ·refine regv.StepOK.plain rfl fun L a w1 hh => ?_
  have h41 := hh.v 6 41 rfl (by kernel_rfl) (by kernel_rfl)
  have h42 := hh.v 7 42 rfl (by kernel_rfl) (by kernel_rfl)
  have hJ := Lib.hid hh.st
  have hsz := Lib.hid hh.size
  clear hh
  go_simp
  exact ⟨_, rfl, (Below.refl _ _).alloc hJ.out.1.2.1 _, trivial, JC.slots (JC.row43 (hJ.out.below ((Below.refl _ _).alloc (Nat.le_refl _) _)) ⟨_, _, rfl, brow_new w1 [(⟨sa, sb, sc, sd⟩ : Bx), (⟨ta, tb, tc, td⟩ : Bx)] rfl, Nat.le_refl _, by simp [maxLen]⟩) (regv.sl_ne (by decide)) (regv.sl_ne (by decide)) (regv.sl_ne (by decide)) (regv.sl_same (by rw [hsz.out]; simp))⟩
 ·refine regv.StepOK.plain rfl fun L a w1 hh => ?_
  have h40 := hh.v 5 40 rfl (by kernel_rfl) (by kernel_rfl)
  obtain ⟨A, cc_, h0, hrow, hc, hm⟩ := hh.st.2.2.2.2.2.1 (hh.up 8 (by kernel_rfl)) hh.un
  have h43 : a.tmps[43]?.getD undef = .slice A 2 cc_ := by rw [← Array.getD_eq_getD_getElem?]; exact h0
  have hJ := Lib.hid hh.st
  clear hh h0
  go_simp
  refine (bx_join (⟨ra, rb, rc, rd⟩ : Bx) A [(⟨sa, sb, sc, sd⟩ : Bx), (⟨ta, tb, tc, td⟩ : Bx)] cc_ w1 hrow (by simp)).mono ?_
  rintro e w9 ⟨rfl, hb9⟩
  exact ⟨_, rfl, hb9.mono hJ.out.1.2.1, congrArg Bx.v HJ.out, JC.slots (JC.done9 (hJ.out.below hb9)) (regv.sl_ne (by decide)) (regv.sl_ne (by decide)) (regv.sl_ne (by decide)) (regv.sl_ne (by decide))⟩
 ·refine regv.StepOK.plain rfl fun L a w1 hh => ?_
  have hJ := Lib.hid hh.st
  have hsz := Lib.hid hh.size
  have hun := Lib.hid hh.un
  clear hh
  go_simp
  exact ⟨_, rfl, (Below.refl _ _).alloc hJ.out.1.2.1 _, trivial, JC.slots (JC.new7 hJ.out hun.out) (regv.sl_same (by rw [hsz.out]; simp)) (regv.sl_ne (by decide)) (regv.sl_ne (by decide)) (regv.sl_ne (by decide))⟩
 ·refine regv.StepOK.plain rfl fun L a w1 hh => ?_
  have hJ := Lib.hid hh.st
  have hsz := Lib.hid hh.size
  have hun := Lib.hid hh.un
  clear hh
  go_simp
  exact ⟨_, rfl, (Below.refl _ _).alloc hJ.out.1.2.1 _, trivial, JC.slots (JC.new8 hJ.out hun.out) (regv.sl_ne (by decide)) (regv.sl_same (by rw [hsz.out]; simp)) (regv.sl_ne (by decide)) (regv.sl_ne (by decide))⟩
 ·refine regv.StepOK.plain rfl fun L a w1 hh => ?_
  have h39 := hh.v 4 39 rfl (by kernel_rfl) (by kernel_rfl)
  obtain ⟨g, h0, hg, hB⟩ := hh.st.2.1 (hh.up 10 (by kernel_rfl))
  have h7 : a.tmps[7]?.getD undef = .pointer (some ⟨g, 0, none⟩) := by rw [← Array.getD_eq_getD_getElem?]; exact h0
  rw [hh.un] at hB
  obtain ⟨⟨c0, c1, c2, c3⟩, ⟨f0, f1, f2, f3⟩, -⟩ := (show Blk w1 g [.int .i64 0, .int .i64 0, .int .i64 0, .int .i64 0] from hB).c4
  have hJ := Lib.hid hh.st
  have hU := Lib.hid (And.intro (hh.up 4 (by kernel_rfl)) (And.intro (hh.up 9 (by kernel_rfl)) (And.intro (hh.up 10 (by kernel_rfl)) hh.un)))
  have H0 := Lib.hid h0
  clear hh h0 hB
  go_simp
  exact ⟨below4 (Below.refl _ _) hg _ _ _ _, ⟨undef, trivial⟩, JC.put7 hJ.out hU.out.1 hU.out.2.1 hU.out.2.2.1 hU.out.2.2.2 H0.out⟩
 ·refine regv.StepOK.plain rfl fun L a w1 hh => ?_
  have h44 := hh.v 9 44 rfl (by kernel_rfl) (by kernel_rfl)
  obtain ⟨g, h0, hg, hB⟩ := hh.st.2.2.1 (hh.up 11 (by kernel_rfl))
  have h8 : a.tmps[8]?.getD undef = .pointer (some ⟨g, 0, none⟩) := by rw [← Array.getD_eq_getD_getElem?]; exact h0
  rw [hh.un] at hB
  obtain ⟨⟨c0, c1, c2, c3⟩, ⟨f0, f1, f2, f3⟩, -⟩ := (show Blk w1 g [.int .i64 0, .int .i64 0, .int .i64 0, .int .i64 0] from hB).c4
  have hJ := Lib.hid hh.st
  have hU := Lib.hid (And.intro (hh.up 4 (by kernel_rfl)) (And.intro (hh.up 9 (by kernel_rfl)) (And.intro (hh.up 11 (by kernel_rfl)) hh.un)))
  have H0 := Lib.hid h0
  clear hh h0 hB
  go_simp
  exact ⟨below4 (Below.refl _ _) hg _ _ _ _, ⟨undef, trivial⟩, JC.put8 hJ.out hU.out.1 hU.out.2.1 hU.out.2.2.1 hU.out.2.2.2 H0.out⟩
 intro L w4 val hL hJ hR hv
 obtain ⟨g7, e7, hg7, hB7⟩ := hJ.2.1 (hL 10 (by decide))
 obtain ⟨g8, e8, hg8, hB8⟩ := hJ.2.2.1 (hL 11 (by decide))
 rw [hL 12 (by decide)] at hB7
 rw [hL 13 (by decide)] at hB8
 have HA : Hid (CutsAt w ⟨ra, rb, rc, rd⟩ ⟨sa, sb, sc, sd⟩ ⟨ta, tb, tc, td⟩ ⟨ca, cb, cc, cd⟩ ⟨ja, jb, jc, jd⟩ g7 g8 w4) := ⟨⟨hJ.1.1.1, hJ.1.1.2.1, hJ.1.1.2.2.1, hB7, hB8, trivial⟩, B3.out.1.trans (hR.mono B3.out.1.size), Nat.le_trans B3.out.2 hR.size⟩
 clear hv hL hJ hR hg7 hg8 hB7 hB8
 simp only [regs.putAll, List.map_cons, List.map_nil]
 rw [e7, e8]
 clear e7 e8 K3 B3 HR HS HT
 obtain ⟨⟨a0, a1, a2, a3⟩, -, i0⟩ := (show Blk w4 w.heap.size [.int .i64 ra, .int .i64 rb, .int .i64 rc, .int .i64 rd] from HA.out.1.1).c4
 obtain ⟨⟨b0, b1, b2, b3⟩, -, i1⟩ := (show Blk w4 (w.heap.size + 1) [.int .i64 sa, .int .i64 sb, .int .i64 sc, .int .i64 sd] from HA.out.1.2.1).c4
 obtain ⟨⟨c0, c1, c2, c3⟩, -, i2⟩ := (show Blk w4 (w.heap.size + 2) [.int .i64 ta, .int .i64 tb, .int .i64 tc, .int .i64 td] from HA.out.1.2.2.1).c4
 obtain ⟨⟨d0, d1, d2, d3⟩, -, i3⟩ := (show Blk w4 g7 [.int .i64 ca, .int .i64 cb, .int .i64 cc, .int .i64 cd] from HA.out.1.2.2.2.1).c4
 obtain ⟨⟨e0, e1, e2, e3⟩, -, i4⟩ := (show Blk w4 g8 [.int .i64 ja, .int .i64 jb, .int .i64 jc, .int .i64 jd] from HA.out.1.2.2.2.2.1).c4
 go_wp2_with (fail)
 refine (edges_any _ [⟨ra, rb, rc, rd⟩, ⟨sa, sb, sc, sd⟩, ⟨ta, tb, tc, td⟩, ⟨ca, cb, cc, cd⟩, ⟨ja, jb, jc, jd⟩] 5 _ (brow_new w4 [⟨ra, rb, rc, rd⟩, ⟨sa, sb, sc, sd⟩, ⟨ta, tb, tc, td⟩, ⟨ca, cb, cc, cd⟩, ⟨ja, jb, jc, jd⟩] rfl) (by simp)).mono ?_
 rintro e w5 ⟨v9, v10, lx, ly, rfl, ⟨hl9, hl10⟩, ho9, ho10, hb⟩
 obtain ⟨A9, c9, rfl, h9a, h9b, h9⟩ := ho9.irow
 obtain ⟨A10, c10, rfl, h10a, h10b, h10⟩ := ho10.irow
 have HX : Hid (CutsJ w ⟨ra, rb, rc, rd⟩ ⟨sa, sb, sc, sd⟩ ⟨ta, tb, tc, td⟩ ⟨ca, cb, cc, cd⟩ ⟨ja, jb, jc, jd⟩ g7 g8 A9 A10 lx ly w5) := ⟨(HA.out.below ((Below.refl _ _).alloc (Nat.le_refl _) _)).below hb, h9, h10⟩
 have HL : Hid (lx.length ≤ 4000 ∧ ly.length ≤ 4000) := ⟨hl9, hl10⟩
 clear hl9 hl10
 clear hb ho9 ho10 h9 h10 h9a h9b h10a h10b a0 a1 a2 a3 b0 b1 b2 b3 c0 c1 c2 c3 d0 d1 d2 d3 e0 e1 e2 e3 i0 i1 i2 i3 i4 HA
 go_wp2_with (fail)
 go_loopw [57] (fun i wr => ∃ (k : Nat), k ≤ lx.length ∧ i = .int .i64 k ∧ Hid (CutsJ w ⟨ra, rb, rc, rd⟩ ⟨sa, sb, sc, sd⟩ ⟨ta, tb, tc, td⟩ ⟨ca, cb, cc, cd⟩ ⟨ja, jb, jc, jd⟩ g7 g8 A9 A10 lx ly wr)) (fun i _ => lx.length - (intOf i).toNat)
 case atStart => exact ⟨0, Nat.zero_le _, rfl, HX⟩
 case round =>
  obtain ⟨k, hk, rfl, HX⟩ := hrel
  by_cases hlt : k < lx.length
  ·obtain ⟨g, off, rA, q0⟩ := HX.out.2.1.at_ hlt
   unfold eI at q0
   subst rA
   have hkb : (k : Int) ≤ 4000 := by have := HL.out.1; omega
   generalize lx[k] = x at *
   go_wp2_with (fail)
   go_loopw [63] (fun i wr => ∃ (m : Nat), m ≤ ly.length ∧ i = .int .i64 m ∧ Hid (CutsJ w ⟨ra, rb, rc, rd⟩ ⟨sa, sb, sc, sd⟩ ⟨ta, tb, tc, td⟩ ⟨ca, cb, cc, cd⟩ ⟨ja, jb, jc, jd⟩ g7 g8 (some ⟨g, off, none⟩) A10 lx ly wr)) (fun i _ => ly.length - (intOf i).toNat)
   case atStart => exact ⟨0, Nat.zero_le _, rfl, HX⟩
   case round =>
    clear HX q0
    obtain ⟨m, hm, rfl, HX⟩ := hrel
    by_cases hlt2 : m < ly.length
    ·obtain ⟨g2, off2, rA, q0⟩ := HX.out.2.2.at_ hlt2
     unfold eI at q0
     subst rA
     have hmb : (m : Int) ≤ 4000 := by have := HL.out.2; omega
     generalize ly[m] = y at *
     obtain ⟨ya, hya⟩ : ∃ b, Bx.has ⟨ra, rb, rc, rd⟩ x y = b := ⟨_, rfl⟩
     obtain ⟨yb, hyb⟩ : ∃ b, Bx.has ⟨sa, sb, sc, sd⟩ x y = b := ⟨_, rfl⟩
     obtain ⟨yd, hyd⟩ : ∃ b, Bx.has ⟨ta, tb, tc, td⟩ x y = b := ⟨_, rfl⟩
     have hch := cuts_has ⟨ra, rb, rc, rd⟩ ⟨sa, sb, sc, sd⟩ ⟨ta, tb, tc, td⟩ x y
     rw [HC.out, HJ.out, hya, hyb, hyd] at hch
     have HCH := Lib.hid hch.1
     have HJH := Lib.hid hch.2
     have HYA := Lib.hid hya
     have HYB := Lib.hid hyb
     have HYD := Lib.hid hyd
     clear hch hya hyb hyd
     go_wp2_with (fail)
     refine regs.wp_region_put (regs.bl) (fun _ wx => CutsJ w (⟨ra, rb, rc, rd⟩ : Bx) (⟨sa, sb, sc, sd⟩ : Bx) (⟨ta, tb, tc, td⟩ : Bx) (⟨ca, cb, cc, cd⟩ : Bx) (⟨ja, jb, jc, jd⟩ : Bx) g7 g8 (some ⟨g, off, none⟩) (some ⟨g2, off2, none⟩) lx ly wx) [67, 68, 69, 70, 71, 72, 73, 74, 75, 76, 77, 78, 15, 16, 17] (by kernel_rfl) (by kernel_rfl) (fun _ => regs.bl_refl _) (regs.bl_trans) (fun i => (match i with
      | 0 => regs.Say.val _ (.agg #[.int .i64 ra, .int .i64 rb, .int .i64 rc, .int .i64 rd])
      | 1 => regs.Say.val _ (.int .i64 x)
      | 2 => regs.Say.val _ (.int .i64 y)
      | 3 => regs.Say.val _ (.bool ya)
      | 4 => regs.Say.val _ (.agg #[.int .i64 sa, .int .i64 sb, .int .i64 sc, .int .i64 sd])
      | 5 => regs.Say.val _ (.int .i64 x)
      | 6 => regs.Say.val _ (.int .i64 y)
      | 7 => regs.Say.val _ (.bool yb)
      | 8 => regs.Say.val _ (.agg #[.int .i64 ta, .int .i64 tb, .int .i64 tc, .int .i64 td])
      | 9 => regs.Say.val _ (.int .i64 x)
      | 10 => regs.Say.val _ (.int .i64 y)
      | 11 => regs.Say.val _ (.bool yd)
      | 12 => regs.Say.val _ (.bool ya)
      | 13 => regs.Say.val _ (.bool yb)
      | 14 => regs.Say.val _ (.bool yd)
      | _ => regs.Say.any _ : regs.Say (regs.bl)).p) (fun _ => regs.Say.mono _) (by kernel_rfl) ((Below.refl _ _).drew) (HX.out.below ((Below.refl _ _).drew)) ⟨?_, ?_, ?_, ?_, ?_, ?_, ?_, ?_, ?_, ?_, ?_, ?_, ?_, ?_, ?_, trivial⟩ ?_
     ·refine regs.StepOK.plain rfl fun L a w1 hh => ?_
      have h3 : a.tmps[3]?.getD undef = .pointer (some ⟨w.heap.size, 0, none⟩) := hh.kp 3 rfl rfl
      obtain ⟨⟨c0, c1, c2, c3⟩, -, -⟩ := (hh.st.1.1.1).c4
      have hJ := Lib.hid hh.st
      clear hh
      go_simp
      exact ⟨_, rfl, regs.bl_refl _, rfl, hJ.out⟩
     ·refine regs.StepOK.plain rfl fun L a w1 hh => ?_
      have h12 : a.tmps[12]?.getD undef = .int .i64 x := hh.kp 12 rfl rfl
      have hJ := Lib.hid hh.st
      clear hh
      go_simp
      exact ⟨_, rfl, regs.bl_refl _, rfl, hJ.out⟩
     ·refine regs.StepOK.plain rfl fun L a w1 hh => ?_
      have h14 : a.tmps[14]?.getD undef = .int .i64 y := hh.kp 14 rfl rfl
      have hJ := Lib.hid hh.st
      clear hh
      go_simp
      exact ⟨_, rfl, regs.bl_refl _, rfl, hJ.out⟩
     ·refine regs.StepOK.plain rfl fun L a w1 hh => ?_
      have h67 := hh.v 0 67 rfl (by kernel_rfl) (by kernel_rfl)
      have h68 := hh.v 1 68 rfl (by kernel_rfl) (by kernel_rfl)
      have h69 := hh.v 2 69 rfl (by kernel_rfl) (by kernel_rfl)
      have := True.intro
      have hJ := Lib.hid hh.st
      clear hh
      go_simp
      refine (has_any (⟨ra, rb, rc, rd⟩ : Bx) x y w1).mono ?_
      rintro e w9 ⟨rfl, hb9⟩
      exact ⟨_, rfl, hb9, congrArg Value.bool HYA.out, CutsJ.below hJ.out hb9⟩
     ·refine regs.StepOK.plain rfl fun L a w1 hh => ?_
      have h4 : a.tmps[4]?.getD undef = .pointer (some ⟨(w.heap.size + 1), 0, none⟩) := hh.kp 4 rfl rfl
      obtain ⟨⟨c0, c1, c2, c3⟩, -, -⟩ := (hh.st.1.1.2.1).c4
      have hJ := Lib.hid hh.st
      clear hh
      go_simp
      exact ⟨_, rfl, regs.bl_refl _, rfl, hJ.out⟩
     ·refine regs.StepOK.plain rfl fun L a w1 hh => ?_
      have h12 : a.tmps[12]?.getD undef = .int .i64 x := hh.kp 12 rfl rfl
      have hJ := Lib.hid hh.st
      clear hh
      go_simp
      exact ⟨_, rfl, regs.bl_refl _, rfl, hJ.out⟩
     ·refine regs.StepOK.plain rfl fun L a w1 hh => ?_
      have h14 : a.tmps[14]?.getD undef = .int .i64 y := hh.kp 14 rfl rfl
      have hJ := Lib.hid hh.st
      clear hh
      go_simp
      exact ⟨_, rfl, regs.bl_refl _, rfl, hJ.out⟩
     ·refine regs.StepOK.plain rfl fun L a w1 hh => ?_
      have h71 := hh.v 4 71 rfl (by kernel_rfl) (by kernel_rfl)
      have h72 := hh.v 5 72 rfl (by kernel_rfl) (by kernel_rfl)
      have h73 := hh.v 6 73 rfl (by kernel_rfl) (by kernel_rfl)
      have := True.intro
      have hJ := Lib.hid hh.st
      clear hh
      go_simp
      refine (has_any (⟨sa, sb, sc, sd⟩ : Bx) x y w1).mono ?_
      rintro e w9 ⟨rfl, hb9⟩
      exact ⟨_, rfl, hb9, congrArg Value.bool HYB.out, CutsJ.below hJ.out hb9⟩
     ·refine regs.StepOK.plain rfl fun L a w1 hh => ?_
      have h5 : a.tmps[5]?.getD undef = .pointer (some ⟨(w.heap.size + 2), 0, none⟩) := hh.kp 5 rfl rfl
      obtain ⟨⟨c0, c1, c2, c3⟩, -, -⟩ := (hh.st.1.1.2.2.1).c4
      have hJ := Lib.hid hh.st
      clear hh
      go_simp
      exact ⟨_, rfl, regs.bl_refl _, rfl, hJ.out⟩
     ·refine regs.StepOK.plain rfl fun L a w1 hh => ?_
      have h12 : a.tmps[12]?.getD undef = .int .i64 x := hh.kp 12 rfl rfl
      have hJ := Lib.hid hh.st
      clear hh
      go_simp
      exact ⟨_, rfl, regs.bl_refl _, rfl, hJ.out⟩
     ·refine regs.StepOK.plain rfl fun L a w1 hh => ?_
      have h14 : a.tmps[14]?.getD undef = .int .i64 y := hh.kp 14 rfl rfl
      have hJ := Lib.hid hh.st
      clear hh
      go_simp
      exact ⟨_, rfl, regs.bl_refl _, rfl, hJ.out⟩
     ·refine regs.StepOK.plain rfl fun L a w1 hh => ?_
      have h75 := hh.v 8 75 rfl (by kernel_rfl) (by kernel_rfl)
      have h76 := hh.v 9 76 rfl (by kernel_rfl) (by kernel_rfl)
      have h77 := hh.v 10 77 rfl (by kernel_rfl) (by kernel_rfl)
      have := True.intro
      have hJ := Lib.hid hh.st
      clear hh
      go_simp
      refine (has_any (⟨ta, tb, tc, td⟩ : Bx) x y w1).mono ?_
      rintro e w9 ⟨rfl, hb9⟩
      exact ⟨_, rfl, hb9, congrArg Value.bool HYD.out, CutsJ.below hJ.out hb9⟩
     ·refine regs.StepOK.plain rfl fun L a w1 hh => ?_
      have h70 := hh.v 3 70 rfl (by kernel_rfl) (by kernel_rfl)
      have hJ := Lib.hid hh.st
      clear hh
      go_simp
      exact ⟨_, rfl, regs.bl_refl _, rfl, hJ.out⟩
     ·refine regs.StepOK.plain rfl fun L a w1 hh => ?_
      have h74 := hh.v 7 74 rfl (by kernel_rfl) (by kernel_rfl)
      have hJ := Lib.hid hh.st
      clear hh
      go_simp
      exact ⟨_, rfl, regs.bl_refl _, rfl, hJ.out⟩
     ·refine regs.StepOK.plain rfl fun L a w1 hh => ?_
      have h78 := hh.v 11 78 rfl (by kernel_rfl) (by kernel_rfl)
      have hJ := Lib.hid hh.st
      clear hh
      go_simp
      exact ⟨_, rfl, regs.bl_refl _, rfl, hJ.out⟩
     intro L w7 val hL hJ hR hv
     have h15 : val 15 = .bool ya := hv 12 15 (by kernel_rfl)
     have h16 : val 16 = .bool yb := hv 13 16 (by kernel_rfl)
     have h17 : val 17 = .bool yd := hv 14 17 (by kernel_rfl)
     have HJ7 := Lib.hid hJ
     have HR7 := Lib.hid hR
     clear hv hL hJ hR
     simp only [regs.putAll, List.map_cons, List.map_nil]
     rw [h15, h16, h17]
     generalize val 67 = v67
     generalize val 68 = v68
     generalize val 69 = v69
     generalize val 70 = v70
     generalize val 71 = v71
     generalize val 72 = v72
     generalize val 73 = v73
     generalize val 74 = v74
     generalize val 75 = v75
     generalize val 76 = v76
     generalize val 77 = v77
     generalize val 78 = v78
     simp only [Act.put, List.setIfInBounds_toArray, List.set_cons_zero, List.set_cons_succ]
     clear h15 h16 h17
     clear HX q0
     cases ya
     ·cases yb
      ·cases yd
       ·go_upto_region 12 with fail
        refine regs.wp_region_seq (regs.bl) (fun _ wx => CutsJ w (⟨ra, rb, rc, rd⟩ : Bx) (⟨sa, sb, sc, sd⟩ : Bx) (⟨ta, tb, tc, td⟩ : Bx) (⟨ca, cb, cc, cd⟩ : Bx) (⟨ja, jb, jc, jd⟩ : Bx) g7 g8 (some ⟨g, off, none⟩) (some ⟨g2, off2, none⟩) lx ly wx) [79, 80, 81, 82, 83, 84, 85, 86, 87, 88, 89, 90, 91, 92, 93, 94, 95, 96, 97, 98, 99, 100, 101, 102, 103, 104, 105, 106, 107, 108, 109, 110, 111, 112, 113, 114] (by kernel_rfl) (fun _ => regs.bl_refl _) (regs.bl_trans) (fun i => (match i with
         | 0 => regs.Say.val _ (.agg #[.int .i64 ra, .int .i64 rb, .int .i64 rc, .int .i64 rd])
         | 1 => regs.Say.val _ (.int .i64 x)
         | 2 => regs.Say.val _ (.int .i64 y)
         | 3 => regs.Say.val _ (.bool false)
         | 4 => regs.Say.val _ (.bool false)
         | 5 => regs.Say.val _ (.bool false)
         | 6 => regs.Say.val _ (.bool false)
         | 7 => regs.Say.val _ (.agg #[.int .i64 ca, .int .i64 cb, .int .i64 cc, .int .i64 cd])
         | 8 => regs.Say.val _ (.int .i64 x)
         | 9 => regs.Say.val _ (.int .i64 y)
         | 10 => regs.Say.val _ (.bool false)
         | 11 => regs.Say.val _ (.bool false)
         | 12 => regs.Say.val _ (.bool false)
         | 13 => regs.Say.val _ (undef)
         | 14 => regs.Say.val _ (.bool false)
         | 15 => regs.Say.val _ (.bool false)
         | 16 => regs.Say.val _ (undef)
         | 17 => regs.Say.val _ (.bool false)
         | 18 => regs.Say.val _ (.bool false)
         | 19 => regs.Say.val _ (.bool false)
         | 20 => regs.Say.val _ (.bool false)
         | 21 => regs.Say.val _ (.bool false)
         | 22 => regs.Say.val _ (.bool false)
         | 23 => regs.Say.val _ (.bool false)
         | 24 => regs.Say.val _ (.bool false)
         | 25 => regs.Say.val _ (.bool false)
         | 26 => regs.Say.val _ (.bool false)
         | 27 => regs.Say.val _ (.bool false)
         | 28 => regs.Say.val _ (.bool false)
         | 29 => regs.Say.val _ (undef)
         | 30 => regs.Say.val _ (undef)
         | 31 => regs.Say.val _ (undef)
         | 32 => regs.Say.val _ (undef)
         | 33 => regs.Say.val _ (undef)
         | 34 => regs.Say.val _ (.bool false)
         | 35 => regs.Say.val _ (.bool false)
         | _ => regs.Say.any _ : regs.Say (regs.bl)).p) (fun _ => regs.Say.mono _) (by kernel_rfl) (HJ7.out) ⟨?_, ?_, ?_, ?_, ?_, ?_, ?_, ?_, ?_, ?_, ?_, ?_, ?_, ?_, ?_, ?_, ?_, ?_, ?_, ?_, ?_, ?_, ?_, ?_, ?_, ?_, ?_, ?_, ?_, ?_, ?_, ?_, ?_, ?_, ?_, ?_, trivial⟩ ?_
        ·refine regs.StepOK.plain rfl fun L a w1 hh => ?_
         have h3 : a.tmps[3]?.getD undef = .pointer (some ⟨w.heap.size, 0, none⟩) := hh.kp 3 rfl rfl
         obtain ⟨⟨c0, c1, c2, c3⟩, -, -⟩ := (hh.st.1.1.1).c4
         have hJ := Lib.hid hh.st
         clear hh
         go_simp
         exact ⟨_, rfl, regs.bl_refl _, rfl, hJ.out⟩
        ·refine regs.StepOK.plain rfl fun L a w1 hh => ?_
         have h12 : a.tmps[12]?.getD undef = .int .i64 x := hh.kp 12 rfl rfl
         have hJ := Lib.hid hh.st
         clear hh
         go_simp
         exact ⟨_, rfl, regs.bl_refl _, rfl, hJ.out⟩
        ·refine regs.StepOK.plain rfl fun L a w1 hh => ?_
         have h14 : a.tmps[14]?.getD undef = .int .i64 y := hh.kp 14 rfl rfl
         have hJ := Lib.hid hh.st
         clear hh
         go_simp
         exact ⟨_, rfl, regs.bl_refl _, rfl, hJ.out⟩
        ·refine regs.StepOK.plain rfl fun L a w1 hh => ?_
         have h79 := hh.v 0 79 rfl (by kernel_rfl) (by kernel_rfl)
         have h80 := hh.v 1 80 rfl (by kernel_rfl) (by kernel_rfl)
         have h81 := hh.v 2 81 rfl (by kernel_rfl) (by kernel_rfl)
         have := True.intro
         have hJ := Lib.hid hh.st
         clear hh
         go_simp
         refine (bx_has (⟨ra, rb, rc, rd⟩ : Bx) x y w1).mono ?_
         rintro e w9 ⟨rfl, hb9⟩
         exact ⟨_, rfl, hb9, congrArg Value.bool HYA.out, CutsJ.below hJ.out hb9⟩
        ·refine regs.StepOK.plain rfl fun L a w1 hh => ?_
         have h15 : a.tmps[15]?.getD undef = .bool false := hh.kp 15 rfl rfl
         have hJ := Lib.hid hh.st
         clear hh
         go_simp
         exact ⟨_, rfl, regs.bl_refl _, rfl, hJ.out⟩
        ·refine regs.StepOK.plain rfl fun L a w1 hh => ?_
         have h82 := hh.v 3 82 rfl (by kernel_rfl) (by kernel_rfl)
         have h83 := hh.v 4 83 rfl (by kernel_rfl) (by kernel_rfl)
         have hJ := Lib.hid hh.st
         clear hh
         go_simp
         exact ⟨_, rfl, regs.bl_refl _, rfl, hJ.out⟩
        ·refine regs.StepOK.plain rfl fun L a w1 hh => ?_
         have h84 := hh.v 5 84 rfl (by kernel_rfl) (by kernel_rfl)
         have hJ := Lib.hid hh.st
         clear hh
         go_simp
         exact ⟨_, rfl, regs.bl_refl _, rfl, hJ.out⟩
        ·refine regs.StepOK.yes 6 false 85 rfl rfl (fun L a w1 hh => hh.dep 6 85 (by kernel_rfl) (by kernel_rfl)) fun L a w1 hh => ?_
         have h7 : a.tmps[7]?.getD undef = .pointer (some ⟨g7, 0, none⟩) := hh.kp 7 rfl rfl
         obtain ⟨⟨c0, c1, c2, c3⟩, -, -⟩ := (hh.st.1.1.2.2.2.1).c4
         have hJ := Lib.hid hh.st
         clear hh
         go_simp
         exact ⟨_, rfl, regs.bl_refl _, rfl, hJ.out⟩
        ·refine regs.StepOK.yes 6 false 85 rfl rfl (fun L a w1 hh => hh.dep 6 85 (by kernel_rfl) (by kernel_rfl)) fun L a w1 hh => ?_
         have h12 : a.tmps[12]?.getD undef = .int .i64 x := hh.kp 12 rfl rfl
         have hJ := Lib.hid hh.st
         clear hh
         go_simp
         exact ⟨_, rfl, regs.bl_refl _, rfl, hJ.out⟩
        ·refine regs.StepOK.yes 6 false 85 rfl rfl (fun L a w1 hh => hh.dep 6 85 (by kernel_rfl) (by kernel_rfl)) fun L a w1 hh => ?_
         have h14 : a.tmps[14]?.getD undef = .int .i64 y := hh.kp 14 rfl rfl
         have hJ := Lib.hid hh.st
         clear hh
         go_simp
         exact ⟨_, rfl, regs.bl_refl _, rfl, hJ.out⟩
        ·refine regs.StepOK.yes 6 false 85 rfl rfl (fun L a w1 hh => hh.dep 6 85 (by kernel_rfl) (by kernel_rfl)) fun L a w1 hh => ?_
         have h86 := hh.v 7 86 rfl (by kernel_rfl) (by kernel_rfl)
         have h87 := hh.v 8 87 rfl (by kernel_rfl) (by kernel_rfl)
         have h88 := hh.v 9 88 rfl (by kernel_rfl) (by kernel_rfl)
         have := True.intro
         have hJ := Lib.hid hh.st
         clear hh
         go_simp
         refine (bx_has (⟨ca, cb, cc, cd⟩ : Bx) x y w1).mono ?_
         rintro e w9 ⟨rfl, hb9⟩
         exact ⟨_, rfl, hb9, congrArg Value.bool HCH.out, CutsJ.below hJ.out hb9⟩
        ·refine regs.StepOK.yes 6 false 85 rfl rfl (fun L a w1 hh => hh.dep 6 85 (by kernel_rfl) (by kernel_rfl)) fun L a w1 hh => ?_
         have h15 : a.tmps[15]?.getD undef = .bool false := hh.kp 15 rfl rfl
         have hJ := Lib.hid hh.st
         clear hh
         go_simp
         exact ⟨_, rfl, regs.bl_refl _, rfl, hJ.out⟩
        ·refine regs.StepOK.yes 6 false 85 rfl rfl (fun L a w1 hh => hh.dep 6 85 (by kernel_rfl) (by kernel_rfl)) fun L a w1 hh => ?_
         have h90 := hh.v 11 90 rfl (by kernel_rfl) (by kernel_rfl)
         have hJ := Lib.hid hh.st
         clear hh
         go_simp
         exact ⟨_, rfl, regs.bl_refl _, rfl, hJ.out⟩
        ·refine regs.StepOK.no 12 true 91 rfl rfl (fun L a w1 hh => ?_) fun L a w1 hh => ⟨rfl, hh.st⟩
         exact hh.dep 12 91 (by kernel_rfl) (by kernel_rfl)
        ·refine regs.StepOK.yes 6 false 85 rfl rfl (fun L a w1 hh => hh.dep 6 85 (by kernel_rfl) (by kernel_rfl)) fun L a w1 hh => ?_
         have h91 := hh.v 12 91 rfl (by kernel_rfl) (by kernel_rfl)
         have hJ := Lib.hid hh.st
         clear hh
         go_simp
         exact ⟨_, rfl, regs.bl_refl _, rfl, hJ.out⟩
        ·refine regs.StepOK.yes 6 false 85 rfl rfl (fun L a w1 hh => hh.dep 6 85 (by kernel_rfl) (by kernel_rfl)) fun L a w1 hh => ?_
         have h93 := hh.v 14 93 rfl (by kernel_rfl) (by kernel_rfl)
         have hJ := Lib.hid hh.st
         clear hh
         go_simp
         exact ⟨_, rfl, regs.bl_refl _, rfl, hJ.out⟩
        ·refine regs.StepOK.no 15 true 94 rfl rfl (fun L a w1 hh => ?_) fun L a w1 hh => ⟨rfl, hh.st⟩
         exact hh.dep 15 94 (by kernel_rfl) (by kernel_rfl)
        ·refine regs.StepOK.yes 6 false 85 rfl rfl (fun L a w1 hh => hh.dep 6 85 (by kernel_rfl) (by kernel_rfl)) fun L a w1 hh => ?_
         have h94 := hh.v 15 94 rfl (by kernel_rfl) (by kernel_rfl)
         have hJ := Lib.hid hh.st
         clear hh
         go_simp
         exact ⟨_, rfl, regs.bl_refl _, rfl, hJ.out⟩
        ·refine regs.StepOK.yes 6 false 85 rfl rfl (fun L a w1 hh => hh.dep 6 85 (by kernel_rfl) (by kernel_rfl)) fun L a w1 hh => ?_
         have h89 := hh.v 10 89 rfl (by kernel_rfl) (by kernel_rfl)
         have h96 := hh.v 17 96 rfl (by kernel_rfl) (by kernel_rfl)
         have hJ := Lib.hid hh.st
         clear hh
         go_simp
         exact ⟨_, rfl, regs.bl_refl _, rfl, hJ.out⟩
        ·refine regs.StepOK.plain rfl fun L a w1 hh => ?_
         have h85 := hh.v 6 85 rfl (by kernel_rfl) (by kernel_rfl)
         have h97 := hh.v 18 97 rfl (by kernel_rfl) (by kernel_rfl)
         have hJ := Lib.hid hh.st
         clear hh
         go_simp
         exact ⟨_, rfl, regs.bl_refl _, rfl, hJ.out⟩
        ·refine regs.StepOK.plain rfl fun L a w1 hh => ?_
         have h98 := hh.v 19 98 rfl (by kernel_rfl) (by kernel_rfl)
         have hJ := Lib.hid hh.st
         clear hh
         go_simp
         exact ⟨_, rfl, regs.bl_refl _, rfl, hJ.out⟩
        ·refine regs.StepOK.yes 20 false 99 rfl rfl (fun L a w1 hh => hh.dep 20 99 (by kernel_rfl) (by kernel_rfl)) fun L a w1 hh => ?_
         have h15 : a.tmps[15]?.getD undef = .bool false := hh.kp 15 rfl rfl
         have hJ := Lib.hid hh.st
         clear hh
         go_simp
         exact ⟨_, rfl, regs.bl_refl _, rfl, hJ.out⟩
        ·refine regs.StepOK.yes 20 false 99 rfl rfl (fun L a w1 hh => hh.dep 20 99 (by kernel_rfl) (by kernel_rfl)) fun L a w1 hh => ?_
         have h100 := hh.v 21 100 rfl (by kernel_rfl) (by kernel_rfl)
         have hJ := Lib.hid hh.st
         clear hh
         go_simp
         exact ⟨_, rfl, regs.bl_refl _, rfl, hJ.out⟩
        ·refine regs.StepOK.yes 22 false 101 rfl rfl (fun L a w1 hh => hh.dep 22 101 (by kernel_rfl) (by kernel_rfl)) fun L a w1 hh => ?_
         have h16 : a.tmps[16]?.getD undef = .bool false := hh.kp 16 rfl rfl
         have hJ := Lib.hid hh.st
         clear hh
         go_simp
         exact ⟨_, rfl, regs.bl_refl _, rfl, hJ.out⟩
        ·refine regs.StepOK.yes 20 false 99 rfl rfl (fun L a w1 hh => hh.dep 20 99 (by kernel_rfl) (by kernel_rfl)) fun L a w1 hh => ?_
         have h101 := hh.v 22 101 rfl (by kernel_rfl) (by kernel_rfl)
         have h102 := hh.v 23 102 rfl (by kernel_rfl) (by kernel_rfl)
         have hJ := Lib.hid hh.st
         clear hh
         go_simp
         exact ⟨_, rfl, regs.bl_refl _, rfl, hJ.out⟩
        ·refine regs.StepOK.yes 20 false 99 rfl rfl (fun L a w1 hh => hh.dep 20 99 (by kernel_rfl) (by kernel_rfl)) fun L a w1 hh => ?_
         have h103 := hh.v 24 103 rfl (by kernel_rfl) (by kernel_rfl)
         have hJ := Lib.hid hh.st
         clear hh
         go_simp
         exact ⟨_, rfl, regs.bl_refl _, rfl, hJ.out⟩
        ·refine regs.StepOK.yes 25 false 104 rfl rfl (fun L a w1 hh => hh.dep 25 104 (by kernel_rfl) (by kernel_rfl)) fun L a w1 hh => ?_
         have h17 : a.tmps[17]?.getD undef = .bool false := hh.kp 17 rfl rfl
         have hJ := Lib.hid hh.st
         clear hh
         go_simp
         exact ⟨_, rfl, regs.bl_refl _, rfl, hJ.out⟩
        ·refine regs.StepOK.yes 20 false 99 rfl rfl (fun L a w1 hh => hh.dep 20 99 (by kernel_rfl) (by kernel_rfl)) fun L a w1 hh => ?_
         have h104 := hh.v 25 104 rfl (by kernel_rfl) (by kernel_rfl)
         have h105 := hh.v 26 105 rfl (by kernel_rfl) (by kernel_rfl)
         have hJ := Lib.hid hh.st
         clear hh
         go_simp
         exact ⟨_, rfl, regs.bl_refl _, rfl, hJ.out⟩
        ·refine regs.StepOK.yes 20 false 99 rfl rfl (fun L a w1 hh => hh.dep 20 99 (by kernel_rfl) (by kernel_rfl)) fun L a w1 hh => ?_
         have h106 := hh.v 27 106 rfl (by kernel_rfl) (by kernel_rfl)
         have hJ := Lib.hid hh.st
         clear hh
         go_simp
         exact ⟨_, rfl, regs.bl_refl _, rfl, hJ.out⟩
        ·refine regs.StepOK.no 28 true 107 rfl rfl (fun L a w1 hh => ?_) fun L a w1 hh => ⟨rfl, hh.st⟩
         exact hh.dep 28 107 (by kernel_rfl) (by kernel_rfl)
        ·refine regs.StepOK.no 28 true 107 rfl rfl (fun L a w1 hh => ?_) fun L a w1 hh => ⟨rfl, hh.st⟩
         exact hh.dep 28 107 (by kernel_rfl) (by kernel_rfl)
        ·refine regs.StepOK.no 28 true 107 rfl rfl (fun L a w1 hh => ?_) fun L a w1 hh => ⟨rfl, hh.st⟩
         exact hh.dep 28 107 (by kernel_rfl) (by kernel_rfl)
        ·refine regs.StepOK.no 28 true 107 rfl rfl (fun L a w1 hh => ?_) fun L a w1 hh => ⟨rfl, hh.st⟩
         exact hh.dep 28 107 (by kernel_rfl) (by kernel_rfl)
        ·refine regs.StepOK.no 28 true 107 rfl rfl (fun L a w1 hh => ?_) fun L a w1 hh => ⟨rfl, hh.st⟩
         exact hh.dep 28 107 (by kernel_rfl) (by kernel_rfl)
        ·refine regs.StepOK.yes 20 false 99 rfl rfl (fun L a w1 hh => hh.dep 20 99 (by kernel_rfl) (by kernel_rfl)) fun L a w1 hh => ?_
         have h107 := hh.v 28 107 rfl (by kernel_rfl) (by kernel_rfl)
         have hJ := Lib.hid hh.st
         clear hh
         go_simp
         exact ⟨_, rfl, regs.bl_refl _, rfl, hJ.out⟩
        ·refine regs.StepOK.plain rfl fun L a w1 hh => ?_
         have h99 := hh.v 20 99 rfl (by kernel_rfl) (by kernel_rfl)
         have h113 := hh.v 34 113 rfl (by kernel_rfl) (by kernel_rfl)
         have hJ := Lib.hid hh.st
         clear hh
         go_simp
         exact ⟨_, rfl, regs.bl_refl _, rfl, hJ.out⟩
        intro L w8 val hL hJ hR hv
        have h114 : val 114 = .bool false := hv 35 114 (by kernel_rfl)
        have HJ8 := Lib.hid hJ
        have HR8 := Lib.hid hR
        clear hv hL hJ hR
        simp only [regs.putAll, List.map_cons, List.map_nil]
        rw [h114]
        generalize val 79 = v79
        generalize val 80 = v80
        generalize val 81 = v81
        generalize val 82 = v82
        generalize val 83 = v83
        generalize val 84 = v84
        generalize val 85 = v85
        generalize val 86 = v86
        generalize val 87 = v87
        generalize val 88 = v88
        generalize val 89 = v89
        generalize val 90 = v90
        generalize val 91 = v91
        generalize val 92 = v92
        generalize val 93 = v93
        generalize val 94 = v94
        generalize val 95 = v95
        generalize val 96 = v96
        generalize val 97 = v97
        generalize val 98 = v98
        generalize val 99 = v99
        generalize val 100 = v100
        generalize val 101 = v101
        generalize val 102 = v102
        generalize val 103 = v103
        generalize val 104 = v104
        generalize val 105 = v105
        generalize val 106 = v106
        generalize val 107 = v107
        generalize val 108 = v108
        generalize val 109 = v109
        generalize val 110 = v110
        generalize val 111 = v111
        generalize val 112 = v112
        generalize val 113 = v113
        simp only [Act.put, List.setIfInBounds_toArray, List.set_cons_zero, List.set_cons_succ]
        clear h114
        clear HJ7 HR8 HCH HJH HYA HYB HYD
        go_wp2_with (fail)
        go_roundw
        case rel => exact ⟨m + 1, by omega, by go_num, HJ8⟩
        case measure => simp [intOf]; omega
       ·go_upto_region 12 with fail
        refine regs.wp_region_seq (regs.bl) (fun _ wx => CutsJ w (⟨ra, rb, rc, rd⟩ : Bx) (⟨sa, sb, sc, sd⟩ : Bx) (⟨ta, tb, tc, td⟩ : Bx) (⟨ca, cb, cc, cd⟩ : Bx) (⟨ja, jb, jc, jd⟩ : Bx) g7 g8 (some ⟨g, off, none⟩) (some ⟨g2, off2, none⟩) lx ly wx) [79, 80, 81, 82, 83, 84, 85, 86, 87, 88, 89, 90, 91, 92, 93, 94, 95, 96, 97, 98, 99, 100, 101, 102, 103, 104, 105, 106, 107, 108, 109, 110, 111, 112, 113, 114] (by kernel_rfl) (fun _ => regs.bl_refl _) (regs.bl_trans) (fun i => (match i with
         | 0 => regs.Say.val _ (.agg #[.int .i64 ra, .int .i64 rb, .int .i64 rc, .int .i64 rd])
         | 1 => regs.Say.val _ (.int .i64 x)
         | 2 => regs.Say.val _ (.int .i64 y)
         | 3 => regs.Say.val _ (.bool false)
         | 4 => regs.Say.val _ (.bool false)
         | 5 => regs.Say.val _ (.bool false)
         | 6 => regs.Say.val _ (.bool false)
         | 7 => regs.Say.val _ (.agg #[.int .i64 ca, .int .i64 cb, .int .i64 cc, .int .i64 cd])
         | 8 => regs.Say.val _ (.int .i64 x)
         | 9 => regs.Say.val _ (.int .i64 y)
         | 10 => regs.Say.val _ (.bool false)
         | 11 => regs.Say.val _ (.bool false)
         | 12 => regs.Say.val _ (.bool false)
         | 13 => regs.Say.val _ (undef)
         | 14 => regs.Say.val _ (.bool false)
         | 15 => regs.Say.val _ (.bool false)
         | 16 => regs.Say.val _ (undef)
         | 17 => regs.Say.val _ (.bool false)
         | 18 => regs.Say.val _ (.bool false)
         | 19 => regs.Say.val _ (.bool false)
         | 20 => regs.Say.val _ (.bool false)
         | 21 => regs.Say.val _ (.bool false)
         | 22 => regs.Say.val _ (.bool false)
         | 23 => regs.Say.val _ (.bool false)
         | 24 => regs.Say.val _ (.bool false)
         | 25 => regs.Say.val _ (.bool false)
         | 26 => regs.Say.val _ (.bool true)
         | 27 => regs.Say.val _ (.bool true)
         | 28 => regs.Say.val _ (.bool true)
         | 29 => regs.Say.val _ (.agg #[.int .i64 ja, .int .i64 jb, .int .i64 jc, .int .i64 jd])
         | 30 => regs.Say.val _ (.int .i64 x)
         | 31 => regs.Say.val _ (.int .i64 y)
         | 32 => regs.Say.val _ (.bool true)
         | 33 => regs.Say.val _ (.bool false)
         | 34 => regs.Say.val _ (.bool false)
         | 35 => regs.Say.val _ (.bool false)
         | _ => regs.Say.any _ : regs.Say (regs.bl)).p) (fun _ => regs.Say.mono _) (by kernel_rfl) (HJ7.out) ⟨?_, ?_, ?_, ?_, ?_, ?_, ?_, ?_, ?_, ?_, ?_, ?_, ?_, ?_, ?_, ?_, ?_, ?_, ?_, ?_, ?_, ?_, ?_, ?_, ?_, ?_, ?_, ?_, ?_, ?_, ?_, ?_, ?_, ?_, ?_, ?_, trivial⟩ ?_
        ·refine regs.StepOK.plain rfl fun L a w1 hh => ?_
         have h3 : a.tmps[3]?.getD undef = .pointer (some ⟨w.heap.size, 0, none⟩) := hh.kp 3 rfl rfl
         obtain ⟨⟨c0, c1, c2, c3⟩, -, -⟩ := (hh.st.1.1.1).c4
         have hJ := Lib.hid hh.st
         clear hh
         go_simp
         exact ⟨_, rfl, regs.bl_refl _, rfl, hJ.out⟩
        ·refine regs.StepOK.plain rfl fun L a w1 hh => ?_
         have h12 : a.tmps[12]?.getD undef = .int .i64 x := hh.kp 12 rfl rfl
         have hJ := Lib.hid hh.st
         clear hh
         go_simp
         exact ⟨_, rfl, regs.bl_refl _, rfl, hJ.out⟩
        ·refine regs.StepOK.plain rfl fun L a w1 hh => ?_
         have h14 : a.tmps[14]?.getD undef = .int .i64 y := hh.kp 14 rfl rfl
         have hJ := Lib.hid hh.st
         clear hh
         go_simp
         exact ⟨_, rfl, regs.bl_refl _, rfl, hJ.out⟩
        ·refine regs.StepOK.plain rfl fun L a w1 hh => ?_
         have h79 := hh.v 0 79 rfl (by kernel_rfl) (by kernel_rfl)
         have h80 := hh.v 1 80 rfl (by kernel_rfl) (by kernel_rfl)
         have h81 := hh.v 2 81 rfl (by kernel_rfl) (by kernel_rfl)
         have := True.intro
         have hJ := Lib.hid hh.st
         clear hh
         go_simp
         refine (bx_has (⟨ra, rb, rc, rd⟩ : Bx) x y w1).mono ?_
         rintro e w9 ⟨rfl, hb9⟩
         exact ⟨_, rfl, hb9, congrArg Value.bool HYA.out, CutsJ.below hJ.out hb9⟩
        ·refine regs.StepOK.plain rfl fun L a w1 hh => ?_
         have h15 : a.tmps[15]?.getD undef = .bool false := hh.kp 15 rfl rfl
         have hJ := Lib.hid hh.st
         clear hh
         go_simp
         exact ⟨_, rfl, regs.bl_refl _, rfl, hJ.out⟩
        ·refine regs.StepOK.plain rfl fun L a w1 hh => ?_
         have h82 := hh.v 3 82 rfl (by kernel_rfl) (by kernel_rfl)
         have h83 := hh.v 4 83 rfl (by kernel_rfl) (by kernel_rfl)
         have hJ := Lib.hid hh.st
         clear hh
         go_simp
         exact ⟨_, rfl, regs.bl_refl _, rfl, hJ.out⟩
        ·refine regs.StepOK.plain rfl fun L a w1 hh => ?_
         have h84 := hh.v 5 84 rfl (by kernel_rfl) (by kernel_rfl)
         have hJ := Lib.hid hh.st
         clear hh
         go_simp
         exact ⟨_, rfl, regs.bl_refl _, rfl, hJ.out⟩
        ·refine regs.StepOK.yes 6 false 85 rfl rfl (fun L a w1 hh => hh.dep 6 85 (by kernel_rfl) (by kernel_rfl)) fun L a w1 hh => ?_
         have h7 : a.tmps[7]?.getD undef = .pointer (some ⟨g7, 0, none⟩) := hh.kp 7 rfl rfl
         obtain ⟨⟨c0, c1, c2, c3⟩, -, -⟩ := (hh.st.1.1.2.2.2.1).c4
         have hJ := Lib.hid hh.st
         clear hh
         go_simp
         exact ⟨_, rfl, regs.bl_refl _, rfl, hJ.out⟩
        ·refine regs.StepOK.yes 6 false 85 rfl rfl (fun L a w1 hh => hh.dep 6 85 (by kernel_rfl) (by kernel_rfl)) fun L a w1 hh => ?_
         have h12 : a.tmps[12]?.getD undef = .int .i64 x := hh.kp 12 rfl rfl
         have hJ := Lib.hid hh.st
         clear hh
         go_simp
         exact ⟨_, rfl, regs.bl_refl _, rfl, hJ.out⟩
        ·refine regs.StepOK.yes 6 false 85 rfl rfl (fun L a w1 hh => hh.dep 6 85 (by kernel_rfl) (by kernel_rfl)) fun L a w1 hh => ?_
         have h14 : a.tmps[14]?.getD undef = .int .i64 y := hh.kp 14 rfl rfl
         have hJ := Lib.hid hh.st
         clear hh
         go_simp
         exact ⟨_, rfl, regs.bl_refl _, rfl, hJ.out⟩
        ·refine regs.StepOK.yes 6 false 85 rfl rfl (fun L a w1 hh => hh.dep 6 85 (by kernel_rfl) (by kernel_rfl)) fun L a w1 hh => ?_
         have h86 := hh.v 7 86 rfl (by kernel_rfl) (by kernel_rfl)
         have h87 := hh.v 8 87 rfl (by kernel_rfl) (by kernel_rfl)
         have h88 := hh.v 9 88 rfl (by kernel_rfl) (by kernel_rfl)
         have := True.intro
         have hJ := Lib.hid hh.st
         clear hh
         go_simp
         refine (bx_has (⟨ca, cb, cc, cd⟩ : Bx) x y w1).mono ?_
         rintro e w9 ⟨rfl, hb9⟩
         exact ⟨_, rfl, hb9, congrArg Value.bool HCH.out, CutsJ.below hJ.out hb9⟩
        ·refine regs.StepOK.yes 6 false 85 rfl rfl (fun L a w1 hh => hh.dep 6 85 (by kernel_rfl) (by kernel_rfl)) fun L a w1 hh => ?_
         have h15 : a.tmps[15]?.getD undef = .bool false := hh.kp 15 rfl rfl
         have hJ := Lib.hid hh.st
         clear hh
         go_simp
         exact ⟨_, rfl, regs.bl_refl _, rfl, hJ.out⟩
        ·refine regs.StepOK.yes 6 false 85 rfl rfl (fun L a w1 hh => hh.dep 6 85 (by kernel_rfl) (by kernel_rfl)) fun L a w1 hh => ?_
         have h90 := hh.v 11 90 rfl (by kernel_rfl) (by kernel_rfl)
         have hJ := Lib.hid hh.st
         clear hh
         go_simp
         exact ⟨_, rfl, regs.bl_refl _, rfl, hJ.out⟩
        ·refine regs.StepOK.no 12 true 91 rfl rfl (fun L a w1 hh => ?_) fun L a w1 hh => ⟨rfl, hh.st⟩
         exact hh.dep 12 91 (by kernel_rfl) (by kernel_rfl)
        ·refine regs.StepOK.yes 6 false 85 rfl rfl (fun L a w1 hh => hh.dep 6 85 (by kernel_rfl) (by kernel_rfl)) fun L a w1 hh => ?_
         have h91 := hh.v 12 91 rfl (by kernel_rfl) (by kernel_rfl)
         have hJ := Lib.hid hh.st
         clear hh
         go_simp
         exact ⟨_, rfl, regs.bl_refl _, rfl, hJ.out⟩
        ·refine regs.StepOK.yes 6 false 85 rfl rfl (fun L a w1 hh => hh.dep 6 85 (by kernel_rfl) (by kernel_rfl)) fun L a w1 hh => ?_
         have h93 := hh.v 14 93 rfl (by kernel_rfl) (by kernel_rfl)
         have hJ := Lib.hid hh.st
         clear hh
         go_simp
         exact ⟨_, rfl, regs.bl_refl _, rfl, hJ.out⟩
        ·refine regs.StepOK.no 15 true 94 rfl rfl (fun L a w1 hh => ?_) fun L a w1 hh => ⟨rfl, hh.st⟩
         exact hh.dep 15 94 (by kernel_rfl) (by kernel_rfl)
        ·refine regs.StepOK.yes 6 false 85 rfl rfl (fun L a w1 hh => hh.dep 6 85 (by kernel_rfl) (by kernel_rfl)) fun L a w1 hh => ?_
         have h94 := hh.v 15 94 rfl (by kernel_rfl) (by kernel_rfl)
         have hJ := Lib.hid hh.st
         clear hh
         go_simp
         exact ⟨_, rfl, regs.bl_refl _, rfl, hJ.out⟩
        ·refine regs.StepOK.yes 6 false 85 rfl rfl (fun L a w1 hh => hh.dep 6 85 (by kernel_rfl) (by kernel_rfl)) fun L a w1 hh => ?_
         have h89 := hh.v 10 89 rfl (by kernel_rfl) (by kernel_rfl)
         have h96 := hh.v 17 96 rfl (by kernel_rfl) (by kernel_rfl)
         have hJ := Lib.hid hh.st
         clear hh
         go_simp
         exact ⟨_, rfl, regs.bl_refl _, rfl, hJ.out⟩
        ·refine regs.StepOK.plain rfl fun L a w1 hh => ?_
         have h85 := hh.v 6 85 rfl (by kernel_rfl) (by kernel_rfl)
         have h97 := hh.v 18 97 rfl (by kernel_rfl) (by kernel_rfl)
         have hJ := Lib.hid hh.st
         clear hh
         go_simp
         exact ⟨_, rfl, regs.bl_refl _, rfl, hJ.out⟩
        ·refine regs.StepOK.plain rfl fun L a w1 hh => ?_
         have h98 := hh.v 19 98 rfl (by kernel_rfl) (by kernel_rfl)
         have hJ := Lib.hid hh.st
         clear hh
         go_simp
         exact ⟨_, rfl, regs.bl_refl _, rfl, hJ.out⟩
        ·refine regs.StepOK.yes 20 false 99 rfl rfl (fun L a w1 hh => hh.dep 20 99 (by kernel_rfl) (by kernel_rfl)) fun L a w1 hh => ?_
         have h15 : a.tmps[15]?.getD undef = .bool false := hh.kp 15 rfl rfl
         have hJ := Lib.hid hh.st
         clear hh
         go_simp
         exact ⟨_, rfl, regs.bl_refl _, rfl, hJ.out⟩
        ·refine regs.StepOK.yes 20 false 99 rfl rfl (fun L a w1 hh => hh.dep 20 99 (by kernel_rfl) (by kernel_rfl)) fun L a w1 hh => ?_
         have h100 := hh.v 21 100 rfl (by kernel_rfl) (by kernel_rfl)
         have hJ := Lib.hid hh.st
         clear hh
         go_simp
         exact ⟨_, rfl, regs.bl_refl _, rfl, hJ.out⟩
        ·refine regs.StepOK.yes 22 false 101 rfl rfl (fun L a w1 hh => hh.dep 22 101 (by kernel_rfl) (by kernel_rfl)) fun L a w1 hh => ?_
         have h16 : a.tmps[16]?.getD undef = .bool false := hh.kp 16 rfl rfl
         have hJ := Lib.hid hh.st
         clear hh
         go_simp
         exact ⟨_, rfl, regs.bl_refl _, rfl, hJ.out⟩
        ·refine regs.StepOK.yes 20 false 99 rfl rfl (fun L a w1 hh => hh.dep 20 99 (by kernel_rfl) (by kernel_rfl)) fun L a w1 hh => ?_
         have h101 := hh.v 22 101 rfl (by kernel_rfl) (by kernel_rfl)
         have h102 := hh.v 23 102 rfl (by kernel_rfl) (by kernel_rfl)
         have hJ := Lib.hid hh.st
         clear hh
         go_simp
         exact ⟨_, rfl, regs.bl_refl _, rfl, hJ.out⟩
        ·refine regs.StepOK.yes 20 false 99 rfl rfl (fun L a w1 hh => hh.dep 20 99 (by kernel_rfl) (by kernel_rfl)) fun L a w1 hh => ?_
         have h103 := hh.v 24 103 rfl (by kernel_rfl) (by kernel_rfl)
         have hJ := Lib.hid hh.st
         clear hh
         go_simp
         exact ⟨_, rfl, regs.bl_refl _, rfl, hJ.out⟩
        ·refine regs.StepOK.yes 25 false 104 rfl rfl (fun L a w1 hh => hh.dep 25 104 (by kernel_rfl) (by kernel_rfl)) fun L a w1 hh => ?_
         have h17 : a.tmps[17]?.getD undef = .bool true := hh.kp 17 rfl rfl
         have hJ := Lib.hid hh.st
         clear hh
         go_simp
         exact ⟨_, rfl, regs.bl_refl _, rfl, hJ.out⟩
        ·refine regs.StepOK.yes 20 false 99 rfl rfl (fun L a w1 hh => hh.dep 20 99 (by kernel_rfl) (by kernel_rfl)) fun L a w1 hh => ?_
         have h104 := hh.v 25 104 rfl (by kernel_rfl) (by kernel_rfl)
         have h105 := hh.v 26 105 rfl (by kernel_rfl) (by kernel_rfl)
         have hJ := Lib.hid hh.st
         clear hh
         go_simp
         exact ⟨_, rfl, regs.bl_refl _, rfl, hJ.out⟩
        ·refine regs.StepOK.yes 20 false 99 rfl rfl (fun L a w1 hh => hh.dep 20 99 (by kernel_rfl) (by kernel_rfl)) fun L a w1 hh => ?_
         have h106 := hh.v 27 106 rfl (by kernel_rfl) (by kernel_rfl)
         have hJ := Lib.hid hh.st
         clear hh
         go_simp
         exact ⟨_, rfl, regs.bl_refl _, rfl, hJ.out⟩
        ·refine regs.StepOK.yes 28 true 107 rfl rfl (fun L a w1 hh => hh.dep 28 107 (by kernel_rfl) (by kernel_rfl)) fun L a w1 hh => ?_
         have h8 : a.tmps[8]?.getD undef = .pointer (some ⟨g8, 0, none⟩) := hh.kp 8 rfl rfl
         obtain ⟨⟨c0, c1, c2, c3⟩, -, -⟩ := (hh.st.1.1.2.2.2.2.1).c4
         have hJ := Lib.hid hh.st
         clear hh
         go_simp
         exact ⟨_, rfl, regs.bl_refl _, rfl, hJ.out⟩
        ·refine regs.StepOK.yes 28 true 107 rfl rfl (fun L a w1 hh => hh.dep 28 107 (by kernel_rfl) (by kernel_rfl)) fun L a w1 hh => ?_
         have h12 : a.tmps[12]?.getD undef = .int .i64 x := hh.kp 12 rfl rfl
         have hJ := Lib.hid hh.st
         clear hh
         go_simp
         exact ⟨_, rfl, regs.bl_refl _, rfl, hJ.out⟩
        ·refine regs.StepOK.yes 28 true 107 rfl rfl (fun L a w1 hh => hh.dep 28 107 (by kernel_rfl) (by kernel_rfl)) fun L a w1 hh => ?_
         have h14 : a.tmps[14]?.getD undef = .int .i64 y := hh.kp 14 rfl rfl
         have hJ := Lib.hid hh.st
         clear hh
         go_simp
         exact ⟨_, rfl, regs.bl_refl _, rfl, hJ.out⟩
        ·refine regs.StepOK.yes 28 true 107 rfl rfl (fun L a w1 hh => hh.dep 28 107 (by kernel_rfl) (by kernel_rfl)) fun L a w1 hh => ?_
         have h108 := hh.v 29 108 rfl (by kernel_rfl) (by kernel_rfl)
         have h109 := hh.v 30 109 rfl (by kernel_rfl) (by kernel_rfl)
         have h110 := hh.v 31 110 rfl (by kernel_rfl) (by kernel_rfl)
         have := True.intro
         have hJ := Lib.hid hh.st
         clear hh
         go_simp
         refine (bx_has (⟨ja, jb, jc, jd⟩ : Bx) x y w1).mono ?_
         rintro e w9 ⟨rfl, hb9⟩
         exact ⟨_, rfl, hb9, congrArg Value.bool (HJH.out rfl), CutsJ.below hJ.out hb9⟩
        ·refine regs.StepOK.yes 28 true 107 rfl rfl (fun L a w1 hh => hh.dep 28 107 (by kernel_rfl) (by kernel_rfl)) fun L a w1 hh => ?_
         have h111 := hh.v 32 111 rfl (by kernel_rfl) (by kernel_rfl)
         have hJ := Lib.hid hh.st
         clear hh
         go_simp
         exact ⟨_, rfl, regs.bl_refl _, rfl, hJ.out⟩
        ·refine regs.StepOK.yes 20 false 99 rfl rfl (fun L a w1 hh => hh.dep 20 99 (by kernel_rfl) (by kernel_rfl)) fun L a w1 hh => ?_
         have h107 := hh.v 28 107 rfl (by kernel_rfl) (by kernel_rfl)
         have h112 := hh.v 33 112 rfl (by kernel_rfl) (by kernel_rfl)
         have hJ := Lib.hid hh.st
         clear hh
         go_simp
         exact ⟨_, rfl, regs.bl_refl _, rfl, hJ.out⟩
        ·refine regs.StepOK.plain rfl fun L a w1 hh => ?_
         have h99 := hh.v 20 99 rfl (by kernel_rfl) (by kernel_rfl)
         have h113 := hh.v 34 113 rfl (by kernel_rfl) (by kernel_rfl)
         have hJ := Lib.hid hh.st
         clear hh
         go_simp
         exact ⟨_, rfl, regs.bl_refl _, rfl, hJ.out⟩
        intro L w8 val hL hJ hR hv
        have h114 : val 114 = .bool false := hv 35 114 (by kernel_rfl)
        have HJ8 := Lib.hid hJ
        have HR8 := Lib.hid hR
        clear hv hL hJ hR
        simp only [regs.putAll, List.map_cons, List.map_nil]
        rw [h114]
        generalize val 79 = v79
        generalize val 80 = v80
        generalize val 81 = v81
        generalize val 82 = v82
        generalize val 83 = v83
        generalize val 84 = v84
        generalize val 85 = v85
        generalize val 86 = v86
        generalize val 87 = v87
        generalize val 88 = v88
        generalize val 89 = v89
        generalize val 90 = v90
        generalize val 91 = v91
        generalize val 92 = v92
        generalize val 93 = v93
        generalize val 94 = v94
        generalize val 95 = v95
        generalize val 96 = v96
        generalize val 97 = v97
        generalize val 98 = v98
        generalize val 99 = v99
        generalize val 100 = v100
        generalize val 101 = v101
        generalize val 102 = v102
        generalize val 103 = v103
        generalize val 104 = v104
        generalize val 105 = v105
        generalize val 106 = v106
        generalize val 107 = v107
        generalize val 108 = v108
        generalize val 109 = v109
        generalize val 110 = v110
        generalize val 111 = v111
        generalize val 112 = v112
        generalize val 113 = v113
        simp only [Act.put, List.setIfInBounds_toArray, List.set_cons_zero, List.set_cons_succ]
        clear h114
        clear HJ7 HR8 HCH HJH HYA HYB HYD
        go_wp2_with (fail)
        go_roundw
        case rel => exact ⟨m + 1, by omega, by go_num, HJ8⟩
        case measure => simp [intOf]; omega
      ·go_upto_region 12 with fail
       refine regs.wp_region_seq (regs.bl) (fun _ wx => CutsJ w (⟨ra, rb, rc, rd⟩ : Bx) (⟨sa, sb, sc, sd⟩ : Bx) (⟨ta, tb, tc, td⟩ : Bx) (⟨ca, cb, cc, cd⟩ : Bx) (⟨ja, jb, jc, jd⟩ : Bx) g7 g8 (some ⟨g, off, none⟩) (some ⟨g2, off2, none⟩) lx ly wx) [79, 80, 81, 82, 83, 84, 85, 86, 87, 88, 89, 90, 91, 92, 93, 94, 95, 96, 97, 98, 99, 100, 101, 102, 103, 104, 105, 106, 107, 108, 109, 110, 111, 112, 113, 114] (by kernel_rfl) (fun _ => regs.bl_refl _) (regs.bl_trans) (fun i => (match i with
        | 0 => regs.Say.val _ (.agg #[.int .i64 ra, .int .i64 rb, .int .i64 rc, .int .i64 rd])
        | 1 => regs.Say.val _ (.int .i64 x)
        | 2 => regs.Say.val _ (.int .i64 y)
        | 3 => regs.Say.val _ (.bool false)
        | 4 => regs.Say.val _ (.bool false)
        | 5 => regs.Say.val _ (.bool false)
        | 6 => regs.Say.val _ (.bool false)
        | 7 => regs.Say.val _ (.agg #[.int .i64 ca, .int .i64 cb, .int .i64 cc, .int .i64 cd])
        | 8 => regs.Say.val _ (.int .i64 x)
        | 9 => regs.Say.val _ (.int .i64 y)
        | 10 => regs.Say.val _ (.bool false)
        | 11 => regs.Say.val _ (.bool false)
        | 12 => regs.Say.val _ (.bool false)
        | 13 => regs.Say.val _ (undef)
        | 14 => regs.Say.val _ (.bool false)
        | 15 => regs.Say.val _ (.bool false)
        | 16 => regs.Say.val _ (undef)
        | 17 => regs.Say.val _ (.bool false)
        | 18 => regs.Say.val _ (.bool false)
        | 19 => regs.Say.val _ (.bool false)
        | 20 => regs.Say.val _ (.bool false)
        | 21 => regs.Say.val _ (.bool false)
        | 22 => regs.Say.val _ (.bool false)
        | 23 => regs.Say.val _ (.bool true)
        | 24 => regs.Say.val _ (.bool true)
        | 25 => regs.Say.val _ (.bool true)
        | 26 => regs.Say.val _ (undef)
        | 27 => regs.Say.val _ (.bool true)
        | 28 => regs.Say.val _ (.bool true)
        | 29 => regs.Say.val _ (.agg #[.int .i64 ja, .int .i64 jb, .int .i64 jc, .int .i64 jd])
        | 30 => regs.Say.val _ (.int .i64 x)
        | 31 => regs.Say.val _ (.int .i64 y)
        | 32 => regs.Say.val _ (.bool true)
        | 33 => regs.Say.val _ (.bool false)
        | 34 => regs.Say.val _ (.bool false)
        | 35 => regs.Say.val _ (.bool false)
        | _ => regs.Say.any _ : regs.Say (regs.bl)).p) (fun _ => regs.Say.mono _) (by kernel_rfl) (HJ7.out) ⟨?_, ?_, ?_, ?_, ?_, ?_, ?_, ?_, ?_, ?_, ?_, ?_, ?_, ?_, ?_, ?_, ?_, ?_, ?_, ?_, ?_, ?_, ?_, ?_, ?_, ?_, ?_, ?_, ?_, ?_, ?_, ?_, ?_, ?_, ?_, ?_, trivial⟩ ?_
       ·refine regs.StepOK.plain rfl fun L a w1 hh => ?_
        have h3 : a.tmps[3]?.getD undef = .pointer (some ⟨w.heap.size, 0, none⟩) := hh.kp 3 rfl rfl
        obtain ⟨⟨c0, c1, c2, c3⟩, -, -⟩ := (hh.st.1.1.1).c4
        have hJ := Lib.hid hh.st
        clear hh
        go_simp
        exact ⟨_, rfl, regs.bl_refl _, rfl, hJ.out⟩
       ·refine regs.StepOK.plain rfl fun L a w1 hh => ?_
        have h12 : a.tmps[12]?.getD undef = .int .i64 x := hh.kp 12 rfl rfl
        have hJ := Lib.hid hh.st
        clear hh
        go_simp
        exact ⟨_, rfl, regs.bl_refl _, rfl, hJ.out⟩
       ·refine regs.StepOK.plain rfl fun L a w1 hh => ?_
        have h14 : a.tmps[14]?.getD undef = .int .i64 y := hh.kp 14 rfl rfl
        have hJ := Lib.hid hh.st
        clear hh
        go_simp
        exact ⟨_, rfl, regs.bl_refl _, rfl, hJ.out⟩
       ·refine regs.StepOK.plain rfl fun L a w1 hh => ?_
        have h79 := hh.v 0 79 rfl (by kernel_rfl) (by kernel_rfl)
        have h80 := hh.v 1 80 rfl (by kernel_rfl) (by kernel_rfl)
        have h81 := hh.v 2 81 rfl (by kernel_rfl) (by kernel_rfl)
        have := True.intro
        have hJ := Lib.hid hh.st
        clear hh
        go_simp
        refine (bx_has (⟨ra, rb, rc, rd⟩ : Bx) x y w1).mono ?_
        rintro e w9 ⟨rfl, hb9⟩
        exact ⟨_, rfl, hb9, congrArg Value.bool HYA.out, CutsJ.below hJ.out hb9⟩
       ·refine regs.StepOK.plain rfl fun L a w1 hh => ?_
        have h15 : a.tmps[15]?.getD undef = .bool false := hh.kp 15 rfl rfl
        have hJ := Lib.hid hh.st
        clear hh
        go_simp
        exact ⟨_, rfl, regs.bl_refl _, rfl, hJ.out⟩
       ·refine regs.StepOK.plain rfl fun L a w1 hh => ?_
        have h82 := hh.v 3 82 rfl (by kernel_rfl) (by kernel_rfl)
        have h83 := hh.v 4 83 rfl (by kernel_rfl) (by kernel_rfl)
        have hJ := Lib.hid hh.st
        clear hh
        go_simp
        exact ⟨_, rfl, regs.bl_refl _, rfl, hJ.out⟩
       ·refine regs.StepOK.plain rfl fun L a w1 hh => ?_
        have h84 := hh.v 5 84 rfl (by kernel_rfl) (by kernel_rfl)
        have hJ := Lib.hid hh.st
        clear hh
        go_simp
        exact ⟨_, rfl, regs.bl_refl _, rfl, hJ.out⟩
       ·refine regs.StepOK.yes 6 false 85 rfl rfl (fun L a w1 hh => hh.dep 6 85 (by kernel_rfl) (by kernel_rfl)) fun L a w1 hh => ?_
        have h7 : a.tmps[7]?.getD undef = .pointer (some ⟨g7, 0, none⟩) := hh.kp 7 rfl rfl
        obtain ⟨⟨c0, c1, c2, c3⟩, -, -⟩ := (hh.st.1.1.2.2.2.1).c4
        have hJ := Lib.hid hh.st
        clear hh
        go_simp
        exact ⟨_, rfl, regs.bl_refl _, rfl, hJ.out⟩
       ·refine regs.StepOK.yes 6 false 85 rfl rfl (fun L a w1 hh => hh.dep 6 85 (by kernel_rfl) (by kernel_rfl)) fun L a w1 hh => ?_
        have h12 : a.tmps[12]?.getD undef = .int .i64 x := hh.kp 12 rfl rfl
        have hJ := Lib.hid hh.st
        clear hh
        go_simp
        exact ⟨_, rfl, regs.bl_refl _, rfl, hJ.out⟩
       ·refine regs.StepOK.yes 6 false 85 rfl rfl (fun L a w1 hh => hh.dep 6 85 (by kernel_rfl) (by kernel_rfl)) fun L a w1 hh => ?_
        have h14 : a.tmps[14]?.getD undef = .int .i64 y := hh.kp 14 rfl rfl
        have hJ := Lib.hid hh.st
        clear hh
        go_simp
        exact ⟨_, rfl, regs.bl_refl _, rfl, hJ.out⟩
       ·refine regs.StepOK.yes 6 false 85 rfl rfl (fun L a w1 hh => hh.dep 6 85 (by kernel_rfl) (by kernel_rfl)) fun L a w1 hh => ?_
        have h86 := hh.v 7 86 rfl (by kernel_rfl) (by kernel_rfl)
        have h87 := hh.v 8 87 rfl (by kernel_rfl) (by kernel_rfl)
        have h88 := hh.v 9 88 rfl (by kernel_rfl) (by kernel_rfl)
        have := True.intro
        have hJ := Lib.hid hh.st
        clear hh
        go_simp
        refine (bx_has (⟨ca, cb, cc, cd⟩ : Bx) x y w1).mono ?_
        rintro e w9 ⟨rfl, hb9⟩
        exact ⟨_, rfl, hb9, congrArg Value.bool HCH.out, CutsJ.below hJ.out hb9⟩
       ·refine regs.StepOK.yes 6 false 85 rfl rfl (fun L a w1 hh => hh.dep 6 85 (by kernel_rfl) (by kernel_rfl)) fun L a w1 hh => ?_
        have h15 : a.tmps[15]?.getD undef = .bool false := hh.kp 15 rfl rfl
        have hJ := Lib.hid hh.st
        clear hh
        go_simp
        exact ⟨_, rfl, regs.bl_refl _, rfl, hJ.out⟩
       ·refine regs.StepOK.yes 6 false 85 rfl rfl (fun L a w1 hh => hh.dep 6 85 (by kernel_rfl) (by kernel_rfl)) fun L a w1 hh => ?_
        have h90 := hh.v 11 90 rfl (by kernel_rfl) (by kernel_rfl)
        have hJ := Lib.hid hh.st
        clear hh
        go_simp
        exact ⟨_, rfl, regs.bl_refl _, rfl, hJ.out⟩
       ·refine regs.StepOK.no 12 true 91 rfl rfl (fun L a w1 hh => ?_) fun L a w1 hh => ⟨rfl, hh.st⟩
        exact hh.dep 12 91 (by kernel_rfl) (by kernel_rfl)
       ·refine regs.StepOK.yes 6 false 85 rfl rfl (fun L a w1 hh => hh.dep 6 85 (by kernel_rfl) (by kernel_rfl)) fun L a w1 hh => ?_
        have h91 := hh.v 12 91 rfl (by kernel_rfl) (by kernel_rfl)
        have hJ := Lib.hid hh.st
        clear hh
        go_simp
        exact ⟨_, rfl, regs.bl_refl _, rfl, hJ.out⟩
       ·refine regs.StepOK.yes 6 false 85 rfl rfl (fun L a w1 hh => hh.dep 6 85 (by kernel_rfl) (by kernel_rfl)) fun L a w1 hh => ?_
        have h93 := hh.v 14 93 rfl (by kernel_rfl) (by kernel_rfl)
        have hJ := Lib.hid hh.st
        clear hh
        go_simp
        exact ⟨_, rfl, regs.bl_refl _, rfl, hJ.out⟩
       ·refine regs.StepOK.no 15 true 94 rfl rfl (fun L a w1 hh => ?_) fun L a w1 hh => ⟨rfl, hh.st⟩
        exact hh.dep 15 94 (by kernel_rfl) (by kernel_rfl)
       ·refine regs.StepOK.yes 6 false 85 rfl rfl (fun L a w1 hh => hh.dep 6 85 (by kernel_rfl) (by kernel_rfl)) fun L a w1 hh => ?_
        have h94 := hh.v 15 94 rfl (by kernel_rfl) (by kernel_rfl)
        have hJ := Lib.hid hh.st
        clear hh
        go_simp
        exact ⟨_, rfl, regs.bl_refl _, rfl, hJ.out⟩
       ·refine regs.StepOK.yes 6 false 85 rfl rfl (fun L a w1 hh => hh.dep 6 85 (by kernel_rfl) (by kernel_rfl)) fun L a w1 hh => ?_
        have h89 := hh.v 10 89 rfl (by kernel_rfl) (by kernel_rfl)
        have h96 := hh.v 17 96 rfl (by kernel_rfl) (by kernel_rfl)
        have hJ := Lib.hid hh.st
        clear hh
        go_simp
        exact ⟨_, rfl, regs.bl_refl _, rfl, hJ.out⟩
       ·refine regs.StepOK.plain rfl fun L a w1 hh => ?_
        have h85 := hh.v 6 85 rfl (by kernel_rfl) (by kernel_rfl)
        have h97 := hh.v 18 97 rfl (by kernel_rfl) (by kernel_rfl)
        have hJ := Lib.hid hh.st
        clear hh
        go_simp
        exact ⟨_, rfl, regs.bl_refl _, rfl, hJ.out⟩
       ·refine regs.StepOK.plain rfl fun L a w1 hh => ?_
        have h98 := hh.v 19 98 rfl (by kernel_rfl) (by kernel_rfl)
        have hJ := Lib.hid hh.st
        clear hh
        go_simp
        exact ⟨_, rfl, regs.bl_refl _, rfl, hJ.out⟩
       ·refine regs.StepOK.yes 20 false 99 rfl rfl (fun L a w1 hh => hh.dep 20 99 (by kernel_rfl) (by kernel_rfl)) fun L a w1 hh => ?_
        have h15 : a.tmps[15]?.getD undef = .bool false := hh.kp 15 rfl rfl
        have hJ := Lib.hid hh.st
        clear hh
        go_simp
        exact ⟨_, rfl, regs.bl_refl _, rfl, hJ.out⟩
       ·refine regs.StepOK.yes 20 false 99 rfl rfl (fun L a w1 hh => hh.dep 20 99 (by kernel_rfl) (by kernel_rfl)) fun L a w1 hh => ?_
        have h100 := hh.v 21 100 rfl (by kernel_rfl) (by kernel_rfl)
        have hJ := Lib.hid hh.st
        clear hh
        go_simp
        exact ⟨_, rfl, regs.bl_refl _, rfl, hJ.out⟩
       ·refine regs.StepOK.yes 22 false 101 rfl rfl (fun L a w1 hh => hh.dep 22 101 (by kernel_rfl) (by kernel_rfl)) fun L a w1 hh => ?_
        have h16 : a.tmps[16]?.getD undef = .bool true := hh.kp 16 rfl rfl
        have hJ := Lib.hid hh.st
        clear hh
        go_simp
        exact ⟨_, rfl, regs.bl_refl _, rfl, hJ.out⟩
       ·refine regs.StepOK.yes 20 false 99 rfl rfl (fun L a w1 hh => hh.dep 20 99 (by kernel_rfl) (by kernel_rfl)) fun L a w1 hh => ?_
        have h101 := hh.v 22 101 rfl (by kernel_rfl) (by kernel_rfl)
        have h102 := hh.v 23 102 rfl (by kernel_rfl) (by kernel_rfl)
        have hJ := Lib.hid hh.st
        clear hh
        go_simp
        exact ⟨_, rfl, regs.bl_refl _, rfl, hJ.out⟩
       ·refine regs.StepOK.yes 20 false 99 rfl rfl (fun L a w1 hh => hh.dep 20 99 (by kernel_rfl) (by kernel_rfl)) fun L a w1 hh => ?_
        have h103 := hh.v 24 103 rfl (by kernel_rfl) (by kernel_rfl)
        have hJ := Lib.hid hh.st
        clear hh
        go_simp
        exact ⟨_, rfl, regs.bl_refl _, rfl, hJ.out⟩
       ·refine regs.StepOK.no 25 false 104 rfl rfl (fun L a w1 hh => ?_) fun L a w1 hh => ⟨rfl, hh.st⟩
        exact hh.dep 25 104 (by kernel_rfl) (by kernel_rfl)
       ·refine regs.StepOK.yes 20 false 99 rfl rfl (fun L a w1 hh => hh.dep 20 99 (by kernel_rfl) (by kernel_rfl)) fun L a w1 hh => ?_
        have h104 := hh.v 25 104 rfl (by kernel_rfl) (by kernel_rfl)
        have hJ := Lib.hid hh.st
        clear hh
        go_simp
        exact ⟨_, rfl, regs.bl_refl _, rfl, hJ.out⟩
       ·refine regs.StepOK.yes 20 false 99 rfl rfl (fun L a w1 hh => hh.dep 20 99 (by kernel_rfl) (by kernel_rfl)) fun L a w1 hh => ?_
        have h106 := hh.v 27 106 rfl (by kernel_rfl) (by kernel_rfl)
        have hJ := Lib.hid hh.st
        clear hh
        go_simp
        exact ⟨_, rfl, regs.bl_refl _, rfl, hJ.out⟩
       ·refine regs.StepOK.yes 28 true 107 rfl rfl (fun L a w1 hh => hh.dep 28 107 (by kernel_rfl) (by kernel_rfl)) fun L a w1 hh => ?_
        have h8 : a.tmps[8]?.getD undef = .pointer (some ⟨g8, 0, none⟩) := hh.kp 8 rfl rfl
        obtain ⟨⟨c0, c1, c2, c3⟩, -, -⟩ := (hh.st.1.1.2.2.2.2.1).c4
        have hJ := Lib.hid hh.st
        clear hh
        go_simp
        exact ⟨_, rfl, regs.bl_refl _, rfl, hJ.out⟩
       ·refine regs.StepOK.yes 28 true 107 rfl rfl (fun L a w1 hh => hh.dep 28 107 (by kernel_rfl) (by kernel_rfl)) fun L a w1 hh => ?_
        have h12 : a.tmps[12]?.getD undef = .int .i64 x := hh.kp 12 rfl rfl
        have hJ := Lib.hid hh.st
        clear hh
        go_simp
        exact ⟨_, rfl, regs.bl_refl _, rfl, hJ.out⟩
       ·refine regs.StepOK.yes 28 true 107 rfl rfl (fun L a w1 hh => hh.dep 28 107 (by kernel_rfl) (by kernel_rfl)) fun L a w1 hh => ?_
        have h14 : a.tmps[14]?.getD undef = .int .i64 y := hh.kp 14 rfl rfl
        have hJ := Lib.hid hh.st
        clear hh
        go_simp
        exact ⟨_, rfl, regs.bl_refl _, rfl, hJ.out⟩
       ·refine regs.StepOK.yes 28 true 107 rfl rfl (fun L a w1 hh => hh.dep 28 107 (by kernel_rfl) (by kernel_rfl)) fun L a w1 hh => ?_
        have h108 := hh.v 29 108 rfl (by kernel_rfl) (by kernel_rfl)
        have h109 := hh.v 30 109 rfl (by kernel_rfl) (by kernel_rfl)
        have h110 := hh.v 31 110 rfl (by kernel_rfl) (by kernel_rfl)
        have := True.intro
        have hJ := Lib.hid hh.st
        clear hh
        go_simp
        refine (bx_has (⟨ja, jb, jc, jd⟩ : Bx) x y w1).mono ?_
        rintro e w9 ⟨rfl, hb9⟩
        exact ⟨_, rfl, hb9, congrArg Value.bool (HJH.out rfl), CutsJ.below hJ.out hb9⟩
       ·refine regs.StepOK.yes 28 true 107 rfl rfl (fun L a w1 hh => hh.dep 28 107 (by kernel_rfl) (by kernel_rfl)) fun L a w1 hh => ?_
        have h111 := hh.v 32 111 rfl (by kernel_rfl) (by kernel_rfl)
        have hJ := Lib.hid hh.st
        clear hh
        go_simp
        exact ⟨_, rfl, regs.bl_refl _, rfl, hJ.out⟩
       ·refine regs.StepOK.yes 20 false 99 rfl rfl (fun L a w1 hh => hh.dep 20 99 (by kernel_rfl) (by kernel_rfl)) fun L a w1 hh => ?_
        have h107 := hh.v 28 107 rfl (by kernel_rfl) (by kernel_rfl)
        have h112 := hh.v 33 112 rfl (by kernel_rfl) (by kernel_rfl)
        have hJ := Lib.hid hh.st
        clear hh
        go_simp
        exact ⟨_, rfl, regs.bl_refl _, rfl, hJ.out⟩
       ·refine regs.StepOK.plain rfl fun L a w1 hh => ?_
        have h99 := hh.v 20 99 rfl (by kernel_rfl) (by kernel_rfl)
        have h113 := hh.v 34 113 rfl (by kernel_rfl) (by kernel_rfl)
        have hJ := Lib.hid hh.st
        clear hh
        go_simp
        exact ⟨_, rfl, regs.bl_refl _, rfl, hJ.out⟩
       intro L w8 val hL hJ hR hv
       have h114 : val 114 = .bool false := hv 35 114 (by kernel_rfl)
       have HJ8 := Lib.hid hJ
       have HR8 := Lib.hid hR
       clear hv hL hJ hR
       simp only [regs.putAll, List.map_cons, List.map_nil]
       rw [h114]
       generalize val 79 = v79
       generalize val 80 = v80
       generalize val 81 = v81
       generalize val 82 = v82
       generalize val 83 = v83
       generalize val 84 = v84
       generalize val 85 = v85
       generalize val 86 = v86
       generalize val 87 = v87
       generalize val 88 = v88
       generalize val 89 = v89
       generalize val 90 = v90
       generalize val 91 = v91
       generalize val 92 = v92
       generalize val 93 = v93
       generalize val 94 = v94
       generalize val 95 = v95
       generalize val 96 = v96
       generalize val 97 = v97
       generalize val 98 = v98
       generalize val 99 = v99
       generalize val 100 = v100
       generalize val 101 = v101
       generalize val 102 = v102
       generalize val 103 = v103
       generalize val 104 = v104
       generalize val 105 = v105
       generalize val 106 = v106
       generalize val 107 = v107
       generalize val 108 = v108
       generalize val 109 = v109
       generalize val 110 = v110
       generalize val 111 = v111
       generalize val 112 = v112
       generalize val 113 = v113
       simp only [Act.put, List.setIfInBounds_toArray, List.set_cons_zero, List.set_cons_succ]
       clear h114
       clear HJ7 HR8 HCH HJH HYA HYB HYD
       go_wp2_with (fail)
       go_roundw
       case rel => exact ⟨m + 1, by omega, by go_num, HJ8⟩
       case measure => simp [intOf]; omega
     ·cases yb
      ·go_upto_region 12 with fail
       refine regs.wp_region_seq (regs.bl) (fun _ wx => CutsJ w (⟨ra, rb, rc, rd⟩ : Bx) (⟨sa, sb, sc, sd⟩ : Bx) (⟨ta, tb, tc, td⟩ : Bx) (⟨ca, cb, cc, cd⟩ : Bx) (⟨ja, jb, jc, jd⟩ : Bx) g7 g8 (some ⟨g, off, none⟩) (some ⟨g2, off2, none⟩) lx ly wx) [79, 80, 81, 82, 83, 84, 85, 86, 87, 88, 89, 90, 91, 92, 93, 94, 95, 96, 97, 98, 99, 100, 101, 102, 103, 104, 105, 106, 107, 108, 109, 110, 111, 112, 113, 114] (by kernel_rfl) (fun _ => regs.bl_refl _) (regs.bl_trans) (fun i => (match i with
        | 0 => regs.Say.val _ (.agg #[.int .i64 ra, .int .i64 rb, .int .i64 rc, .int .i64 rd])
        | 1 => regs.Say.val _ (.int .i64 x)
        | 2 => regs.Say.val _ (.int .i64 y)
        | 3 => regs.Say.val _ (.bool true)
        | 4 => regs.Say.val _ (.bool true)
        | 5 => regs.Say.val _ (.bool false)
        | 6 => regs.Say.val _ (.bool false)
        | 7 => regs.Say.val _ (.agg #[.int .i64 ca, .int .i64 cb, .int .i64 cc, .int .i64 cd])
        | 8 => regs.Say.val _ (.int .i64 x)
        | 9 => regs.Say.val _ (.int .i64 y)
        | 10 => regs.Say.val _ (.bool false)
        | 11 => regs.Say.val _ (.bool true)
        | 12 => regs.Say.val _ (.bool true)
        | 13 => regs.Say.val _ (.bool false)
        | 14 => regs.Say.val _ (.bool false)
        | 15 => regs.Say.val _ (.bool false)
        | 16 => regs.Say.val _ (undef)
        | 17 => regs.Say.val _ (.bool false)
        | 18 => regs.Say.val _ (.bool false)
        | 19 => regs.Say.val _ (.bool false)
        | 20 => regs.Say.val _ (.bool false)
        | 21 => regs.Say.val _ (.bool true)
        | 22 => regs.Say.val _ (.bool true)
        | 23 => regs.Say.val _ (undef)
        | 24 => regs.Say.val _ (.bool true)
        | 25 => regs.Say.val _ (.bool true)
        | 26 => regs.Say.val _ (undef)
        | 27 => regs.Say.val _ (.bool true)
        | 28 => regs.Say.val _ (.bool true)
        | 29 => regs.Say.val _ (.agg #[.int .i64 ja, .int .i64 jb, .int .i64 jc, .int .i64 jd])
        | 30 => regs.Say.val _ (.int .i64 x)
        | 31 => regs.Say.val _ (.int .i64 y)
        | 32 => regs.Say.val _ (.bool true)
        | 33 => regs.Say.val _ (.bool false)
        | 34 => regs.Say.val _ (.bool false)
        | 35 => regs.Say.val _ (.bool false)
        | _ => regs.Say.any _ : regs.Say (regs.bl)).p) (fun _ => regs.Say.mono _) (by kernel_rfl) (HJ7.out) ⟨?_, ?_, ?_, ?_, ?_, ?_, ?_, ?_, ?_, ?_, ?_, ?_, ?_, ?_, ?_, ?_, ?_, ?_, ?_, ?_, ?_, ?_, ?_, ?_, ?_, ?_, ?_, ?_, ?_, ?_, ?_, ?_, ?_, ?_, ?_, ?_, trivial⟩ ?_
       ·refine regs.StepOK.plain rfl fun L a w1 hh => ?_
        have h3 : a.tmps[3]?.getD undef = .pointer (some ⟨w.heap.size, 0, none⟩) := hh.kp 3 rfl rfl
        obtain ⟨⟨c0, c1, c2, c3⟩, -, -⟩ := (hh.st.1.1.1).c4
        have hJ := Lib.hid hh.st
        clear hh
        go_simp
        exact ⟨_, rfl, regs.bl_refl _, rfl, hJ.out⟩
       ·refine regs.StepOK.plain rfl fun L a w1 hh => ?_
        have h12 : a.tmps[12]?.getD undef = .int .i64 x := hh.kp 12 rfl rfl
        have hJ := Lib.hid hh.st
        clear hh
        go_simp
        exact ⟨_, rfl, regs.bl_refl _, rfl, hJ.out⟩
       ·refine regs.StepOK.plain rfl fun L a w1 hh => ?_
        have h14 : a.tmps[14]?.getD undef = .int .i64 y := hh.kp 14 rfl rfl
        have hJ := Lib.hid hh.st
        clear hh
        go_simp
        exact ⟨_, rfl, regs.bl_refl _, rfl, hJ.out⟩
       ·refine regs.StepOK.plain rfl fun L a w1 hh => ?_
        have h79 := hh.v 0 79 rfl (by kernel_rfl) (by kernel_rfl)
        have h80 := hh.v 1 80 rfl (by kernel_rfl) (by kernel_rfl)
        have h81 := hh.v 2 81 rfl (by kernel_rfl) (by kernel_rfl)
        have := True.intro
        have hJ := Lib.hid hh.st
        clear hh
        go_simp
        refine (bx_has (⟨ra, rb, rc, rd⟩ : Bx) x y w1).mono ?_
        rintro e w9 ⟨rfl, hb9⟩
        exact ⟨_, rfl, hb9, congrArg Value.bool HYA.out, CutsJ.below hJ.out hb9⟩
       ·refine regs.StepOK.plain rfl fun L a w1 hh => ?_
        have h15 : a.tmps[15]?.getD undef = .bool true := hh.kp 15 rfl rfl
        have hJ := Lib.hid hh.st
        clear hh
        go_simp
        exact ⟨_, rfl, regs.bl_refl _, rfl, hJ.out⟩
       ·refine regs.StepOK.plain rfl fun L a w1 hh => ?_
        have h82 := hh.v 3 82 rfl (by kernel_rfl) (by kernel_rfl)
        have h83 := hh.v 4 83 rfl (by kernel_rfl) (by kernel_rfl)
        have hJ := Lib.hid hh.st
        clear hh
        go_simp
        exact ⟨_, rfl, regs.bl_refl _, rfl, hJ.out⟩
       ·refine regs.StepOK.plain rfl fun L a w1 hh => ?_
        have h84 := hh.v 5 84 rfl (by kernel_rfl) (by kernel_rfl)
        have hJ := Lib.hid hh.st
        clear hh
        go_simp
        exact ⟨_, rfl, regs.bl_refl _, rfl, hJ.out⟩
       ·refine regs.StepOK.yes 6 false 85 rfl rfl (fun L a w1 hh => hh.dep 6 85 (by kernel_rfl) (by kernel_rfl)) fun L a w1 hh => ?_
        have h7 : a.tmps[7]?.getD undef = .pointer (some ⟨g7, 0, none⟩) := hh.kp 7 rfl rfl
        obtain ⟨⟨c0, c1, c2, c3⟩, -, -⟩ := (hh.st.1.1.2.2.2.1).c4
        have hJ := Lib.hid hh.st
        clear hh
        go_simp
        exact ⟨_, rfl, regs.bl_refl _, rfl, hJ.out⟩
       ·refine regs.StepOK.yes 6 false 85 rfl rfl (fun L a w1 hh => hh.dep 6 85 (by kernel_rfl) (by kernel_rfl)) fun L a w1 hh => ?_
        have h12 : a.tmps[12]?.getD undef = .int .i64 x := hh.kp 12 rfl rfl
        have hJ := Lib.hid hh.st
        clear hh
        go_simp
        exact ⟨_, rfl, regs.bl_refl _, rfl, hJ.out⟩
       ·refine regs.StepOK.yes 6 false 85 rfl rfl (fun L a w1 hh => hh.dep 6 85 (by kernel_rfl) (by kernel_rfl)) fun L a w1 hh => ?_
        have h14 : a.tmps[14]?.getD undef = .int .i64 y := hh.kp 14 rfl rfl
        have hJ := Lib.hid hh.st
        clear hh
        go_simp
        exact ⟨_, rfl, regs.bl_refl _, rfl, hJ.out⟩
       ·refine regs.StepOK.yes 6 false 85 rfl rfl (fun L a w1 hh => hh.dep 6 85 (by kernel_rfl) (by kernel_rfl)) fun L a w1 hh => ?_
        have h86 := hh.v 7 86 rfl (by kernel_rfl) (by kernel_rfl)
        have h87 := hh.v 8 87 rfl (by kernel_rfl) (by kernel_rfl)
        have h88 := hh.v 9 88 rfl (by kernel_rfl) (by kernel_rfl)
        have := True.intro
        have hJ := Lib.hid hh.st
        clear hh
        go_simp
        refine (bx_has (⟨ca, cb, cc, cd⟩ : Bx) x y w1).mono ?_
        rintro e w9 ⟨rfl, hb9⟩
        exact ⟨_, rfl, hb9, congrArg Value.bool HCH.out, CutsJ.below hJ.out hb9⟩
       ·refine regs.StepOK.yes 6 false 85 rfl rfl (fun L a w1 hh => hh.dep 6 85 (by kernel_rfl) (by kernel_rfl)) fun L a w1 hh => ?_
        have h15 : a.tmps[15]?.getD undef = .bool true := hh.kp 15 rfl rfl
        have hJ := Lib.hid hh.st
        clear hh
        go_simp
        exact ⟨_, rfl, regs.bl_refl _, rfl, hJ.out⟩
       ·refine regs.StepOK.yes 6 false 85 rfl rfl (fun L a w1 hh => hh.dep 6 85 (by kernel_rfl) (by kernel_rfl)) fun L a w1 hh => ?_
        have h90 := hh.v 11 90 rfl (by kernel_rfl) (by kernel_rfl)
        have hJ := Lib.hid hh.st
        clear hh
        go_simp
        exact ⟨_, rfl, regs.bl_refl _, rfl, hJ.out⟩
       ·refine regs.StepOK.yes 12 true 91 rfl rfl (fun L a w1 hh => hh.dep 12 91 (by kernel_rfl) (by kernel_rfl)) fun L a w1 hh => ?_
        have h16 : a.tmps[16]?.getD undef = .bool false := hh.kp 16 rfl rfl
        have hJ := Lib.hid hh.st
        clear hh
        go_simp
        exact ⟨_, rfl, regs.bl_refl _, rfl, hJ.out⟩
       ·refine regs.StepOK.yes 6 false 85 rfl rfl (fun L a w1 hh => hh.dep 6 85 (by kernel_rfl) (by kernel_rfl)) fun L a w1 hh => ?_
        have h91 := hh.v 12 91 rfl (by kernel_rfl) (by kernel_rfl)
        have h92 := hh.v 13 92 rfl (by kernel_rfl) (by kernel_rfl)
        have hJ := Lib.hid hh.st
        clear hh
        go_simp
        exact ⟨_, rfl, regs.bl_refl _, rfl, hJ.out⟩
       ·refine regs.StepOK.yes 6 false 85 rfl rfl (fun L a w1 hh => hh.dep 6 85 (by kernel_rfl) (by kernel_rfl)) fun L a w1 hh => ?_
        have h93 := hh.v 14 93 rfl (by kernel_rfl) (by kernel_rfl)
        have hJ := Lib.hid hh.st
        clear hh
        go_simp
        exact ⟨_, rfl, regs.bl_refl _, rfl, hJ.out⟩
       ·refine regs.StepOK.no 15 true 94 rfl rfl (fun L a w1 hh => ?_) fun L a w1 hh => ⟨rfl, hh.st⟩
        exact hh.dep 15 94 (by kernel_rfl) (by kernel_rfl)
       ·refine regs.StepOK.yes 6 false 85 rfl rfl (fun L a w1 hh => hh.dep 6 85 (by kernel_rfl) (by kernel_rfl)) fun L a w1 hh => ?_
        have h94 := hh.v 15 94 rfl (by kernel_rfl) (by kernel_rfl)
        have hJ := Lib.hid hh.st
        clear hh
        go_simp
        exact ⟨_, rfl, regs.bl_refl _, rfl, hJ.out⟩
       ·refine regs.StepOK.yes 6 false 85 rfl rfl (fun L a w1 hh => hh.dep 6 85 (by kernel_rfl) (by kernel_rfl)) fun L a w1 hh => ?_
        have h89 := hh.v 10 89 rfl (by kernel_rfl) (by kernel_rfl)
        have h96 := hh.v 17 96 rfl (by kernel_rfl) (by kernel_rfl)
        have hJ := Lib.hid hh.st
        clear hh
        go_simp
        exact ⟨_, rfl, regs.bl_refl _, rfl, hJ.out⟩
       ·refine regs.StepOK.plain rfl fun L a w1 hh => ?_
        have h85 := hh.v 6 85 rfl (by kernel_rfl) (by kernel_rfl)
        have h97 := hh.v 18 97 rfl (by kernel_rfl) (by kernel_rfl)
        have hJ := Lib.hid hh.st
        clear hh
        go_simp
        exact ⟨_, rfl, regs.bl_refl _, rfl, hJ.out⟩
       ·refine regs.StepOK.plain rfl fun L a w1 hh => ?_
        have h98 := hh.v 19 98 rfl (by kernel_rfl) (by kernel_rfl)
        have hJ := Lib.hid hh.st
        clear hh
        go_simp
        exact ⟨_, rfl, regs.bl_refl _, rfl, hJ.out⟩
       ·refine regs.StepOK.yes 20 false 99 rfl rfl (fun L a w1 hh => hh.dep 20 99 (by kernel_rfl) (by kernel_rfl)) fun L a w1 hh => ?_
        have h15 : a.tmps[15]?.getD undef = .bool true := hh.kp 15 rfl rfl
        have hJ := Lib.hid hh.st
        clear hh
        go_simp
        exact ⟨_, rfl, regs.bl_refl _, rfl, hJ.out⟩
       ·refine regs.StepOK.yes 20 false 99 rfl rfl (fun L a w1 hh => hh.dep 20 99 (by kernel_rfl) (by kernel_rfl)) fun L a w1 hh => ?_
        have h100 := hh.v 21 100 rfl (by kernel_rfl) (by kernel_rfl)
        have hJ := Lib.hid hh.st
        clear hh
        go_simp
        exact ⟨_, rfl, regs.bl_refl _, rfl, hJ.out⟩
       ·refine regs.StepOK.no 22 false 101 rfl rfl (fun L a w1 hh => ?_) fun L a w1 hh => ⟨rfl, hh.st⟩
        exact hh.dep 22 101 (by kernel_rfl) (by kernel_rfl)
       ·refine regs.StepOK.yes 20 false 99 rfl rfl (fun L a w1 hh => hh.dep 20 99 (by kernel_rfl) (by kernel_rfl)) fun L a w1 hh => ?_
        have h101 := hh.v 22 101 rfl (by kernel_rfl) (by kernel_rfl)
        have hJ := Lib.hid hh.st
        clear hh
        go_simp
        exact ⟨_, rfl, regs.bl_refl _, rfl, hJ.out⟩
       ·refine regs.StepOK.yes 20 false 99 rfl rfl (fun L a w1 hh => hh.dep 20 99 (by kernel_rfl) (by kernel_rfl)) fun L a w1 hh => ?_
        have h103 := hh.v 24 103 rfl (by kernel_rfl) (by kernel_rfl)
        have hJ := Lib.hid hh.st
        clear hh
        go_simp
        exact ⟨_, rfl, regs.bl_refl _, rfl, hJ.out⟩
       ·refine regs.StepOK.no 25 false 104 rfl rfl (fun L a w1 hh => ?_) fun L a w1 hh => ⟨rfl, hh.st⟩
        exact hh.dep 25 104 (by kernel_rfl) (by kernel_rfl)
       ·refine regs.StepOK.yes 20 false 99 rfl rfl (fun L a w1 hh => hh.dep 20 99 (by kernel_rfl) (by kernel_rfl)) fun L a w1 hh => ?_
        have h104 := hh.v 25 104 rfl (by kernel_rfl) (by kernel_rfl)
        have hJ := Lib.hid hh.st
        clear hh
        go_simp
        exact ⟨_, rfl, regs.bl_refl _, rfl, hJ.out⟩
       ·refine regs.StepOK.yes 20 false 99 rfl rfl (fun L a w1 hh => hh.dep 20 99 (by kernel_rfl) (by kernel_rfl)) fun L a w1 hh => ?_
        have h106 := hh.v 27 106 rfl (by kernel_rfl) (by kernel_rfl)
        have hJ := Lib.hid hh.st
        clear hh
        go_simp
        exact ⟨_, rfl, regs.bl_refl _, rfl, hJ.out⟩
       ·refine regs.StepOK.yes 28 true 107 rfl rfl (fun L a w1 hh => hh.dep 28 107 (by kernel_rfl) (by kernel_rfl)) fun L a w1 hh => ?_
        have h8 : a.tmps[8]?.getD undef = .pointer (some ⟨g8, 0, none⟩) := hh.kp 8 rfl rfl
        obtain ⟨⟨c0, c1, c2, c3⟩, -, -⟩ := (hh.st.1.1.2.2.2.2.1).c4
        have hJ := Lib.hid hh.st
        clear hh
        go_simp
        exact ⟨_, rfl, regs.bl_refl _, rfl, hJ.out⟩
       ·refine regs.StepOK.yes 28 true 107 rfl rfl (fun L a w1 hh => hh.dep 28 107 (by kernel_rfl) (by kernel_rfl)) fun L a w1 hh => ?_
        have h12 : a.tmps[12]?.getD undef = .int .i64 x := hh.kp 12 rfl rfl
        have hJ := Lib.hid hh.st
        clear hh
        go_simp
        exact ⟨_, rfl, regs.bl_refl _, rfl, hJ.out⟩
       ·refine regs.StepOK.yes 28 true 107 rfl rfl (fun L a w1 hh => hh.dep 28 107 (by kernel_rfl) (by kernel_rfl)) fun L a w1 hh => ?_
        have h14 : a.tmps[14]?.getD undef = .int .i64 y := hh.kp 14 rfl rfl
        have hJ := Lib.hid hh.st
        clear hh
        go_simp
        exact ⟨_, rfl, regs.bl_refl _, rfl, hJ.out⟩
       ·refine regs.StepOK.yes 28 true 107 rfl rfl (fun L a w1 hh => hh.dep 28 107 (by kernel_rfl) (by kernel_rfl)) fun L a w1 hh => ?_
        have h108 := hh.v 29 108 rfl (by kernel_rfl) (by kernel_rfl)
        have h109 := hh.v 30 109 rfl (by kernel_rfl) (by kernel_rfl)
        have h110 := hh.v 31 110 rfl (by kernel_rfl) (by kernel_rfl)
        have := True.intro
        have hJ := Lib.hid hh.st
        clear hh
        go_simp
        refine (bx_has (⟨ja, jb, jc, jd⟩ : Bx) x y w1).mono ?_
        rintro e w9 ⟨rfl, hb9⟩
        exact ⟨_, rfl, hb9, congrArg Value.bool (HJH.out rfl), CutsJ.below hJ.out hb9⟩
       ·refine regs.StepOK.yes 28 true 107 rfl rfl (fun L a w1 hh => hh.dep 28 107 (by kernel_rfl) (by kernel_rfl)) fun L a w1 hh => ?_
        have h111 := hh.v 32 111 rfl (by kernel_rfl) (by kernel_rfl)
        have hJ := Lib.hid hh.st
        clear hh
        go_simp
        exact ⟨_, rfl, regs.bl_refl _, rfl, hJ.out⟩
       ·refine regs.StepOK.yes 20 false 99 rfl rfl (fun L a w1 hh => hh.dep 20 99 (by kernel_rfl) (by kernel_rfl)) fun L a w1 hh => ?_
        have h107 := hh.v 28 107 rfl (by kernel_rfl) (by kernel_rfl)
        have h112 := hh.v 33 112 rfl (by kernel_rfl) (by kernel_rfl)
        have hJ := Lib.hid hh.st
        clear hh
        go_simp
        exact ⟨_, rfl, regs.bl_refl _, rfl, hJ.out⟩
       ·refine regs.StepOK.plain rfl fun L a w1 hh => ?_
        have h99 := hh.v 20 99 rfl (by kernel_rfl) (by kernel_rfl)
        have h113 := hh.v 34 113 rfl (by kernel_rfl) (by kernel_rfl)
        have hJ := Lib.hid hh.st
        clear hh
        go_simp
        exact ⟨_, rfl, regs.bl_refl _, rfl, hJ.out⟩
       intro L w8 val hL hJ hR hv
       have h114 : val 114 = .bool false := hv 35 114 (by kernel_rfl)
       have HJ8 := Lib.hid hJ
       have HR8 := Lib.hid hR
       clear hv hL hJ hR
       simp only [regs.putAll, List.map_cons, List.map_nil]
       rw [h114]
       generalize val 79 = v79
       generalize val 80 = v80
       generalize val 81 = v81
       generalize val 82 = v82
       generalize val 83 = v83
       generalize val 84 = v84
       generalize val 85 = v85
       generalize val 86 = v86
       generalize val 87 = v87
       generalize val 88 = v88
       generalize val 89 = v89
       generalize val 90 = v90
       generalize val 91 = v91
       generalize val 92 = v92
       generalize val 93 = v93
       generalize val 94 = v94
       generalize val 95 = v95
       generalize val 96 = v96
       generalize val 97 = v97
       generalize val 98 = v98
       generalize val 99 = v99
       generalize val 100 = v100
       generalize val 101 = v101
       generalize val 102 = v102
       generalize val 103 = v103
       generalize val 104 = v104
       generalize val 105 = v105
       generalize val 106 = v106
       generalize val 107 = v107
       generalize val 108 = v108
       generalize val 109 = v109
       generalize val 110 = v110
       generalize val 111 = v111
       generalize val 112 = v112
       generalize val 113 = v113
       simp only [Act.put, List.setIfInBounds_toArray, List.set_cons_zero, List.set_cons_succ]
       clear h114
       clear HJ7 HR8 HCH HJH HYA HYB HYD
       go_wp2_with (fail)
       go_roundw
       case rel => exact ⟨m + 1, by omega, by go_num, HJ8⟩
       case measure => simp [intOf]; omega
      ·go_upto_region 12 with fail
       refine regs.wp_region_seq (regs.bl) (fun _ wx => CutsJ w (⟨ra, rb, rc, rd⟩ : Bx) (⟨sa, sb, sc, sd⟩ : Bx) (⟨ta, tb, tc, td⟩ : Bx) (⟨ca, cb, cc, cd⟩ : Bx) (⟨ja, jb, jc, jd⟩ : Bx) g7 g8 (some ⟨g, off, none⟩) (some ⟨g2, off2, none⟩) lx ly wx) [79, 80, 81, 82, 83, 84, 85, 86, 87, 88, 89, 90, 91, 92, 93, 94, 95, 96, 97, 98, 99, 100, 101, 102, 103, 104, 105, 106, 107, 108, 109, 110, 111, 112, 113, 114] (by kernel_rfl) (fun _ => regs.bl_refl _) (regs.bl_trans) (fun i => (match i with
        | 0 => regs.Say.val _ (.agg #[.int .i64 ra, .int .i64 rb, .int .i64 rc, .int .i64 rd])
        | 1 => regs.Say.val _ (.int .i64 x)
        | 2 => regs.Say.val _ (.int .i64 y)
        | 3 => regs.Say.val _ (.bool true)
        | 4 => regs.Say.val _ (.bool true)
        | 5 => regs.Say.val _ (.bool false)
        | 6 => regs.Say.val _ (.bool false)
        | 7 => regs.Say.val _ (.agg #[.int .i64 ca, .int .i64 cb, .int .i64 cc, .int .i64 cd])
        | 8 => regs.Say.val _ (.int .i64 x)
        | 9 => regs.Say.val _ (.int .i64 y)
        | 10 => regs.Say.val _ (.bool yd)
        | 11 => regs.Say.val _ (.bool true)
        | 12 => regs.Say.val _ (.bool true)
        | 13 => regs.Say.val _ (.bool true)
        | 14 => regs.Say.val _ (.bool true)
        | 15 => regs.Say.val _ (.bool true)
        | 16 => regs.Say.val _ (.bool yd)
        | 17 => regs.Say.val _ (.bool yd)
        | 18 => regs.Say.val _ (.bool false)
        | 19 => regs.Say.val _ (.bool false)
        | 20 => regs.Say.val _ (.bool false)
        | 21 => regs.Say.val _ (.bool true)
        | 22 => regs.Say.val _ (.bool true)
        | 23 => regs.Say.val _ (undef)
        | 24 => regs.Say.val _ (.bool true)
        | 25 => regs.Say.val _ (.bool true)
        | 26 => regs.Say.val _ (undef)
        | 27 => regs.Say.val _ (.bool true)
        | 28 => regs.Say.val _ (.bool true)
        | 29 => regs.Say.val _ (.agg #[.int .i64 ja, .int .i64 jb, .int .i64 jc, .int .i64 jd])
        | 30 => regs.Say.val _ (.int .i64 x)
        | 31 => regs.Say.val _ (.int .i64 y)
        | 32 => regs.Say.val _ (.bool true)
        | 33 => regs.Say.val _ (.bool false)
        | 34 => regs.Say.val _ (.bool false)
        | 35 => regs.Say.val _ (.bool false)
        | _ => regs.Say.any _ : regs.Say (regs.bl)).p) (fun _ => regs.Say.mono _) (by kernel_rfl) (HJ7.out) ⟨?_, ?_, ?_, ?_, ?_, ?_, ?_, ?_, ?_, ?_, ?_, ?_, ?_, ?_, ?_, ?_, ?_, ?_, ?_, ?_, ?_, ?_, ?_, ?_, ?_, ?_, ?_, ?_, ?_, ?_, ?_, ?_, ?_, ?_, ?_, ?_, trivial⟩ ?_
       ·refine regs.StepOK.plain rfl fun L a w1 hh => ?_
        have h3 : a.tmps[3]?.getD undef = .pointer (some ⟨w.heap.size, 0, none⟩) := hh.kp 3 rfl rfl
        obtain ⟨⟨c0, c1, c2, c3⟩, -, -⟩ := (hh.st.1.1.1).c4
        have hJ := Lib.hid hh.st
        clear hh
        go_simp
        exact ⟨_, rfl, regs.bl_refl _, rfl, hJ.out⟩
       ·refine regs.StepOK.plain rfl fun L a w1 hh => ?_
        have h12 : a.tmps[12]?.getD undef = .int .i64 x := hh.kp 12 rfl rfl
        have hJ := Lib.hid hh.st
        clear hh
        go_simp
        exact ⟨_, rfl, regs.bl_refl _, rfl, hJ.out⟩
       ·refine regs.StepOK.plain rfl fun L a w1 hh => ?_
        have h14 : a.tmps[14]?.getD undef = .int .i64 y := hh.kp 14 rfl rfl
        have hJ := Lib.hid hh.st
        clear hh
        go_simp
        exact ⟨_, rfl, regs.bl_refl _, rfl, hJ.out⟩
       ·refine regs.StepOK.plain rfl fun L a w1 hh => ?_
        have h79 := hh.v 0 79 rfl (by kernel_rfl) (by kernel_rfl)
        have h80 := hh.v 1 80 rfl (by kernel_rfl) (by kernel_rfl)
        have h81 := hh.v 2 81 rfl (by kernel_rfl) (by kernel_rfl)
        have := True.intro
        have hJ := Lib.hid hh.st
        clear hh
        go_simp
        refine (bx_has (⟨ra, rb, rc, rd⟩ : Bx) x y w1).mono ?_
        rintro e w9 ⟨rfl, hb9⟩
        exact ⟨_, rfl, hb9, congrArg Value.bool HYA.out, CutsJ.below hJ.out hb9⟩
       ·refine regs.StepOK.plain rfl fun L a w1 hh => ?_
        have h15 : a.tmps[15]?.getD undef = .bool true := hh.kp 15 rfl rfl
        have hJ := Lib.hid hh.st
        clear hh
        go_simp
        exact ⟨_, rfl, regs.bl_refl _, rfl, hJ.out⟩
       ·refine regs.StepOK.plain rfl fun L a w1 hh => ?_
        have h82 := hh.v 3 82 rfl (by kernel_rfl) (by kernel_rfl)
        have h83 := hh.v 4 83 rfl (by kernel_rfl) (by kernel_rfl)
        have hJ := Lib.hid hh.st
        clear hh
        go_simp
        exact ⟨_, rfl, regs.bl_refl _, rfl, hJ.out⟩
       ·refine regs.StepOK.plain rfl fun L a w1 hh => ?_
        have h84 := hh.v 5 84 rfl (by kernel_rfl) (by kernel_rfl)
        have hJ := Lib.hid hh.st
        clear hh
        go_simp
        exact ⟨_, rfl, regs.bl_refl _, rfl, hJ.out⟩
       ·refine regs.StepOK.yes 6 false 85 rfl rfl (fun L a w1 hh => hh.dep 6 85 (by kernel_rfl) (by kernel_rfl)) fun L a w1 hh => ?_
        have h7 : a.tmps[7]?.getD undef = .pointer (some ⟨g7, 0, none⟩) := hh.kp 7 rfl rfl
        obtain ⟨⟨c0, c1, c2, c3⟩, -, -⟩ := (hh.st.1.1.2.2.2.1).c4
        have hJ := Lib.hid hh.st
        clear hh
        go_simp
        exact ⟨_, rfl, regs.bl_refl _, rfl, hJ.out⟩
       ·refine regs.StepOK.yes 6 false 85 rfl rfl (fun L a w1 hh => hh.dep 6 85 (by kernel_rfl) (by kernel_rfl)) fun L a w1 hh => ?_
        have h12 : a.tmps[12]?.getD undef = .int .i64 x := hh.kp 12 rfl rfl
        have hJ := Lib.hid hh.st
        clear hh
        go_simp
        exact ⟨_, rfl, regs.bl_refl _, rfl, hJ.out⟩
       ·refine regs.StepOK.yes 6 false 85 rfl rfl (fun L a w1 hh => hh.dep 6 85 (by kernel_rfl) (by kernel_rfl)) fun L a w1 hh => ?_
        have h14 : a.tmps[14]?.getD undef = .int .i64 y := hh.kp 14 rfl rfl
        have hJ := Lib.hid hh.st
        clear hh
        go_simp
        exact ⟨_, rfl, regs.bl_refl _, rfl, hJ.out⟩
       ·refine regs.StepOK.yes 6 false 85 rfl rfl (fun L a w1 hh => hh.dep 6 85 (by kernel_rfl) (by kernel_rfl)) fun L a w1 hh => ?_
        have h86 := hh.v 7 86 rfl (by kernel_rfl) (by kernel_rfl)
        have h87 := hh.v 8 87 rfl (by kernel_rfl) (by kernel_rfl)
        have h88 := hh.v 9 88 rfl (by kernel_rfl) (by kernel_rfl)
        have := True.intro
        have hJ := Lib.hid hh.st
        clear hh
        go_simp
        refine (bx_has (⟨ca, cb, cc, cd⟩ : Bx) x y w1).mono ?_
        rintro e w9 ⟨rfl, hb9⟩
        exact ⟨_, rfl, hb9, congrArg Value.bool HCH.out, CutsJ.below hJ.out hb9⟩
       ·refine regs.StepOK.yes 6 false 85 rfl rfl (fun L a w1 hh => hh.dep 6 85 (by kernel_rfl) (by kernel_rfl)) fun L a w1 hh => ?_
        have h15 : a.tmps[15]?.getD undef = .bool true := hh.kp 15 rfl rfl
        have hJ := Lib.hid hh.st
        clear hh
        go_simp
        exact ⟨_, rfl, regs.bl_refl _, rfl, hJ.out⟩
       ·refine regs.StepOK.yes 6 false 85 rfl rfl (fun L a w1 hh => hh.dep 6 85 (by kernel_rfl) (by kernel_rfl)) fun L a w1 hh => ?_
        have h90 := hh.v 11 90 rfl (by kernel_rfl) (by kernel_rfl)
        have hJ := Lib.hid hh.st
        clear hh
        go_simp
        exact ⟨_, rfl, regs.bl_refl _, rfl, hJ.out⟩
       ·refine regs.StepOK.yes 12 true 91 rfl rfl (fun L a w1 hh => hh.dep 12 91 (by kernel_rfl) (by kernel_rfl)) fun L a w1 hh => ?_
        have h16 : a.tmps[16]?.getD undef = .bool true := hh.kp 16 rfl rfl
        have hJ := Lib.hid hh.st
        clear hh
        go_simp
        exact ⟨_, rfl, regs.bl_refl _, rfl, hJ.out⟩
       ·refine regs.StepOK.yes 6 false 85 rfl rfl (fun L a w1 hh => hh.dep 6 85 (by kernel_rfl) (by kernel_rfl)) fun L a w1 hh => ?_
        have h91 := hh.v 12 91 rfl (by kernel_rfl) (by kernel_rfl)
        have h92 := hh.v 13 92 rfl (by kernel_rfl) (by kernel_rfl)
        have hJ := Lib.hid hh.st
        clear hh
        go_simp
        exact ⟨_, rfl, regs.bl_refl _, rfl, hJ.out⟩
       ·refine regs.StepOK.yes 6 false 85 rfl rfl (fun L a w1 hh => hh.dep 6 85 (by kernel_rfl) (by kernel_rfl)) fun L a w1 hh => ?_
        have h93 := hh.v 14 93 rfl (by kernel_rfl) (by kernel_rfl)
        have hJ := Lib.hid hh.st
        clear hh
        go_simp
        exact ⟨_, rfl, regs.bl_refl _, rfl, hJ.out⟩
       ·refine regs.StepOK.yes 15 true 94 rfl rfl (fun L a w1 hh => hh.dep 15 94 (by kernel_rfl) (by kernel_rfl)) fun L a w1 hh => ?_
        have h17 : a.tmps[17]?.getD undef = .bool yd := hh.kp 17 rfl rfl
        have hJ := Lib.hid hh.st
        clear hh
        go_simp
        exact ⟨_, rfl, regs.bl_refl _, rfl, hJ.out⟩
       ·refine regs.StepOK.yes 6 false 85 rfl rfl (fun L a w1 hh => hh.dep 6 85 (by kernel_rfl) (by kernel_rfl)) fun L a w1 hh => ?_
        have h94 := hh.v 15 94 rfl (by kernel_rfl) (by kernel_rfl)
        have h95 := hh.v 16 95 rfl (by kernel_rfl) (by kernel_rfl)
        have hJ := Lib.hid hh.st
        clear hh
        go_simp
        exact ⟨_, rfl, regs.bl_refl _, rfl, hJ.out⟩
       ·refine regs.StepOK.yes 6 false 85 rfl rfl (fun L a w1 hh => hh.dep 6 85 (by kernel_rfl) (by kernel_rfl)) fun L a w1 hh => ?_
        have h89 := hh.v 10 89 rfl (by kernel_rfl) (by kernel_rfl)
        have h96 := hh.v 17 96 rfl (by kernel_rfl) (by kernel_rfl)
        have hJ := Lib.hid hh.st
        clear hh
        go_simp
        exact ⟨_, rfl, regs.bl_refl _, rfl, hJ.out⟩
       ·refine regs.StepOK.plain rfl fun L a w1 hh => ?_
        have h85 := hh.v 6 85 rfl (by kernel_rfl) (by kernel_rfl)
        have h97 := hh.v 18 97 rfl (by kernel_rfl) (by kernel_rfl)
        have hJ := Lib.hid hh.st
        clear hh
        go_simp
        exact ⟨_, rfl, regs.bl_refl _, rfl, hJ.out⟩
       ·refine regs.StepOK.plain rfl fun L a w1 hh => ?_
        have h98 := hh.v 19 98 rfl (by kernel_rfl) (by kernel_rfl)
        have hJ := Lib.hid hh.st
        clear hh
        go_simp
        exact ⟨_, rfl, regs.bl_refl _, rfl, hJ.out⟩
       ·refine regs.StepOK.yes 20 false 99 rfl rfl (fun L a w1 hh => hh.dep 20 99 (by kernel_rfl) (by kernel_rfl)) fun L a w1 hh => ?_
        have h15 : a.tmps[15]?.getD undef = .bool true := hh.kp 15 rfl rfl
        have hJ := Lib.hid hh.st
        clear hh
        go_simp
        exact ⟨_, rfl, regs.bl_refl _, rfl, hJ.out⟩
       ·refine regs.StepOK.yes 20 false 99 rfl rfl (fun L a w1 hh => hh.dep 20 99 (by kernel_rfl) (by kernel_rfl)) fun L a w1 hh => ?_
        have h100 := hh.v 21 100 rfl (by kernel_rfl) (by kernel_rfl)
        have hJ := Lib.hid hh.st
        clear hh
        go_simp
        exact ⟨_, rfl, regs.bl_refl _, rfl, hJ.out⟩
       ·refine regs.StepOK.no 22 false 101 rfl rfl (fun L a w1 hh => ?_) fun L a w1 hh => ⟨rfl, hh.st⟩
        exact hh.dep 22 101 (by kernel_rfl) (by kernel_rfl)
       ·refine regs.StepOK.yes 20 false 99 rfl rfl (fun L a w1 hh => hh.dep 20 99 (by kernel_rfl) (by kernel_rfl)) fun L a w1 hh => ?_
        have h101 := hh.v 22 101 rfl (by kernel_rfl) (by kernel_rfl)
        have hJ := Lib.hid hh.st
        clear hh
        go_simp
        exact ⟨_, rfl, regs.bl_refl _, rfl, hJ.out⟩
       ·refine regs.StepOK.yes 20 false 99 rfl rfl (fun L a w1 hh => hh.dep 20 99 (by kernel_rfl) (by kernel_rfl)) fun L a w1 hh => ?_
        have h103 := hh.v 24 103 rfl (by kernel_rfl) (by kernel_rfl)
        have hJ := Lib.hid hh.st
        clear hh
        go_simp
        exact ⟨_, rfl, regs.bl_refl _, rfl, hJ.out⟩
       ·refine regs.StepOK.no 25 false 104 rfl rfl (fun L a w1 hh => ?_) fun L a w1 hh => ⟨rfl, hh.st⟩
        exact hh.dep 25 104 (by kernel_rfl) (by kernel_rfl)
       ·refine regs.StepOK.yes 20 false 99 rfl rfl (fun L a w1 hh => hh.dep 20 99 (by kernel_rfl) (by kernel_rfl)) fun L a w1 hh => ?_
        have h104 := hh.v 25 104 rfl (by kernel_rfl) (by kernel_rfl)
        have hJ := Lib.hid hh.st
        clear hh
        go_simp
        exact ⟨_, rfl, regs.bl_refl _, rfl, hJ.out⟩
       ·refine regs.StepOK.yes 20 false 99 rfl rfl (fun L a w1 hh => hh.dep 20 99 (by kernel_rfl) (by kernel_rfl)) fun L a w1 hh => ?_
        have h106 := hh.v 27 106 rfl (by kernel_rfl) (by kernel_rfl)
        have hJ := Lib.hid hh.st
        clear hh
        go_simp
        exact ⟨_, rfl, regs.bl_refl _, rfl, hJ.out⟩
       ·refine regs.StepOK.yes 28 true 107 rfl rfl (fun L a w1 hh => hh.dep 28 107 (by kernel_rfl) (by kernel_rfl)) fun L a w1 hh => ?_
        have h8 : a.tmps[8]?.getD undef = .pointer (some ⟨g8, 0, none⟩) := hh.kp 8 rfl rfl
        obtain ⟨⟨c0, c1, c2, c3⟩, -, -⟩ := (hh.st.1.1.2.2.2.2.1).c4
        have hJ := Lib.hid hh.st
        clear hh
        go_simp
        exact ⟨_, rfl, regs.bl_refl _, rfl, hJ.out⟩
       ·refine regs.StepOK.yes 28 true 107 rfl rfl (fun L a w1 hh => hh.dep 28 107 (by kernel_rfl) (by kernel_rfl)) fun L a w1 hh => ?_
        have h12 : a.tmps[12]?.getD undef = .int .i64 x := hh.kp 12 rfl rfl
        have hJ := Lib.hid hh.st
        clear hh
        go_simp
        exact ⟨_, rfl, regs.bl_refl _, rfl, hJ.out⟩
       ·refine regs.StepOK.yes 28 true 107 rfl rfl (fun L a w1 hh => hh.dep 28 107 (by kernel_rfl) (by kernel_rfl)) fun L a w1 hh => ?_
        have h14 : a.tmps[14]?.getD undef = .int .i64 y := hh.kp 14 rfl rfl
        have hJ := Lib.hid hh.st
        clear hh
        go_simp
        exact ⟨_, rfl, regs.bl_refl _, rfl, hJ.out⟩
       ·refine regs.StepOK.yes 28 true 107 rfl rfl (fun L a w1 hh => hh.dep 28 107 (by kernel_rfl) (by kernel_rfl)) fun L a w1 hh => ?_
        have h108 := hh.v 29 108 rfl (by kernel_rfl) (by kernel_rfl)
        have h109 := hh.v 30 109 rfl (by kernel_rfl) (by kernel_rfl)
        have h110 := hh.v 31 110 rfl (by kernel_rfl) (by kernel_rfl)
        have := True.intro
        have hJ := Lib.hid hh.st
        clear hh
        go_simp
        refine (bx_has (⟨ja, jb, jc, jd⟩ : Bx) x y w1).mono ?_
        rintro e w9 ⟨rfl, hb9⟩
        exact ⟨_, rfl, hb9, congrArg Value.bool (HJH.out rfl), CutsJ.below hJ.out hb9⟩
       ·refine regs.StepOK.yes 28 true 107 rfl rfl (fun L a w1 hh => hh.dep 28 107 (by kernel_rfl) (by kernel_rfl)) fun L a w1 hh => ?_
        have h111 := hh.v 32 111 rfl (by kernel_rfl) (by kernel_rfl)
        have hJ := Lib.hid hh.st
        clear hh
        go_simp
        exact ⟨_, rfl, regs.bl_refl _, rfl, hJ.out⟩
       ·refine regs.StepOK.yes 20 false 99 rfl rfl (fun L a w1 hh => hh.dep 20 99 (by kernel_rfl) (by kernel_rfl)) fun L a w1 hh => ?_
        have h107 := hh.v 28 107 rfl (by kernel_rfl) (by kernel_rfl)
        have h112 := hh.v 33 112 rfl (by kernel_rfl) (by kernel_rfl)
        have hJ := Lib.hid hh.st
        clear hh
        go_simp
        exact ⟨_, rfl, regs.bl_refl _, rfl, hJ.out⟩
       ·refine regs.StepOK.plain rfl fun L a w1 hh => ?_
        have h99 := hh.v 20 99 rfl (by kernel_rfl) (by kernel_rfl)
        have h113 := hh.v 34 113 rfl (by kernel_rfl) (by kernel_rfl)
        have hJ := Lib.hid hh.st
        clear hh
        go_simp
        exact ⟨_, rfl, regs.bl_refl _, rfl, hJ.out⟩
       intro L w8 val hL hJ hR hv
       have h114 : val 114 = .bool false := hv 35 114 (by kernel_rfl)
       have HJ8 := Lib.hid hJ
       have HR8 := Lib.hid hR
       clear hv hL hJ hR
       simp only [regs.putAll, List.map_cons, List.map_nil]
       rw [h114]
       generalize val 79 = v79
       generalize val 80 = v80
       generalize val 81 = v81
       generalize val 82 = v82
       generalize val 83 = v83
       generalize val 84 = v84
       generalize val 85 = v85
       generalize val 86 = v86
       generalize val 87 = v87
       generalize val 88 = v88
       generalize val 89 = v89
       generalize val 90 = v90
       generalize val 91 = v91
       generalize val 92 = v92
       generalize val 93 = v93
       generalize val 94 = v94
       generalize val 95 = v95
       generalize val 96 = v96
       generalize val 97 = v97
       generalize val 98 = v98
       generalize val 99 = v99
       generalize val 100 = v100
       generalize val 101 = v101
       generalize val 102 = v102
       generalize val 103 = v103
       generalize val 104 = v104
       generalize val 105 = v105
       generalize val 106 = v106
       generalize val 107 = v107
       generalize val 108 = v108
       generalize val 109 = v109
       generalize val 110 = v110
       generalize val 111 = v111
       generalize val 112 = v112
       generalize val 113 = v113
       simp only [Act.put, List.setIfInBounds_toArray, List.set_cons_zero, List.set_cons_succ]
       clear h114
       clear HJ7 HR8 HCH HJH HYA HYB HYD
       go_wp2_with (fail)
       go_roundw
       case rel => exact ⟨m + 1, by omega, by go_num, HJ8⟩
       case measure => simp [intOf]; omega
    ·go_wp2_with (fail)
     go_roundw
     case rel => exact ⟨k + 1, by omega, by go_num, HX⟩
     case measure => simp [intOf]; omega
  ·have HA := Lib.hid HX.out.1
   clear HX
   go_wp2_with (fail)
   have hce := fun h => cut_o (r := ⟨ra, rb, rc, rd⟩) (l := [⟨sa, sb, sc, sd⟩, ⟨ta, tb, tc, td⟩]) h
   have hje := join_emp ⟨ra, rb, rc, rd⟩ ⟨sa, sb, sc, sd⟩ ⟨ta, tb, tc, td⟩
   have hjo := fun h => join_o (r := ⟨ra, rb, rc, rd⟩) (l := [⟨sa, sb, sc, sd⟩, ⟨ta, tb, tc, td⟩]) h
   have hsd := fun h => join_sides ⟨ra, rb, rc, rd⟩ ⟨sa, sb, sc, sd⟩ ⟨ta, tb, tc, td⟩ h
   rw [HC.out] at hce
   rw [HJ.out] at hje hjo hsd
   have HCE := Lib.hid hce
   have HJE := Lib.hid hje
   have HJO := Lib.hid hjo
   have HSD := Lib.hid hsd
   clear hce hje hjo hsd
   go_cut [147] from 241 (fun u wx => u = .bool false ∧ Hid (CutsAt w ⟨ra, rb, rc, rd⟩ ⟨sa, sb, sc, sd⟩ ⟨ta, tb, tc, td⟩ ⟨ca, cb, cc, cd⟩ ⟨ja, jb, jc, jd⟩ g7 g8 wx))
   case first =>
    obtain ⟨yr, hyr⟩ : ∃ b, Bx.emp ⟨ra, rb, rc, rd⟩ = b := ⟨_, rfl⟩
    obtain ⟨ys, hys⟩ : ∃ b, Bx.emp ⟨sa, sb, sc, sd⟩ = b := ⟨_, rfl⟩
    obtain ⟨yt, hyt⟩ : ∃ b, Bx.emp ⟨ta, tb, tc, td⟩ = b := ⟨_, rfl⟩
    obtain ⟨yc, hyc⟩ : ∃ b, Bx.emp ⟨ca, cb, cc, cd⟩ = b := ⟨_, rfl⟩
    rw [hyr, hys, hyt] at HJE
    have HYR := Lib.hid hyr
    have HYS := Lib.hid hys
    have HYT := Lib.hid hyt
    have HYC := Lib.hid hyc
    clear hyr hys hyt hyc
    cases yc
    ·cases yr
     ·refine regs.wp_region_put (regs.bl) (fun _ wx => CutsAt w (⟨ra, rb, rc, rd⟩ : Bx) (⟨sa, sb, sc, sd⟩ : Bx) (⟨ta, tb, tc, td⟩ : Bx) (⟨ca, cb, cc, cd⟩ : Bx) (⟨ja, jb, jc, jd⟩ : Bx) g7 g8 wx) [117, 118, 119, 120, 121, 122, 123, 124, 125, 126, 127, 128, 129, 130, 131, 132, 133, 134, 135, 136, 137, 138, 139, 140, 141, 142, 143, 144, 145, 146, 147] (by kernel_rfl) (by kernel_rfl) (fun _ => regs.bl_refl _) (regs.bl_trans) (fun i => (match i with
       | 0 => regs.Say.val _ (.agg #[.int .i64 ca, .int .i64 cb, .int .i64 cc, .int .i64 cd])
       | 1 => regs.Say.val _ (.bool false)
       | 2 => regs.Say.val _ (.bool false)
       | 3 => regs.Say.val _ (undef)
       | 4 => regs.Say.val _ (undef)
       | 5 => regs.Say.val _ (undef)
       | 6 => regs.Say.val _ (.bool false)
       | 7 => regs.Say.val _ (.bool false)
       | 8 => regs.Say.val _ (.agg #[.int .i64 ja, .int .i64 jb, .int .i64 jc, .int .i64 jd])
       | 9 => regs.Say.val _ (.bool false)
       | 10 => regs.Say.val _ (.agg #[.int .i64 ra, .int .i64 rb, .int .i64 rc, .int .i64 rd])
       | 11 => regs.Say.val _ (.bool false)
       | 12 => regs.Say.val _ (.bool false)
       | 13 => regs.Say.val _ (undef)
       | 14 => regs.Say.val _ (undef)
       | 15 => regs.Say.val _ (.bool false)
       | 16 => regs.Say.val _ (.bool false)
       | 17 => regs.Say.val _ (undef)
       | 18 => regs.Say.val _ (undef)
       | 19 => regs.Say.val _ (.bool false)
       | 20 => regs.Say.val _ (.bool false)
       | 21 => regs.Say.val _ (.bool false)
       | 22 => regs.Say.val _ (.bool false)
       | 23 => regs.Say.val _ (.agg #[.int .i64 ja, .int .i64 jb, .int .i64 jc, .int .i64 jd])
       | 24 => regs.Say.val _ (.bool false)
       | 25 => regs.Say.val _ (.bool false)
       | 26 => regs.Say.val _ (undef)
       | 27 => regs.Say.val _ (undef)
       | 28 => regs.Say.val _ (undef)
       | 29 => regs.Say.val _ (.bool false)
       | 30 => regs.Say.val _ (.bool false)
       | _ => regs.Say.any _ : regs.Say (regs.bl)).p) (fun _ => regs.Say.mono _) (by kernel_rfl) ((Below.refl _ _).drew) (HA.out.below ((Below.refl _ _).drew)) ⟨?_, ?_, ?_, ?_, ?_, ?_, ?_, ?_, ?_, ?_, ?_, ?_, ?_, ?_, ?_, ?_, ?_, ?_, ?_, ?_, ?_, ?_, ?_, ?_, ?_, ?_, ?_, ?_, ?_, ?_, ?_, trivial⟩ ?_
      ·refine regs.StepOK.plain rfl fun L a w1 hh => ?_
       have h7 : a.tmps[7]?.getD undef = .pointer (some ⟨g7, 0, none⟩) := hh.kp 7 rfl rfl
       obtain ⟨⟨c0, c1, c2, c3⟩, -, -⟩ := (hh.st.1.2.2.2.1).c4
       have hJ := Lib.hid hh.st
       clear hh
       go_simp
       exact ⟨_, rfl, regs.bl_refl _, rfl, hJ.out⟩
      ·refine regs.StepOK.plain rfl fun L a w1 hh => ?_
       have h117 := hh.v 0 117 rfl (by kernel_rfl) (by kernel_rfl)
       have := True.intro
       have hJ := Lib.hid hh.st
       clear hh
       go_simp
       refine (bx_empty (⟨ca, cb, cc, cd⟩ : Bx) w1).mono ?_
       rintro e w9 ⟨rfl, hb9⟩
       exact ⟨_, rfl, hb9, congrArg Value.bool HYC.out, CutsAt.below hJ.out hb9⟩
      ·refine regs.StepOK.plain rfl fun L a w1 hh => ?_
       have h118 := hh.v 1 118 rfl (by kernel_rfl) (by kernel_rfl)
       have hJ := Lib.hid hh.st
       clear hh
       go_simp
       exact ⟨_, rfl, regs.bl_refl _, rfl, hJ.out⟩
      ·refine regs.StepOK.no 2 true 119 rfl rfl (fun L a w1 hh => ?_) fun L a w1 hh => ⟨rfl, hh.st⟩
       exact hh.dep 2 119 (by kernel_rfl) (by kernel_rfl)
      ·refine regs.StepOK.no 2 true 119 rfl rfl (fun L a w1 hh => ?_) fun L a w1 hh => ⟨rfl, hh.st⟩
       exact hh.dep 2 119 (by kernel_rfl) (by kernel_rfl)
      ·refine regs.StepOK.no 2 true 119 rfl rfl (fun L a w1 hh => ?_) fun L a w1 hh => ⟨rfl, hh.st⟩
       exact hh.dep 2 119 (by kernel_rfl) (by kernel_rfl)
      ·refine regs.StepOK.plain rfl fun L a w1 hh => ?_
       have h119 := hh.v 2 119 rfl (by kernel_rfl) (by kernel_rfl)
       have hJ := Lib.hid hh.st
       clear hh
       go_simp
       exact ⟨_, rfl, regs.bl_refl _, rfl, hJ.out⟩
      ·refine regs.StepOK.plain rfl fun L a w1 hh => ?_
       have h123 := hh.v 6 123 rfl (by kernel_rfl) (by kernel_rfl)
       have hJ := Lib.hid hh.st
       clear hh
       go_simp
       exact ⟨_, rfl, regs.bl_refl _, rfl, hJ.out⟩
      ·refine regs.StepOK.yes 7 false 124 rfl rfl (fun L a w1 hh => hh.dep 7 124 (by kernel_rfl) (by kernel_rfl)) fun L a w1 hh => ?_
       have h8 : a.tmps[8]?.getD undef = .pointer (some ⟨g8, 0, none⟩) := hh.kp 8 rfl rfl
       obtain ⟨⟨c0, c1, c2, c3⟩, -, -⟩ := (hh.st.1.2.2.2.2.1).c4
       have hJ := Lib.hid hh.st
       clear hh
       go_simp
       exact ⟨_, rfl, regs.bl_refl _, rfl, hJ.out⟩
      ·refine regs.StepOK.yes 7 false 124 rfl rfl (fun L a w1 hh => hh.dep 7 124 (by kernel_rfl) (by kernel_rfl)) fun L a w1 hh => ?_
       have h125 := hh.v 8 125 rfl (by kernel_rfl) (by kernel_rfl)
       have := True.intro
       have hJ := Lib.hid hh.st
       clear hh
       go_simp
       refine (bx_empty (⟨ja, jb, jc, jd⟩ : Bx) w1).mono ?_
       rintro e w9 ⟨rfl, hb9⟩
       exact ⟨_, rfl, hb9, congrArg Value.bool HJE.out, CutsAt.below hJ.out hb9⟩
      ·refine regs.StepOK.yes 7 false 124 rfl rfl (fun L a w1 hh => hh.dep 7 124 (by kernel_rfl) (by kernel_rfl)) fun L a w1 hh => ?_
       have h3 : a.tmps[3]?.getD undef = .pointer (some ⟨w.heap.size, 0, none⟩) := hh.kp 3 rfl rfl
       obtain ⟨⟨c0, c1, c2, c3⟩, -, -⟩ := (hh.st.1.1).c4
       have hJ := Lib.hid hh.st
       clear hh
       go_simp
       exact ⟨_, rfl, regs.bl_refl _, rfl, hJ.out⟩
      ·refine regs.StepOK.yes 7 false 124 rfl rfl (fun L a w1 hh => hh.dep 7 124 (by kernel_rfl) (by kernel_rfl)) fun L a w1 hh => ?_
       have h127 := hh.v 10 127 rfl (by kernel_rfl) (by kernel_rfl)
       have := True.intro
       have hJ := Lib.hid hh.st
       clear hh
       go_simp
       refine (bx_empty (⟨ra, rb, rc, rd⟩ : Bx) w1).mono ?_
       rintro e w9 ⟨rfl, hb9⟩
       exact ⟨_, rfl, hb9, congrArg Value.bool HYR.out, CutsAt.below hJ.out hb9⟩
      ·refine regs.StepOK.yes 7 false 124 rfl rfl (fun L a w1 hh => hh.dep 7 124 (by kernel_rfl) (by kernel_rfl)) fun L a w1 hh => ?_
       have h128 := hh.v 11 128 rfl (by kernel_rfl) (by kernel_rfl)
       have hJ := Lib.hid hh.st
       clear hh
       go_simp
       exact ⟨_, rfl, regs.bl_refl _, rfl, hJ.out⟩
      ·refine regs.StepOK.no 12 true 129 rfl rfl (fun L a w1 hh => ?_) fun L a w1 hh => ⟨rfl, hh.st⟩
       exact hh.dep 12 129 (by kernel_rfl) (by kernel_rfl)
      ·refine regs.StepOK.no 12 true 129 rfl rfl (fun L a w1 hh => ?_) fun L a w1 hh => ⟨rfl, hh.st⟩
       exact hh.dep 12 129 (by kernel_rfl) (by kernel_rfl)
      ·refine regs.StepOK.yes 7 false 124 rfl rfl (fun L a w1 hh => hh.dep 7 124 (by kernel_rfl) (by kernel_rfl)) fun L a w1 hh => ?_
       have h129 := hh.v 12 129 rfl (by kernel_rfl) (by kernel_rfl)
       have hJ := Lib.hid hh.st
       clear hh
       go_simp
       exact ⟨_, rfl, regs.bl_refl _, rfl, hJ.out⟩
      ·refine regs.StepOK.yes 7 false 124 rfl rfl (fun L a w1 hh => hh.dep 7 124 (by kernel_rfl) (by kernel_rfl)) fun L a w1 hh => ?_
       have h132 := hh.v 15 132 rfl (by kernel_rfl) (by kernel_rfl)
       have hJ := Lib.hid hh.st
       clear hh
       go_simp
       exact ⟨_, rfl, regs.bl_refl _, rfl, hJ.out⟩
      ·refine regs.StepOK.no 16 true 133 rfl rfl (fun L a w1 hh => ?_) fun L a w1 hh => ⟨rfl, hh.st⟩
       exact hh.dep 16 133 (by kernel_rfl) (by kernel_rfl)
      ·refine regs.StepOK.no 16 true 133 rfl rfl (fun L a w1 hh => ?_) fun L a w1 hh => ⟨rfl, hh.st⟩
       exact hh.dep 16 133 (by kernel_rfl) (by kernel_rfl)
      ·refine regs.StepOK.yes 7 false 124 rfl rfl (fun L a w1 hh => hh.dep 7 124 (by kernel_rfl) (by kernel_rfl)) fun L a w1 hh => ?_
       have h133 := hh.v 16 133 rfl (by kernel_rfl) (by kernel_rfl)
       have hJ := Lib.hid hh.st
       clear hh
       go_simp
       exact ⟨_, rfl, regs.bl_refl _, rfl, hJ.out⟩
      ·refine regs.StepOK.yes 7 false 124 rfl rfl (fun L a w1 hh => hh.dep 7 124 (by kernel_rfl) (by kernel_rfl)) fun L a w1 hh => ?_
       have h126 := hh.v 9 126 rfl (by kernel_rfl) (by kernel_rfl)
       have h136 := hh.v 19 136 rfl (by kernel_rfl) (by kernel_rfl)
       have hJ := Lib.hid hh.st
       clear hh
       go_simp
       exact ⟨_, rfl, regs.bl_refl _, rfl, hJ.out⟩
      ·refine regs.StepOK.plain rfl fun L a w1 hh => ?_
       have h124 := hh.v 7 124 rfl (by kernel_rfl) (by kernel_rfl)
       have h137 := hh.v 20 137 rfl (by kernel_rfl) (by kernel_rfl)
       have hJ := Lib.hid hh.st
       clear hh
       go_simp
       exact ⟨_, rfl, regs.bl_refl _, rfl, hJ.out⟩
      ·refine regs.StepOK.plain rfl fun L a w1 hh => ?_
       have h138 := hh.v 21 138 rfl (by kernel_rfl) (by kernel_rfl)
       have hJ := Lib.hid hh.st
       clear hh
       go_simp
       exact ⟨_, rfl, regs.bl_refl _, rfl, hJ.out⟩
      ·refine regs.StepOK.yes 22 false 139 rfl rfl (fun L a w1 hh => hh.dep 22 139 (by kernel_rfl) (by kernel_rfl)) fun L a w1 hh => ?_
       have h8 : a.tmps[8]?.getD undef = .pointer (some ⟨g8, 0, none⟩) := hh.kp 8 rfl rfl
       obtain ⟨⟨c0, c1, c2, c3⟩, -, -⟩ := (hh.st.1.2.2.2.2.1).c4
       have hJ := Lib.hid hh.st
       clear hh
       go_simp
       exact ⟨_, rfl, regs.bl_refl _, rfl, hJ.out⟩
      ·refine regs.StepOK.yes 22 false 139 rfl rfl (fun L a w1 hh => hh.dep 22 139 (by kernel_rfl) (by kernel_rfl)) fun L a w1 hh => ?_
       have h140 := hh.v 23 140 rfl (by kernel_rfl) (by kernel_rfl)
       have := True.intro
       have hJ := Lib.hid hh.st
       clear hh
       go_simp
       refine (bx_empty (⟨ja, jb, jc, jd⟩ : Bx) w1).mono ?_
       rintro e w9 ⟨rfl, hb9⟩
       exact ⟨_, rfl, hb9, congrArg Value.bool HJE.out, CutsAt.below hJ.out hb9⟩
      ·refine regs.StepOK.yes 22 false 139 rfl rfl (fun L a w1 hh => hh.dep 22 139 (by kernel_rfl) (by kernel_rfl)) fun L a w1 hh => ?_
       have h141 := hh.v 24 141 rfl (by kernel_rfl) (by kernel_rfl)
       have hJ := Lib.hid hh.st
       clear hh
       go_simp
       exact ⟨_, rfl, regs.bl_refl _, rfl, hJ.out⟩
      ·refine regs.StepOK.no 25 true 142 rfl rfl (fun L a w1 hh => ?_) fun L a w1 hh => ⟨rfl, hh.st⟩
       exact hh.dep 25 142 (by kernel_rfl) (by kernel_rfl)
      ·refine regs.StepOK.no 25 true 142 rfl rfl (fun L a w1 hh => ?_) fun L a w1 hh => ⟨rfl, hh.st⟩
       exact hh.dep 25 142 (by kernel_rfl) (by kernel_rfl)
      ·refine regs.StepOK.no 25 true 142 rfl rfl (fun L a w1 hh => ?_) fun L a w1 hh => ⟨rfl, hh.st⟩
       exact hh.dep 25 142 (by kernel_rfl) (by kernel_rfl)
      ·refine regs.StepOK.yes 22 false 139 rfl rfl (fun L a w1 hh => hh.dep 22 139 (by kernel_rfl) (by kernel_rfl)) fun L a w1 hh => ?_
       have h142 := hh.v 25 142 rfl (by kernel_rfl) (by kernel_rfl)
       have hJ := Lib.hid hh.st
       clear hh
       go_simp
       exact ⟨_, rfl, regs.bl_refl _, rfl, hJ.out⟩
      ·refine regs.StepOK.plain rfl fun L a w1 hh => ?_
       have h139 := hh.v 22 139 rfl (by kernel_rfl) (by kernel_rfl)
       have h146 := hh.v 29 146 rfl (by kernel_rfl) (by kernel_rfl)
       have hJ := Lib.hid hh.st
       clear hh
       go_simp
       exact ⟨_, rfl, regs.bl_refl _, rfl, hJ.out⟩
      intro L w5 val hL hJ hR hv
      have h147 : val 147 = .bool false := hv 30 147 (by kernel_rfl)
      have HJ5 := Lib.hid hJ
      have HR5 := Lib.hid hR
      clear hv hL hJ hR
      simp only [regs.putAll, List.map_cons, List.map_nil]
      rw [h147]
      generalize val 117 = v117
      generalize val 118 = v118
      generalize val 119 = v119
      generalize val 120 = v120
      generalize val 121 = v121
      generalize val 122 = v122
      generalize val 123 = v123
      generalize val 124 = v124
      generalize val 125 = v125
      generalize val 126 = v126
      generalize val 127 = v127
      generalize val 128 = v128
      generalize val 129 = v129
      generalize val 130 = v130
      generalize val 131 = v131
      generalize val 132 = v132
      generalize val 133 = v133
      generalize val 134 = v134
      generalize val 135 = v135
      generalize val 136 = v136
      generalize val 137 = v137
      generalize val 138 = v138
      generalize val 139 = v139
      generalize val 140 = v140
      generalize val 141 = v141
      generalize val 142 = v142
      generalize val 143 = v143
      generalize val 144 = v144
      generalize val 145 = v145
      generalize val 146 = v146
      simp only [Act.put, List.setIfInBounds_toArray, List.set_cons_zero, List.set_cons_succ]
      clear h147
      go_wp2_with (fail)
      go_meet
      exact ⟨rfl, HJ5⟩
     ·cases ys
      ·refine regs.wp_region_put (regs.bl) (fun _ wx => CutsAt w (⟨ra, rb, rc, rd⟩ : Bx) (⟨sa, sb, sc, sd⟩ : Bx) (⟨ta, tb, tc, td⟩ : Bx) (⟨ca, cb, cc, cd⟩ : Bx) (⟨ja, jb, jc, jd⟩ : Bx) g7 g8 wx) [117, 118, 119, 120, 121, 122, 123, 124, 125, 126, 127, 128, 129, 130, 131, 132, 133, 134, 135, 136, 137, 138, 139, 140, 141, 142, 143, 144, 145, 146, 147] (by kernel_rfl) (by kernel_rfl) (fun _ => regs.bl_refl _) (regs.bl_trans) (fun i => (match i with
        | 0 => regs.Say.val _ (.agg #[.int .i64 ca, .int .i64 cb, .int .i64 cc, .int .i64 cd])
        | 1 => regs.Say.val _ (.bool false)
        | 2 => regs.Say.val _ (.bool false)
        | 3 => regs.Say.val _ (undef)
        | 4 => regs.Say.val _ (undef)
        | 5 => regs.Say.val _ (undef)
        | 6 => regs.Say.val _ (.bool false)
        | 7 => regs.Say.val _ (.bool false)
        | 8 => regs.Say.val _ (.agg #[.int .i64 ja, .int .i64 jb, .int .i64 jc, .int .i64 jd])
        | 9 => regs.Say.val _ (.bool false)
        | 10 => regs.Say.val _ (.agg #[.int .i64 ra, .int .i64 rb, .int .i64 rc, .int .i64 rd])
        | 11 => regs.Say.val _ (.bool true)
        | 12 => regs.Say.val _ (.bool true)
        | 13 => regs.Say.val _ (.agg #[.int .i64 sa, .int .i64 sb, .int .i64 sc, .int .i64 sd])
        | 14 => regs.Say.val _ (.bool false)
        | 15 => regs.Say.val _ (.bool false)
        | 16 => regs.Say.val _ (.bool false)
        | 17 => regs.Say.val _ (undef)
        | 18 => regs.Say.val _ (undef)
        | 19 => regs.Say.val _ (.bool false)
        | 20 => regs.Say.val _ (.bool false)
        | 21 => regs.Say.val _ (.bool false)
        | 22 => regs.Say.val _ (.bool false)
        | 23 => regs.Say.val _ (.agg #[.int .i64 ja, .int .i64 jb, .int .i64 jc, .int .i64 jd])
        | 24 => regs.Say.val _ (.bool false)
        | 25 => regs.Say.val _ (.bool false)
        | 26 => regs.Say.val _ (undef)
        | 27 => regs.Say.val _ (undef)
        | 28 => regs.Say.val _ (undef)
        | 29 => regs.Say.val _ (.bool false)
        | 30 => regs.Say.val _ (.bool false)
        | _ => regs.Say.any _ : regs.Say (regs.bl)).p) (fun _ => regs.Say.mono _) (by kernel_rfl) ((Below.refl _ _).drew) (HA.out.below ((Below.refl _ _).drew)) ⟨?_, ?_, ?_, ?_, ?_, ?_, ?_, ?_, ?_, ?_, ?_, ?_, ?_, ?_, ?_, ?_, ?_, ?_, ?_, ?_, ?_, ?_, ?_, ?_, ?_, ?_, ?_, ?_, ?_, ?_, ?_, trivial⟩ ?_
       ·refine regs.StepOK.plain rfl fun L a w1 hh => ?_
        have h7 : a.tmps[7]?.getD undef = .pointer (some ⟨g7, 0, none⟩) := hh.kp 7 rfl rfl
        obtain ⟨⟨c0, c1, c2, c3⟩, -, -⟩ := (hh.st.1.2.2.2.1).c4
        have hJ := Lib.hid hh.st
        clear hh
        go_simp
        exact ⟨_, rfl, regs.bl_refl _, rfl, hJ.out⟩
       ·refine regs.StepOK.plain rfl fun L a w1 hh => ?_
        have h117 := hh.v 0 117 rfl (by kernel_rfl) (by kernel_rfl)
        have := True.intro
        have hJ := Lib.hid hh.st
        clear hh
        go_simp
        refine (bx_empty (⟨ca, cb, cc, cd⟩ : Bx) w1).mono ?_
        rintro e w9 ⟨rfl, hb9⟩
        exact ⟨_, rfl, hb9, congrArg Value.bool HYC.out, CutsAt.below hJ.out hb9⟩
       ·refine regs.StepOK.plain rfl fun L a w1 hh => ?_
        have h118 := hh.v 1 118 rfl (by kernel_rfl) (by kernel_rfl)
        have hJ := Lib.hid hh.st
        clear hh
        go_simp
        exact ⟨_, rfl, regs.bl_refl _, rfl, hJ.out⟩
       ·refine regs.StepOK.no 2 true 119 rfl rfl (fun L a w1 hh => ?_) fun L a w1 hh => ⟨rfl, hh.st⟩
        exact hh.dep 2 119 (by kernel_rfl) (by kernel_rfl)
       ·refine regs.StepOK.no 2 true 119 rfl rfl (fun L a w1 hh => ?_) fun L a w1 hh => ⟨rfl, hh.st⟩
        exact hh.dep 2 119 (by kernel_rfl) (by kernel_rfl)
       ·refine regs.StepOK.no 2 true 119 rfl rfl (fun L a w1 hh => ?_) fun L a w1 hh => ⟨rfl, hh.st⟩
        exact hh.dep 2 119 (by kernel_rfl) (by kernel_rfl)
       ·refine regs.StepOK.plain rfl fun L a w1 hh => ?_
        have h119 := hh.v 2 119 rfl (by kernel_rfl) (by kernel_rfl)
        have hJ := Lib.hid hh.st
        clear hh
        go_simp
        exact ⟨_, rfl, regs.bl_refl _, rfl, hJ.out⟩
       ·refine regs.StepOK.plain rfl fun L a w1 hh => ?_
        have h123 := hh.v 6 123 rfl (by kernel_rfl) (by kernel_rfl)
        have hJ := Lib.hid hh.st
        clear hh
        go_simp
        exact ⟨_, rfl, regs.bl_refl _, rfl, hJ.out⟩
       ·refine regs.StepOK.yes 7 false 124 rfl rfl (fun L a w1 hh => hh.dep 7 124 (by kernel_rfl) (by kernel_rfl)) fun L a w1 hh => ?_
        have h8 : a.tmps[8]?.getD undef = .pointer (some ⟨g8, 0, none⟩) := hh.kp 8 rfl rfl
        obtain ⟨⟨c0, c1, c2, c3⟩, -, -⟩ := (hh.st.1.2.2.2.2.1).c4
        have hJ := Lib.hid hh.st
        clear hh
        go_simp
        exact ⟨_, rfl, regs.bl_refl _, rfl, hJ.out⟩
       ·refine regs.StepOK.yes 7 false 124 rfl rfl (fun L a w1 hh => hh.dep 7 124 (by kernel_rfl) (by kernel_rfl)) fun L a w1 hh => ?_
        have h125 := hh.v 8 125 rfl (by kernel_rfl) (by kernel_rfl)
        have := True.intro
        have hJ := Lib.hid hh.st
        clear hh
        go_simp
        refine (bx_empty (⟨ja, jb, jc, jd⟩ : Bx) w1).mono ?_
        rintro e w9 ⟨rfl, hb9⟩
        exact ⟨_, rfl, hb9, congrArg Value.bool HJE.out, CutsAt.below hJ.out hb9⟩
       ·refine regs.StepOK.yes 7 false 124 rfl rfl (fun L a w1 hh => hh.dep 7 124 (by kernel_rfl) (by kernel_rfl)) fun L a w1 hh => ?_
        have h3 : a.tmps[3]?.getD undef = .pointer (some ⟨w.heap.size, 0, none⟩) := hh.kp 3 rfl rfl
        obtain ⟨⟨c0, c1, c2, c3⟩, -, -⟩ := (hh.st.1.1).c4
        have hJ := Lib.hid hh.st
        clear hh
        go_simp
        exact ⟨_, rfl, regs.bl_refl _, rfl, hJ.out⟩
       ·refine regs.StepOK.yes 7 false 124 rfl rfl (fun L a w1 hh => hh.dep 7 124 (by kernel_rfl) (by kernel_rfl)) fun L a w1 hh => ?_
        have h127 := hh.v 10 127 rfl (by kernel_rfl) (by kernel_rfl)
        have := True.intro
        have hJ := Lib.hid hh.st
        clear hh
        go_simp
        refine (bx_empty (⟨ra, rb, rc, rd⟩ : Bx) w1).mono ?_
        rintro e w9 ⟨rfl, hb9⟩
        exact ⟨_, rfl, hb9, congrArg Value.bool HYR.out, CutsAt.below hJ.out hb9⟩
       ·refine regs.StepOK.yes 7 false 124 rfl rfl (fun L a w1 hh => hh.dep 7 124 (by kernel_rfl) (by kernel_rfl)) fun L a w1 hh => ?_
        have h128 := hh.v 11 128 rfl (by kernel_rfl) (by kernel_rfl)
        have hJ := Lib.hid hh.st
        clear hh
        go_simp
        exact ⟨_, rfl, regs.bl_refl _, rfl, hJ.out⟩
       ·refine regs.StepOK.yes 12 true 129 rfl rfl (fun L a w1 hh => hh.dep 12 129 (by kernel_rfl) (by kernel_rfl)) fun L a w1 hh => ?_
        have h4 : a.tmps[4]?.getD undef = .pointer (some ⟨(w.heap.size + 1), 0, none⟩) := hh.kp 4 rfl rfl
        obtain ⟨⟨c0, c1, c2, c3⟩, -, -⟩ := (hh.st.1.2.1).c4
        have hJ := Lib.hid hh.st
        clear hh
        go_simp
        exact ⟨_, rfl, regs.bl_refl _, rfl, hJ.out⟩
       ·refine regs.StepOK.yes 12 true 129 rfl rfl (fun L a w1 hh => hh.dep 12 129 (by kernel_rfl) (by kernel_rfl)) fun L a w1 hh => ?_
        have h130 := hh.v 13 130 rfl (by kernel_rfl) (by kernel_rfl)
        have := True.intro
        have hJ := Lib.hid hh.st
        clear hh
        go_simp
        refine (bx_empty (⟨sa, sb, sc, sd⟩ : Bx) w1).mono ?_
        rintro e w9 ⟨rfl, hb9⟩
        exact ⟨_, rfl, hb9, congrArg Value.bool HYS.out, CutsAt.below hJ.out hb9⟩
       ·refine regs.StepOK.yes 7 false 124 rfl rfl (fun L a w1 hh => hh.dep 7 124 (by kernel_rfl) (by kernel_rfl)) fun L a w1 hh => ?_
        have h129 := hh.v 12 129 rfl (by kernel_rfl) (by kernel_rfl)
        have h131 := hh.v 14 131 rfl (by kernel_rfl) (by kernel_rfl)
        have hJ := Lib.hid hh.st
        clear hh
        go_simp
        exact ⟨_, rfl, regs.bl_refl _, rfl, hJ.out⟩
       ·refine regs.StepOK.yes 7 false 124 rfl rfl (fun L a w1 hh => hh.dep 7 124 (by kernel_rfl) (by kernel_rfl)) fun L a w1 hh => ?_
        have h132 := hh.v 15 132 rfl (by kernel_rfl) (by kernel_rfl)
        have hJ := Lib.hid hh.st
        clear hh
        go_simp
        exact ⟨_, rfl, regs.bl_refl _, rfl, hJ.out⟩
       ·refine regs.StepOK.no 16 true 133 rfl rfl (fun L a w1 hh => ?_) fun L a w1 hh => ⟨rfl, hh.st⟩
        exact hh.dep 16 133 (by kernel_rfl) (by kernel_rfl)
       ·refine regs.StepOK.no 16 true 133 rfl rfl (fun L a w1 hh => ?_) fun L a w1 hh => ⟨rfl, hh.st⟩
        exact hh.dep 16 133 (by kernel_rfl) (by kernel_rfl)
       ·refine regs.StepOK.yes 7 false 124 rfl rfl (fun L a w1 hh => hh.dep 7 124 (by kernel_rfl) (by kernel_rfl)) fun L a w1 hh => ?_
        have h133 := hh.v 16 133 rfl (by kernel_rfl) (by kernel_rfl)
        have hJ := Lib.hid hh.st
        clear hh
        go_simp
        exact ⟨_, rfl, regs.bl_refl _, rfl, hJ.out⟩
       ·refine regs.StepOK.yes 7 false 124 rfl rfl (fun L a w1 hh => hh.dep 7 124 (by kernel_rfl) (by kernel_rfl)) fun L a w1 hh => ?_
        have h126 := hh.v 9 126 rfl (by kernel_rfl) (by kernel_rfl)
        have h136 := hh.v 19 136 rfl (by kernel_rfl) (by kernel_rfl)
        have hJ := Lib.hid hh.st
        clear hh
        go_simp
        exact ⟨_, rfl, regs.bl_refl _, rfl, hJ.out⟩
       ·refine regs.StepOK.plain rfl fun L a w1 hh => ?_
        have h124 := hh.v 7 124 rfl (by kernel_rfl) (by kernel_rfl)
        have h137 := hh.v 20 137 rfl (by kernel_rfl) (by kernel_rfl)
        have hJ := Lib.hid hh.st
        clear hh
        go_simp
        exact ⟨_, rfl, regs.bl_refl _, rfl, hJ.out⟩
       ·refine regs.StepOK.plain rfl fun L a w1 hh => ?_
        have h138 := hh.v 21 138 rfl (by kernel_rfl) (by kernel_rfl)
        have hJ := Lib.hid hh.st
        clear hh
        go_simp
        exact ⟨_, rfl, regs.bl_refl _, rfl, hJ.out⟩
       ·refine regs.StepOK.yes 22 false 139 rfl rfl (fun L a w1 hh => hh.dep 22 139 (by kernel_rfl) (by kernel_rfl)) fun L a w1 hh => ?_
        have h8 : a.tmps[8]?.getD undef = .pointer (some ⟨g8, 0, none⟩) := hh.kp 8 rfl rfl
        obtain ⟨⟨c0, c1, c2, c3⟩, -, -⟩ := (hh.st.1.2.2.2.2.1).c4
        have hJ := Lib.hid hh.st
        clear hh
        go_simp
        exact ⟨_, rfl, regs.bl_refl _, rfl, hJ.out⟩
       ·refine regs.StepOK.yes 22 false 139 rfl rfl (fun L a w1 hh => hh.dep 22 139 (by kernel_rfl) (by kernel_rfl)) fun L a w1 hh => ?_
        have h140 := hh.v 23 140 rfl (by kernel_rfl) (by kernel_rfl)
        have := True.intro
        have hJ := Lib.hid hh.st
        clear hh
        go_simp
        refine (bx_empty (⟨ja, jb, jc, jd⟩ : Bx) w1).mono ?_
        rintro e w9 ⟨rfl, hb9⟩
        exact ⟨_, rfl, hb9, congrArg Value.bool HJE.out, CutsAt.below hJ.out hb9⟩
       ·refine regs.StepOK.yes 22 false 139 rfl rfl (fun L a w1 hh => hh.dep 22 139 (by kernel_rfl) (by kernel_rfl)) fun L a w1 hh => ?_
        have h141 := hh.v 24 141 rfl (by kernel_rfl) (by kernel_rfl)
        have hJ := Lib.hid hh.st
        clear hh
        go_simp
        exact ⟨_, rfl, regs.bl_refl _, rfl, hJ.out⟩
       ·refine regs.StepOK.no 25 true 142 rfl rfl (fun L a w1 hh => ?_) fun L a w1 hh => ⟨rfl, hh.st⟩
        exact hh.dep 25 142 (by kernel_rfl) (by kernel_rfl)
       ·refine regs.StepOK.no 25 true 142 rfl rfl (fun L a w1 hh => ?_) fun L a w1 hh => ⟨rfl, hh.st⟩
        exact hh.dep 25 142 (by kernel_rfl) (by kernel_rfl)
       ·refine regs.StepOK.no 25 true 142 rfl rfl (fun L a w1 hh => ?_) fun L a w1 hh => ⟨rfl, hh.st⟩
        exact hh.dep 25 142 (by kernel_rfl) (by kernel_rfl)
       ·refine regs.StepOK.yes 22 false 139 rfl rfl (fun L a w1 hh => hh.dep 22 139 (by kernel_rfl) (by kernel_rfl)) fun L a w1 hh => ?_
        have h142 := hh.v 25 142 rfl (by kernel_rfl) (by kernel_rfl)
        have hJ := Lib.hid hh.st
        clear hh
        go_simp
        exact ⟨_, rfl, regs.bl_refl _, rfl, hJ.out⟩
       ·refine regs.StepOK.plain rfl fun L a w1 hh => ?_
        have h139 := hh.v 22 139 rfl (by kernel_rfl) (by kernel_rfl)
        have h146 := hh.v 29 146 rfl (by kernel_rfl) (by kernel_rfl)
        have hJ := Lib.hid hh.st
        clear hh
        go_simp
        exact ⟨_, rfl, regs.bl_refl _, rfl, hJ.out⟩
       intro L w5 val hL hJ hR hv
       have h147 : val 147 = .bool false := hv 30 147 (by kernel_rfl)
       have HJ5 := Lib.hid hJ
       have HR5 := Lib.hid hR
       clear hv hL hJ hR
       simp only [regs.putAll, List.map_cons, List.map_nil]
       rw [h147]
       generalize val 117 = v117
       generalize val 118 = v118
       generalize val 119 = v119
       generalize val 120 = v120
       generalize val 121 = v121
       generalize val 122 = v122
       generalize val 123 = v123
       generalize val 124 = v124
       generalize val 125 = v125
       generalize val 126 = v126
       generalize val 127 = v127
       generalize val 128 = v128
       generalize val 129 = v129
       generalize val 130 = v130
       generalize val 131 = v131
       generalize val 132 = v132
       generalize val 133 = v133
       generalize val 134 = v134
       generalize val 135 = v135
       generalize val 136 = v136
       generalize val 137 = v137
       generalize val 138 = v138
       generalize val 139 = v139
       generalize val 140 = v140
       generalize val 141 = v141
       generalize val 142 = v142
       generalize val 143 = v143
       generalize val 144 = v144
       generalize val 145 = v145
       generalize val 146 = v146
       simp only [Act.put, List.setIfInBounds_toArray, List.set_cons_zero, List.set_cons_succ]
       clear h147
       go_wp2_with (fail)
       go_meet
       exact ⟨rfl, HJ5⟩
      ·cases yt
       ·refine regs.wp_region_put (regs.bl) (fun _ wx => CutsAt w (⟨ra, rb, rc, rd⟩ : Bx) (⟨sa, sb, sc, sd⟩ : Bx) (⟨ta, tb, tc, td⟩ : Bx) (⟨ca, cb, cc, cd⟩ : Bx) (⟨ja, jb, jc, jd⟩ : Bx) g7 g8 wx) [117, 118, 119, 120, 121, 122, 123, 124, 125, 126, 127, 128, 129, 130, 131, 132, 133, 134, 135, 136, 137, 138, 139, 140, 141, 142, 143, 144, 145, 146, 147] (by kernel_rfl) (by kernel_rfl) (fun _ => regs.bl_refl _) (regs.bl_trans) (fun i => (match i with
         | 0 => regs.Say.val _ (.agg #[.int .i64 ca, .int .i64 cb, .int .i64 cc, .int .i64 cd])
         | 1 => regs.Say.val _ (.bool false)
         | 2 => regs.Say.val _ (.bool false)
         | 3 => regs.Say.val _ (undef)
         | 4 => regs.Say.val _ (undef)
         | 5 => regs.Say.val _ (undef)
         | 6 => regs.Say.val _ (.bool false)
         | 7 => regs.Say.val _ (.bool false)
         | 8 => regs.Say.val _ (.agg #[.int .i64 ja, .int .i64 jb, .int .i64 jc, .int .i64 jd])
         | 9 => regs.Say.val _ (.bool false)
         | 10 => regs.Say.val _ (.agg #[.int .i64 ra, .int .i64 rb, .int .i64 rc, .int .i64 rd])
         | 11 => regs.Say.val _ (.bool true)
         | 12 => regs.Say.val _ (.bool true)
         | 13 => regs.Say.val _ (.agg #[.int .i64 sa, .int .i64 sb, .int .i64 sc, .int .i64 sd])
         | 14 => regs.Say.val _ (.bool true)
         | 15 => regs.Say.val _ (.bool true)
         | 16 => regs.Say.val _ (.bool true)
         | 17 => regs.Say.val _ (.agg #[.int .i64 ta, .int .i64 tb, .int .i64 tc, .int .i64 td])
         | 18 => regs.Say.val _ (.bool false)
         | 19 => regs.Say.val _ (.bool false)
         | 20 => regs.Say.val _ (.bool false)
         | 21 => regs.Say.val _ (.bool false)
         | 22 => regs.Say.val _ (.bool false)
         | 23 => regs.Say.val _ (.agg #[.int .i64 ja, .int .i64 jb, .int .i64 jc, .int .i64 jd])
         | 24 => regs.Say.val _ (.bool false)
         | 25 => regs.Say.val _ (.bool false)
         | 26 => regs.Say.val _ (undef)
         | 27 => regs.Say.val _ (undef)
         | 28 => regs.Say.val _ (undef)
         | 29 => regs.Say.val _ (.bool false)
         | 30 => regs.Say.val _ (.bool false)
         | _ => regs.Say.any _ : regs.Say (regs.bl)).p) (fun _ => regs.Say.mono _) (by kernel_rfl) ((Below.refl _ _).drew) (HA.out.below ((Below.refl _ _).drew)) ⟨?_, ?_, ?_, ?_, ?_, ?_, ?_, ?_, ?_, ?_, ?_, ?_, ?_, ?_, ?_, ?_, ?_, ?_, ?_, ?_, ?_, ?_, ?_, ?_, ?_, ?_, ?_, ?_, ?_, ?_, ?_, trivial⟩ ?_
        ·refine regs.StepOK.plain rfl fun L a w1 hh => ?_
         have h7 : a.tmps[7]?.getD undef = .pointer (some ⟨g7, 0, none⟩) := hh.kp 7 rfl rfl
         obtain ⟨⟨c0, c1, c2, c3⟩, -, -⟩ := (hh.st.1.2.2.2.1).c4
         have hJ := Lib.hid hh.st
         clear hh
         go_simp
         exact ⟨_, rfl, regs.bl_refl _, rfl, hJ.out⟩
        ·refine regs.StepOK.plain rfl fun L a w1 hh => ?_
         have h117 := hh.v 0 117 rfl (by kernel_rfl) (by kernel_rfl)
         have := True.intro
         have hJ := Lib.hid hh.st
         clear hh
         go_simp
         refine (bx_empty (⟨ca, cb, cc, cd⟩ : Bx) w1).mono ?_
         rintro e w9 ⟨rfl, hb9⟩
         exact ⟨_, rfl, hb9, congrArg Value.bool HYC.out, CutsAt.below hJ.out hb9⟩
        ·refine regs.StepOK.plain rfl fun L a w1 hh => ?_
         have h118 := hh.v 1 118 rfl (by kernel_rfl) (by kernel_rfl)
         have hJ := Lib.hid hh.st
         clear hh
         go_simp
         exact ⟨_, rfl, regs.bl_refl _, rfl, hJ.out⟩
        ·refine regs.StepOK.no 2 true 119 rfl rfl (fun L a w1 hh => ?_) fun L a w1 hh => ⟨rfl, hh.st⟩
         exact hh.dep 2 119 (by kernel_rfl) (by kernel_rfl)
        ·refine regs.StepOK.no 2 true 119 rfl rfl (fun L a w1 hh => ?_) fun L a w1 hh => ⟨rfl, hh.st⟩
         exact hh.dep 2 119 (by kernel_rfl) (by kernel_rfl)
        ·refine regs.StepOK.no 2 true 119 rfl rfl (fun L a w1 hh => ?_) fun L a w1 hh => ⟨rfl, hh.st⟩
         exact hh.dep 2 119 (by kernel_rfl) (by kernel_rfl)
        ·refine regs.StepOK.plain rfl fun L a w1 hh => ?_
         have h119 := hh.v 2 119 rfl (by kernel_rfl) (by kernel_rfl)
         have hJ := Lib.hid hh.st
         clear hh
         go_simp
         exact ⟨_, rfl, regs.bl_refl _, rfl, hJ.out⟩
        ·refine regs.StepOK.plain rfl fun L a w1 hh => ?_
         have h123 := hh.v 6 123 rfl (by kernel_rfl) (by kernel_rfl)
         have hJ := Lib.hid hh.st
         clear hh
         go_simp
         exact ⟨_, rfl, regs.bl_refl _, rfl, hJ.out⟩
        ·refine regs.StepOK.yes 7 false 124 rfl rfl (fun L a w1 hh => hh.dep 7 124 (by kernel_rfl) (by kernel_rfl)) fun L a w1 hh => ?_
         have h8 : a.tmps[8]?.getD undef = .pointer (some ⟨g8, 0, none⟩) := hh.kp 8 rfl rfl
         obtain ⟨⟨c0, c1, c2, c3⟩, -, -⟩ := (hh.st.1.2.2.2.2.1).c4
         have hJ := Lib.hid hh.st
         clear hh
         go_simp
         exact ⟨_, rfl, regs.bl_refl _, rfl, hJ.out⟩
        ·refine regs.StepOK.yes 7 false 124 rfl rfl (fun L a w1 hh => hh.dep 7 124 (by kernel_rfl) (by kernel_rfl)) fun L a w1 hh => ?_
         have h125 := hh.v 8 125 rfl (by kernel_rfl) (by kernel_rfl)
         have := True.intro
         have hJ := Lib.hid hh.st
         clear hh
         go_simp
         refine (bx_empty (⟨ja, jb, jc, jd⟩ : Bx) w1).mono ?_
         rintro e w9 ⟨rfl, hb9⟩
         exact ⟨_, rfl, hb9, congrArg Value.bool HJE.out, CutsAt.below hJ.out hb9⟩
        ·refine regs.StepOK.yes 7 false 124 rfl rfl (fun L a w1 hh => hh.dep 7 124 (by kernel_rfl) (by kernel_rfl)) fun L a w1 hh => ?_
         have h3 : a.tmps[3]?.getD undef = .pointer (some ⟨w.heap.size, 0, none⟩) := hh.kp 3 rfl rfl
         obtain ⟨⟨c0, c1, c2, c3⟩, -, -⟩ := (hh.st.1.1).c4
         have hJ := Lib.hid hh.st
         clear hh
         go_simp
         exact ⟨_, rfl, regs.bl_refl _, rfl, hJ.out⟩
        ·refine regs.StepOK.yes 7 false 124 rfl rfl (fun L a w1 hh => hh.dep 7 124 (by kernel_rfl) (by kernel_rfl)) fun L a w1 hh => ?_
         have h127 := hh.v 10 127 rfl (by kernel_rfl) (by kernel_rfl)
         have := True.intro
         have hJ := Lib.hid hh.st
         clear hh
         go_simp
         refine (bx_empty (⟨ra, rb, rc, rd⟩ : Bx) w1).mono ?_
         rintro e w9 ⟨rfl, hb9⟩
         exact ⟨_, rfl, hb9, congrArg Value.bool HYR.out, CutsAt.below hJ.out hb9⟩
        ·refine regs.StepOK.yes 7 false 124 rfl rfl (fun L a w1 hh => hh.dep 7 124 (by kernel_rfl) (by kernel_rfl)) fun L a w1 hh => ?_
         have h128 := hh.v 11 128 rfl (by kernel_rfl) (by kernel_rfl)
         have hJ := Lib.hid hh.st
         clear hh
         go_simp
         exact ⟨_, rfl, regs.bl_refl _, rfl, hJ.out⟩
        ·refine regs.StepOK.yes 12 true 129 rfl rfl (fun L a w1 hh => hh.dep 12 129 (by kernel_rfl) (by kernel_rfl)) fun L a w1 hh => ?_
         have h4 : a.tmps[4]?.getD undef = .pointer (some ⟨(w.heap.size + 1), 0, none⟩) := hh.kp 4 rfl rfl
         obtain ⟨⟨c0, c1, c2, c3⟩, -, -⟩ := (hh.st.1.2.1).c4
         have hJ := Lib.hid hh.st
         clear hh
         go_simp
         exact ⟨_, rfl, regs.bl_refl _, rfl, hJ.out⟩
        ·refine regs.StepOK.yes 12 true 129 rfl rfl (fun L a w1 hh => hh.dep 12 129 (by kernel_rfl) (by kernel_rfl)) fun L a w1 hh => ?_
         have h130 := hh.v 13 130 rfl (by kernel_rfl) (by kernel_rfl)
         have := True.intro
         have hJ := Lib.hid hh.st
         clear hh
         go_simp
         refine (bx_empty (⟨sa, sb, sc, sd⟩ : Bx) w1).mono ?_
         rintro e w9 ⟨rfl, hb9⟩
         exact ⟨_, rfl, hb9, congrArg Value.bool HYS.out, CutsAt.below hJ.out hb9⟩
        ·refine regs.StepOK.yes 7 false 124 rfl rfl (fun L a w1 hh => hh.dep 7 124 (by kernel_rfl) (by kernel_rfl)) fun L a w1 hh => ?_
         have h129 := hh.v 12 129 rfl (by kernel_rfl) (by kernel_rfl)
         have h131 := hh.v 14 131 rfl (by kernel_rfl) (by kernel_rfl)
         have hJ := Lib.hid hh.st
         clear hh
         go_simp
         exact ⟨_, rfl, regs.bl_refl _, rfl, hJ.out⟩
        ·refine regs.StepOK.yes 7 false 124 rfl rfl (fun L a w1 hh => hh.dep 7 124 (by kernel_rfl) (by kernel_rfl)) fun L a w1 hh => ?_
         have h132 := hh.v 15 132 rfl (by kernel_rfl) (by kernel_rfl)
         have hJ := Lib.hid hh.st
         clear hh
         go_simp
         exact ⟨_, rfl, regs.bl_refl _, rfl, hJ.out⟩
        ·refine regs.StepOK.yes 16 true 133 rfl rfl (fun L a w1 hh => hh.dep 16 133 (by kernel_rfl) (by kernel_rfl)) fun L a w1 hh => ?_
         have h5 : a.tmps[5]?.getD undef = .pointer (some ⟨(w.heap.size + 2), 0, none⟩) := hh.kp 5 rfl rfl
         obtain ⟨⟨c0, c1, c2, c3⟩, -, -⟩ := (hh.st.1.2.2.1).c4
         have hJ := Lib.hid hh.st
         clear hh
         go_simp
         exact ⟨_, rfl, regs.bl_refl _, rfl, hJ.out⟩
        ·refine regs.StepOK.yes 16 true 133 rfl rfl (fun L a w1 hh => hh.dep 16 133 (by kernel_rfl) (by kernel_rfl)) fun L a w1 hh => ?_
         have h134 := hh.v 17 134 rfl (by kernel_rfl) (by kernel_rfl)
         have := True.intro
         have hJ := Lib.hid hh.st
         clear hh
         go_simp
         refine (bx_empty (⟨ta, tb, tc, td⟩ : Bx) w1).mono ?_
         rintro e w9 ⟨rfl, hb9⟩
         exact ⟨_, rfl, hb9, congrArg Value.bool HYT.out, CutsAt.below hJ.out hb9⟩
        ·refine regs.StepOK.yes 7 false 124 rfl rfl (fun L a w1 hh => hh.dep 7 124 (by kernel_rfl) (by kernel_rfl)) fun L a w1 hh => ?_
         have h133 := hh.v 16 133 rfl (by kernel_rfl) (by kernel_rfl)
         have h135 := hh.v 18 135 rfl (by kernel_rfl) (by kernel_rfl)
         have hJ := Lib.hid hh.st
         clear hh
         go_simp
         exact ⟨_, rfl, regs.bl_refl _, rfl, hJ.out⟩
        ·refine regs.StepOK.yes 7 false 124 rfl rfl (fun L a w1 hh => hh.dep 7 124 (by kernel_rfl) (by kernel_rfl)) fun L a w1 hh => ?_
         have h126 := hh.v 9 126 rfl (by kernel_rfl) (by kernel_rfl)
         have h136 := hh.v 19 136 rfl (by kernel_rfl) (by kernel_rfl)
         have hJ := Lib.hid hh.st
         clear hh
         go_simp
         exact ⟨_, rfl, regs.bl_refl _, rfl, hJ.out⟩
        ·refine regs.StepOK.plain rfl fun L a w1 hh => ?_
         have h124 := hh.v 7 124 rfl (by kernel_rfl) (by kernel_rfl)
         have h137 := hh.v 20 137 rfl (by kernel_rfl) (by kernel_rfl)
         have hJ := Lib.hid hh.st
         clear hh
         go_simp
         exact ⟨_, rfl, regs.bl_refl _, rfl, hJ.out⟩
        ·refine regs.StepOK.plain rfl fun L a w1 hh => ?_
         have h138 := hh.v 21 138 rfl (by kernel_rfl) (by kernel_rfl)
         have hJ := Lib.hid hh.st
         clear hh
         go_simp
         exact ⟨_, rfl, regs.bl_refl _, rfl, hJ.out⟩
        ·refine regs.StepOK.yes 22 false 139 rfl rfl (fun L a w1 hh => hh.dep 22 139 (by kernel_rfl) (by kernel_rfl)) fun L a w1 hh => ?_
         have h8 : a.tmps[8]?.getD undef = .pointer (some ⟨g8, 0, none⟩) := hh.kp 8 rfl rfl
         obtain ⟨⟨c0, c1, c2, c3⟩, -, -⟩ := (hh.st.1.2.2.2.2.1).c4
         have hJ := Lib.hid hh.st
         clear hh
         go_simp
         exact ⟨_, rfl, regs.bl_refl _, rfl, hJ.out⟩
        ·refine regs.StepOK.yes 22 false 139 rfl rfl (fun L a w1 hh => hh.dep 22 139 (by kernel_rfl) (by kernel_rfl)) fun L a w1 hh => ?_
         have h140 := hh.v 23 140 rfl (by kernel_rfl) (by kernel_rfl)
         have := True.intro
         have hJ := Lib.hid hh.st
         clear hh
         go_simp
         refine (bx_empty (⟨ja, jb, jc, jd⟩ : Bx) w1).mono ?_
         rintro e w9 ⟨rfl, hb9⟩
         exact ⟨_, rfl, hb9, congrArg Value.bool HJE.out, CutsAt.below hJ.out hb9⟩
        ·refine regs.StepOK.yes 22 false 139 rfl rfl (fun L a w1 hh => hh.dep 22 139 (by kernel_rfl) (by kernel_rfl)) fun L a w1 hh => ?_
         have h141 := hh.v 24 141 rfl (by kernel_rfl) (by kernel_rfl)
         have hJ := Lib.hid hh.st
         clear hh
         go_simp
         exact ⟨_, rfl, regs.bl_refl _, rfl, hJ.out⟩
        ·refine regs.StepOK.no 25 true 142 rfl rfl (fun L a w1 hh => ?_) fun L a w1 hh => ⟨rfl, hh.st⟩
         exact hh.dep 25 142 (by kernel_rfl) (by kernel_rfl)
        ·refine regs.StepOK.no 25 true 142 rfl rfl (fun L a w1 hh => ?_) fun L a w1 hh => ⟨rfl, hh.st⟩
         exact hh.dep 25 142 (by kernel_rfl) (by kernel_rfl)
        ·refine regs.StepOK.no 25 true 142 rfl rfl (fun L a w1 hh => ?_) fun L a w1 hh => ⟨rfl, hh.st⟩
         exact hh.dep 25 142 (by kernel_rfl) (by kernel_rfl)
        ·refine regs.StepOK.yes 22 false 139 rfl rfl (fun L a w1 hh => hh.dep 22 139 (by kernel_rfl) (by kernel_rfl)) fun L a w1 hh => ?_
         have h142 := hh.v 25 142 rfl (by kernel_rfl) (by kernel_rfl)
         have hJ := Lib.hid hh.st
         clear hh
         go_simp
         exact ⟨_, rfl, regs.bl_refl _, rfl, hJ.out⟩
        ·refine regs.StepOK.plain rfl fun L a w1 hh => ?_
         have h139 := hh.v 22 139 rfl (by kernel_rfl) (by kernel_rfl)
         have h146 := hh.v 29 146 rfl (by kernel_rfl) (by kernel_rfl)
         have hJ := Lib.hid hh.st
         clear hh
         go_simp
         exact ⟨_, rfl, regs.bl_refl _, rfl, hJ.out⟩
        intro L w5 val hL hJ hR hv
        have h147 : val 147 = .bool false := hv 30 147 (by kernel_rfl)
        have HJ5 := Lib.hid hJ
        have HR5 := Lib.hid hR
        clear hv hL hJ hR
        simp only [regs.putAll, List.map_cons, List.map_nil]
        rw [h147]
        generalize val 117 = v117
        generalize val 118 = v118
        generalize val 119 = v119
        generalize val 120 = v120
        generalize val 121 = v121
        generalize val 122 = v122
        generalize val 123 = v123
        generalize val 124 = v124
        generalize val 125 = v125
        generalize val 126 = v126
        generalize val 127 = v127
        generalize val 128 = v128
        generalize val 129 = v129
        generalize val 130 = v130
        generalize val 131 = v131
        generalize val 132 = v132
        generalize val 133 = v133
        generalize val 134 = v134
        generalize val 135 = v135
        generalize val 136 = v136
        generalize val 137 = v137
        generalize val 138 = v138
        generalize val 139 = v139
        generalize val 140 = v140
        generalize val 141 = v141
        generalize val 142 = v142
        generalize val 143 = v143
        generalize val 144 = v144
        generalize val 145 = v145
        generalize val 146 = v146
        simp only [Act.put, List.setIfInBounds_toArray, List.set_cons_zero, List.set_cons_succ]
        clear h147
        go_wp2_with (fail)
        go_meet
        exact ⟨rfl, HJ5⟩
       ·refine regs.wp_region_put (regs.bl) (fun _ wx => CutsAt w (⟨ra, rb, rc, rd⟩ : Bx) (⟨sa, sb, sc, sd⟩ : Bx) (⟨ta, tb, tc, td⟩ : Bx) (⟨ca, cb, cc, cd⟩ : Bx) (⟨ja, jb, jc, jd⟩ : Bx) g7 g8 wx) [117, 118, 119, 120, 121, 122, 123, 124, 125, 126, 127, 128, 129, 130, 131, 132, 133, 134, 135, 136, 137, 138, 139, 140, 141, 142, 143, 144, 145, 146, 147] (by kernel_rfl) (by kernel_rfl) (fun _ => regs.bl_refl _) (regs.bl_trans) (fun i => (match i with
         | 0 => regs.Say.val _ (.agg #[.int .i64 ca, .int .i64 cb, .int .i64 cc, .int .i64 cd])
         | 1 => regs.Say.val _ (.bool false)
         | 2 => regs.Say.val _ (.bool false)
         | 3 => regs.Say.val _ (undef)
         | 4 => regs.Say.val _ (undef)
         | 5 => regs.Say.val _ (undef)
         | 6 => regs.Say.val _ (.bool false)
         | 7 => regs.Say.val _ (.bool false)
         | 8 => regs.Say.val _ (.agg #[.int .i64 ja, .int .i64 jb, .int .i64 jc, .int .i64 jd])
         | 9 => regs.Say.val _ (.bool true)
         | 10 => regs.Say.val _ (.agg #[.int .i64 ra, .int .i64 rb, .int .i64 rc, .int .i64 rd])
         | 11 => regs.Say.val _ (.bool true)
         | 12 => regs.Say.val _ (.bool true)
         | 13 => regs.Say.val _ (.agg #[.int .i64 sa, .int .i64 sb, .int .i64 sc, .int .i64 sd])
         | 14 => regs.Say.val _ (.bool true)
         | 15 => regs.Say.val _ (.bool true)
         | 16 => regs.Say.val _ (.bool true)
         | 17 => regs.Say.val _ (.agg #[.int .i64 ta, .int .i64 tb, .int .i64 tc, .int .i64 td])
         | 18 => regs.Say.val _ (.bool true)
         | 19 => regs.Say.val _ (.bool true)
         | 20 => regs.Say.val _ (.bool false)
         | 21 => regs.Say.val _ (.bool false)
         | 22 => regs.Say.val _ (.bool false)
         | 23 => regs.Say.val _ (.agg #[.int .i64 ja, .int .i64 jb, .int .i64 jc, .int .i64 jd])
         | 24 => regs.Say.val _ (.bool true)
         | 25 => regs.Say.val _ (.bool true)
         | 26 => regs.Say.val _ (.agg #[.int .i64 ja, .int .i64 jb, .int .i64 jc, .int .i64 jd])
         | 27 => regs.Say.val _ (.agg #[.int .i64 0, .int .i64 0, .int .i64 0, .int .i64 0])
         | 28 => regs.Say.val _ (.bool false)
         | 29 => regs.Say.val _ (.bool false)
         | 30 => regs.Say.val _ (.bool false)
         | _ => regs.Say.any _ : regs.Say (regs.bl)).p) (fun _ => regs.Say.mono _) (by kernel_rfl) ((Below.refl _ _).drew) (HA.out.below ((Below.refl _ _).drew)) ⟨?_, ?_, ?_, ?_, ?_, ?_, ?_, ?_, ?_, ?_, ?_, ?_, ?_, ?_, ?_, ?_, ?_, ?_, ?_, ?_, ?_, ?_, ?_, ?_, ?_, ?_, ?_, ?_, ?_, ?_, ?_, trivial⟩ ?_
        ·refine regs.StepOK.plain rfl fun L a w1 hh => ?_
         have h7 : a.tmps[7]?.getD undef = .pointer (some ⟨g7, 0, none⟩) := hh.kp 7 rfl rfl
         obtain ⟨⟨c0, c1, c2, c3⟩, -, -⟩ := (hh.st.1.2.2.2.1).c4
         have hJ := Lib.hid hh.st
         clear hh
         go_simp
         exact ⟨_, rfl, regs.bl_refl _, rfl, hJ.out⟩
        ·refine regs.StepOK.plain rfl fun L a w1 hh => ?_
         have h117 := hh.v 0 117 rfl (by kernel_rfl) (by kernel_rfl)
         have := True.intro
         have hJ := Lib.hid hh.st
         clear hh
         go_simp
         refine (bx_empty (⟨ca, cb, cc, cd⟩ : Bx) w1).mono ?_
         rintro e w9 ⟨rfl, hb9⟩
         exact ⟨_, rfl, hb9, congrArg Value.bool HYC.out, CutsAt.below hJ.out hb9⟩
        ·refine regs.StepOK.plain rfl fun L a w1 hh => ?_
         have h118 := hh.v 1 118 rfl (by kernel_rfl) (by kernel_rfl)
         have hJ := Lib.hid hh.st
         clear hh
         go_simp
         exact ⟨_, rfl, regs.bl_refl _, rfl, hJ.out⟩
        ·refine regs.StepOK.no 2 true 119 rfl rfl (fun L a w1 hh => ?_) fun L a w1 hh => ⟨rfl, hh.st⟩
         exact hh.dep 2 119 (by kernel_rfl) (by kernel_rfl)
        ·refine regs.StepOK.no 2 true 119 rfl rfl (fun L a w1 hh => ?_) fun L a w1 hh => ⟨rfl, hh.st⟩
         exact hh.dep 2 119 (by kernel_rfl) (by kernel_rfl)
        ·refine regs.StepOK.no 2 true 119 rfl rfl (fun L a w1 hh => ?_) fun L a w1 hh => ⟨rfl, hh.st⟩
         exact hh.dep 2 119 (by kernel_rfl) (by kernel_rfl)
        ·refine regs.StepOK.plain rfl fun L a w1 hh => ?_
         have h119 := hh.v 2 119 rfl (by kernel_rfl) (by kernel_rfl)
         have hJ := Lib.hid hh.st
         clear hh
         go_simp
         exact ⟨_, rfl, regs.bl_refl _, rfl, hJ.out⟩
        ·refine regs.StepOK.plain rfl fun L a w1 hh => ?_
         have h123 := hh.v 6 123 rfl (by kernel_rfl) (by kernel_rfl)
         have hJ := Lib.hid hh.st
         clear hh
         go_simp
         exact ⟨_, rfl, regs.bl_refl _, rfl, hJ.out⟩
        ·refine regs.StepOK.yes 7 false 124 rfl rfl (fun L a w1 hh => hh.dep 7 124 (by kernel_rfl) (by kernel_rfl)) fun L a w1 hh => ?_
         have h8 : a.tmps[8]?.getD undef = .pointer (some ⟨g8, 0, none⟩) := hh.kp 8 rfl rfl
         obtain ⟨⟨c0, c1, c2, c3⟩, -, -⟩ := (hh.st.1.2.2.2.2.1).c4
         have hJ := Lib.hid hh.st
         clear hh
         go_simp
         exact ⟨_, rfl, regs.bl_refl _, rfl, hJ.out⟩
        ·refine regs.StepOK.yes 7 false 124 rfl rfl (fun L a w1 hh => hh.dep 7 124 (by kernel_rfl) (by kernel_rfl)) fun L a w1 hh => ?_
         have h125 := hh.v 8 125 rfl (by kernel_rfl) (by kernel_rfl)
         have := True.intro
         have hJ := Lib.hid hh.st
         clear hh
         go_simp
         refine (bx_empty (⟨ja, jb, jc, jd⟩ : Bx) w1).mono ?_
         rintro e w9 ⟨rfl, hb9⟩
         exact ⟨_, rfl, hb9, congrArg Value.bool HJE.out, CutsAt.below hJ.out hb9⟩
        ·refine regs.StepOK.yes 7 false 124 rfl rfl (fun L a w1 hh => hh.dep 7 124 (by kernel_rfl) (by kernel_rfl)) fun L a w1 hh => ?_
         have h3 : a.tmps[3]?.getD undef = .pointer (some ⟨w.heap.size, 0, none⟩) := hh.kp 3 rfl rfl
         obtain ⟨⟨c0, c1, c2, c3⟩, -, -⟩ := (hh.st.1.1).c4
         have hJ := Lib.hid hh.st
         clear hh
         go_simp
         exact ⟨_, rfl, regs.bl_refl _, rfl, hJ.out⟩
        ·refine regs.StepOK.yes 7 false 124 rfl rfl (fun L a w1 hh => hh.dep 7 124 (by kernel_rfl) (by kernel_rfl)) fun L a w1 hh => ?_
         have h127 := hh.v 10 127 rfl (by kernel_rfl) (by kernel_rfl)
         have := True.intro
         have hJ := Lib.hid hh.st
         clear hh
         go_simp
         refine (bx_empty (⟨ra, rb, rc, rd⟩ : Bx) w1).mono ?_
         rintro e w9 ⟨rfl, hb9⟩
         exact ⟨_, rfl, hb9, congrArg Value.bool HYR.out, CutsAt.below hJ.out hb9⟩
        ·refine regs.StepOK.yes 7 false 124 rfl rfl (fun L a w1 hh => hh.dep 7 124 (by kernel_rfl) (by kernel_rfl)) fun L a w1 hh => ?_
         have h128 := hh.v 11 128 rfl (by kernel_rfl) (by kernel_rfl)
         have hJ := Lib.hid hh.st
         clear hh
         go_simp
         exact ⟨_, rfl, regs.bl_refl _, rfl, hJ.out⟩
        ·refine regs.StepOK.yes 12 true 129 rfl rfl (fun L a w1 hh => hh.dep 12 129 (by kernel_rfl) (by kernel_rfl)) fun L a w1 hh => ?_
         have h4 : a.tmps[4]?.getD undef = .pointer (some ⟨(w.heap.size + 1), 0, none⟩) := hh.kp 4 rfl rfl
         obtain ⟨⟨c0, c1, c2, c3⟩, -, -⟩ := (hh.st.1.2.1).c4
         have hJ := Lib.hid hh.st
         clear hh
         go_simp
         exact ⟨_, rfl, regs.bl_refl _, rfl, hJ.out⟩
        ·refine regs.StepOK.yes 12 true 129 rfl rfl (fun L a w1 hh => hh.dep 12 129 (by kernel_rfl) (by kernel_rfl)) fun L a w1 hh => ?_
         have h130 := hh.v 13 130 rfl (by kernel_rfl) (by kernel_rfl)
         have := True.intro
         have hJ := Lib.hid hh.st
         clear hh
         go_simp
         refine (bx_empty (⟨sa, sb, sc, sd⟩ : Bx) w1).mono ?_
         rintro e w9 ⟨rfl, hb9⟩
         exact ⟨_, rfl, hb9, congrArg Value.bool HYS.out, CutsAt.below hJ.out hb9⟩
        ·refine regs.StepOK.yes 7 false 124 rfl rfl (fun L a w1 hh => hh.dep 7 124 (by kernel_rfl) (by kernel_rfl)) fun L a w1 hh => ?_
         have h129 := hh.v 12 129 rfl (by kernel_rfl) (by kernel_rfl)
         have h131 := hh.v 14 131 rfl (by kernel_rfl) (by kernel_rfl)
         have hJ := Lib.hid hh.st
         clear hh
         go_simp
         exact ⟨_, rfl, regs.bl_refl _, rfl, hJ.out⟩
        ·refine regs.StepOK.yes 7 false 124 rfl rfl (fun L a w1 hh => hh.dep 7 124 (by kernel_rfl) (by kernel_rfl)) fun L a w1 hh => ?_
         have h132 := hh.v 15 132 rfl (by kernel_rfl) (by kernel_rfl)
         have hJ := Lib.hid hh.st
         clear hh
         go_simp
         exact ⟨_, rfl, regs.bl_refl _, rfl, hJ.out⟩
        ·refine regs.StepOK.yes 16 true 133 rfl rfl (fun L a w1 hh => hh.dep 16 133 (by kernel_rfl) (by kernel_rfl)) fun L a w1 hh => ?_
         have h5 : a.tmps[5]?.getD undef = .pointer (some ⟨(w.heap.size + 2), 0, none⟩) := hh.kp 5 rfl rfl
         obtain ⟨⟨c0, c1, c2, c3⟩, -, -⟩ := (hh.st.1.2.2.1).c4
         have hJ := Lib.hid hh.st
         clear hh
         go_simp
         exact ⟨_, rfl, regs.bl_refl _, rfl, hJ.out⟩
        ·refine regs.StepOK.yes 16 true 133 rfl rfl (fun L a w1 hh => hh.dep 16 133 (by kernel_rfl) (by kernel_rfl)) fun L a w1 hh => ?_
         have h134 := hh.v 17 134 rfl (by kernel_rfl) (by kernel_rfl)
         have := True.intro
         have hJ := Lib.hid hh.st
         clear hh
         go_simp
         refine (bx_empty (⟨ta, tb, tc, td⟩ : Bx) w1).mono ?_
         rintro e w9 ⟨rfl, hb9⟩
         exact ⟨_, rfl, hb9, congrArg Value.bool HYT.out, CutsAt.below hJ.out hb9⟩
        ·refine regs.StepOK.yes 7 false 124 rfl rfl (fun L a w1 hh => hh.dep 7 124 (by kernel_rfl) (by kernel_rfl)) fun L a w1 hh => ?_
         have h133 := hh.v 16 133 rfl (by kernel_rfl) (by kernel_rfl)
         have h135 := hh.v 18 135 rfl (by kernel_rfl) (by kernel_rfl)
         have hJ := Lib.hid hh.st
         clear hh
         go_simp
         exact ⟨_, rfl, regs.bl_refl _, rfl, hJ.out⟩
        ·refine regs.StepOK.yes 7 false 124 rfl rfl (fun L a w1 hh => hh.dep 7 124 (by kernel_rfl) (by kernel_rfl)) fun L a w1 hh => ?_
         have h126 := hh.v 9 126 rfl (by kernel_rfl) (by kernel_rfl)
         have h136 := hh.v 19 136 rfl (by kernel_rfl) (by kernel_rfl)
         have hJ := Lib.hid hh.st
         clear hh
         go_simp
         exact ⟨_, rfl, regs.bl_refl _, rfl, hJ.out⟩
        ·refine regs.StepOK.plain rfl fun L a w1 hh => ?_
         have h124 := hh.v 7 124 rfl (by kernel_rfl) (by kernel_rfl)
         have h137 := hh.v 20 137 rfl (by kernel_rfl) (by kernel_rfl)
         have hJ := Lib.hid hh.st
         clear hh
         go_simp
         exact ⟨_, rfl, regs.bl_refl _, rfl, hJ.out⟩
        ·refine regs.StepOK.plain rfl fun L a w1 hh => ?_
         have h138 := hh.v 21 138 rfl (by kernel_rfl) (by kernel_rfl)
         have hJ := Lib.hid hh.st
         clear hh
         go_simp
         exact ⟨_, rfl, regs.bl_refl _, rfl, hJ.out⟩
        ·refine regs.StepOK.yes 22 false 139 rfl rfl (fun L a w1 hh => hh.dep 22 139 (by kernel_rfl) (by kernel_rfl)) fun L a w1 hh => ?_
         have h8 : a.tmps[8]?.getD undef = .pointer (some ⟨g8, 0, none⟩) := hh.kp 8 rfl rfl
         obtain ⟨⟨c0, c1, c2, c3⟩, -, -⟩ := (hh.st.1.2.2.2.2.1).c4
         have hJ := Lib.hid hh.st
         clear hh
         go_simp
         exact ⟨_, rfl, regs.bl_refl _, rfl, hJ.out⟩
        ·refine regs.StepOK.yes 22 false 139 rfl rfl (fun L a w1 hh => hh.dep 22 139 (by kernel_rfl) (by kernel_rfl)) fun L a w1 hh => ?_
         have h140 := hh.v 23 140 rfl (by kernel_rfl) (by kernel_rfl)
         have := True.intro
         have hJ := Lib.hid hh.st
         clear hh
         go_simp
         refine (bx_empty (⟨ja, jb, jc, jd⟩ : Bx) w1).mono ?_
         rintro e w9 ⟨rfl, hb9⟩
         exact ⟨_, rfl, hb9, congrArg Value.bool HJE.out, CutsAt.below hJ.out hb9⟩
        ·refine regs.StepOK.yes 22 false 139 rfl rfl (fun L a w1 hh => hh.dep 22 139 (by kernel_rfl) (by kernel_rfl)) fun L a w1 hh => ?_
         have h141 := hh.v 24 141 rfl (by kernel_rfl) (by kernel_rfl)
         have hJ := Lib.hid hh.st
         clear hh
         go_simp
         exact ⟨_, rfl, regs.bl_refl _, rfl, hJ.out⟩
        ·refine regs.StepOK.yes 25 true 142 rfl rfl (fun L a w1 hh => hh.dep 25 142 (by kernel_rfl) (by kernel_rfl)) fun L a w1 hh => ?_
         have h8 : a.tmps[8]?.getD undef = .pointer (some ⟨g8, 0, none⟩) := hh.kp 8 rfl rfl
         obtain ⟨⟨c0, c1, c2, c3⟩, -, -⟩ := (hh.st.1.2.2.2.2.1).c4
         have hJ := Lib.hid hh.st
         clear hh
         go_simp
         exact ⟨_, rfl, regs.bl_refl _, rfl, hJ.out⟩
        ·refine regs.StepOK.yes 25 true 142 rfl rfl (fun L a w1 hh => hh.dep 25 142 (by kernel_rfl) (by kernel_rfl)) fun L a w1 hh => ?_
         have hJ := Lib.hid hh.st
         clear hh
         go_simp
         exact ⟨_, rfl, regs.bl_refl _, rfl, hJ.out⟩
        ·refine regs.StepOK.yes 25 true 142 rfl rfl (fun L a w1 hh => hh.dep 25 142 (by kernel_rfl) (by kernel_rfl)) fun L a w1 hh => ?_
         have h143 := hh.v 26 143 rfl (by kernel_rfl) (by kernel_rfl)
         have h144 := hh.v 27 144 rfl (by kernel_rfl) (by kernel_rfl)
         have eqst := fun w => bx_neq (⟨ja, jb, jc, jd⟩ : Bx) (⟨0, 0, 0, 0⟩ : Bx) w
         rw [show (!decide ((⟨ja, jb, jc, jd⟩ : Bx) = (⟨0, 0, 0, 0⟩ : Bx))) = false from by rw [show ((⟨ja, jb, jc, jd⟩ : Bx) : Bx) = Bx.o from HJO.out HJE.out]; decide] at eqst
         unfold Bx.v at eqst
         simp only at eqst
         have hJ := Lib.hid hh.st
         clear hh
         go_simp
         exact ⟨_, rfl, regs.bl_refl _, rfl, hJ.out⟩
        ·refine regs.StepOK.yes 22 false 139 rfl rfl (fun L a w1 hh => hh.dep 22 139 (by kernel_rfl) (by kernel_rfl)) fun L a w1 hh => ?_
         have h142 := hh.v 25 142 rfl (by kernel_rfl) (by kernel_rfl)
         have h145 := hh.v 28 145 rfl (by kernel_rfl) (by kernel_rfl)
         have hJ := Lib.hid hh.st
         clear hh
         go_simp
         exact ⟨_, rfl, regs.bl_refl _, rfl, hJ.out⟩
        ·refine regs.StepOK.plain rfl fun L a w1 hh => ?_
         have h139 := hh.v 22 139 rfl (by kernel_rfl) (by kernel_rfl)
         have h146 := hh.v 29 146 rfl (by kernel_rfl) (by kernel_rfl)
         have hJ := Lib.hid hh.st
         clear hh
         go_simp
         exact ⟨_, rfl, regs.bl_refl _, rfl, hJ.out⟩
        intro L w5 val hL hJ hR hv
        have h147 : val 147 = .bool false := hv 30 147 (by kernel_rfl)
        have HJ5 := Lib.hid hJ
        have HR5 := Lib.hid hR
        clear hv hL hJ hR
        simp only [regs.putAll, List.map_cons, List.map_nil]
        rw [h147]
        generalize val 117 = v117
        generalize val 118 = v118
        generalize val 119 = v119
        generalize val 120 = v120
        generalize val 121 = v121
        generalize val 122 = v122
        generalize val 123 = v123
        generalize val 124 = v124
        generalize val 125 = v125
        generalize val 126 = v126
        generalize val 127 = v127
        generalize val 128 = v128
        generalize val 129 = v129
        generalize val 130 = v130
        generalize val 131 = v131
        generalize val 132 = v132
        generalize val 133 = v133
        generalize val 134 = v134
        generalize val 135 = v135
        generalize val 136 = v136
        generalize val 137 = v137
        generalize val 138 = v138
        generalize val 139 = v139
        generalize val 140 = v140
        generalize val 141 = v141
        generalize val 142 = v142
        generalize val 143 = v143
        generalize val 144 = v144
        generalize val 145 = v145
        generalize val 146 = v146
        simp only [Act.put, List.setIfInBounds_toArray, List.set_cons_zero, List.set_cons_succ]
        clear h147
        go_wp2_with (fail)
        go_meet
        exact ⟨rfl, HJ5⟩
    ·cases yr
     ·refine regs.wp_region_put (regs.bl) (fun _ wx => CutsAt w (⟨ra, rb, rc, rd⟩ : Bx) (⟨sa, sb, sc, sd⟩ : Bx) (⟨ta, tb, tc, td⟩ : Bx) (⟨ca, cb, cc, cd⟩ : Bx) (⟨ja, jb, jc, jd⟩ : Bx) g7 g8 wx) [117, 118, 119, 120, 121, 122, 123, 124, 125, 126, 127, 128, 129, 130, 131, 132, 133, 134, 135, 136, 137, 138, 139, 140, 141, 142, 143, 144, 145, 146, 147] (by kernel_rfl) (by kernel_rfl) (fun _ => regs.bl_refl _) (regs.bl_trans) (fun i => (match i with
       | 0 => regs.Say.val _ (.agg #[.int .i64 ca, .int .i64 cb, .int .i64 cc, .int .i64 cd])
       | 1 => regs.Say.val _ (.bool true)
       | 2 => regs.Say.val _ (.bool true)
       | 3 => regs.Say.val _ (.agg #[.int .i64 ca, .int .i64 cb, .int .i64 cc, .int .i64 cd])
       | 4 => regs.Say.val _ (.agg #[.int .i64 0, .int .i64 0, .int .i64 0, .int .i64 0])
       | 5 => regs.Say.val _ (.bool false)
       | 6 => regs.Say.val _ (.bool false)
       | 7 => regs.Say.val _ (.bool false)
       | 8 => regs.Say.val _ (.agg #[.int .i64 ja, .int .i64 jb, .int .i64 jc, .int .i64 jd])
       | 9 => regs.Say.val _ (.bool false)
       | 10 => regs.Say.val _ (.agg #[.int .i64 ra, .int .i64 rb, .int .i64 rc, .int .i64 rd])
       | 11 => regs.Say.val _ (.bool false)
       | 12 => regs.Say.val _ (.bool false)
       | 13 => regs.Say.val _ (undef)
       | 14 => regs.Say.val _ (undef)
       | 15 => regs.Say.val _ (.bool false)
       | 16 => regs.Say.val _ (.bool false)
       | 17 => regs.Say.val _ (undef)
       | 18 => regs.Say.val _ (undef)
       | 19 => regs.Say.val _ (.bool false)
       | 20 => regs.Say.val _ (.bool false)
       | 21 => regs.Say.val _ (.bool false)
       | 22 => regs.Say.val _ (.bool false)
       | 23 => regs.Say.val _ (.agg #[.int .i64 ja, .int .i64 jb, .int .i64 jc, .int .i64 jd])
       | 24 => regs.Say.val _ (.bool false)
       | 25 => regs.Say.val _ (.bool false)
       | 26 => regs.Say.val _ (undef)
       | 27 => regs.Say.val _ (undef)
       | 28 => regs.Say.val _ (undef)
       | 29 => regs.Say.val _ (.bool false)
       | 30 => regs.Say.val _ (.bool false)
       | _ => regs.Say.any _ : regs.Say (regs.bl)).p) (fun _ => regs.Say.mono _) (by kernel_rfl) ((Below.refl _ _).drew) (HA.out.below ((Below.refl _ _).drew)) ⟨?_, ?_, ?_, ?_, ?_, ?_, ?_, ?_, ?_, ?_, ?_, ?_, ?_, ?_, ?_, ?_, ?_, ?_, ?_, ?_, ?_, ?_, ?_, ?_, ?_, ?_, ?_, ?_, ?_, ?_, ?_, trivial⟩ ?_
      ·refine regs.StepOK.plain rfl fun L a w1 hh => ?_
       have h7 : a.tmps[7]?.getD undef = .pointer (some ⟨g7, 0, none⟩) := hh.kp 7 rfl rfl
       obtain ⟨⟨c0, c1, c2, c3⟩, -, -⟩ := (hh.st.1.2.2.2.1).c4
       have hJ := Lib.hid hh.st
       clear hh
       go_simp
       exact ⟨_, rfl, regs.bl_refl _, rfl, hJ.out⟩
      ·refine regs.StepOK.plain rfl fun L a w1 hh => ?_
       have h117 := hh.v 0 117 rfl (by kernel_rfl) (by kernel_rfl)
       have := True.intro
       have hJ := Lib.hid hh.st
       clear hh
       go_simp
       refine (bx_empty (⟨ca, cb, cc, cd⟩ : Bx) w1).mono ?_
       rintro e w9 ⟨rfl, hb9⟩
       exact ⟨_, rfl, hb9, congrArg Value.bool HYC.out, CutsAt.below hJ.out hb9⟩
      ·refine regs.StepOK.plain rfl fun L a w1 hh => ?_
       have h118 := hh.v 1 118 rfl (by kernel_rfl) (by kernel_rfl)
       have hJ := Lib.hid hh.st
       clear hh
       go_simp
       exact ⟨_, rfl, regs.bl_refl _, rfl, hJ.out⟩
      ·refine regs.StepOK.yes 2 true 119 rfl rfl (fun L a w1 hh => hh.dep 2 119 (by kernel_rfl) (by kernel_rfl)) fun L a w1 hh => ?_
       have h7 : a.tmps[7]?.getD undef = .pointer (some ⟨g7, 0, none⟩) := hh.kp 7 rfl rfl
       obtain ⟨⟨c0, c1, c2, c3⟩, -, -⟩ := (hh.st.1.2.2.2.1).c4
       have hJ := Lib.hid hh.st
       clear hh
       go_simp
       exact ⟨_, rfl, regs.bl_refl _, rfl, hJ.out⟩
      ·refine regs.StepOK.yes 2 true 119 rfl rfl (fun L a w1 hh => hh.dep 2 119 (by kernel_rfl) (by kernel_rfl)) fun L a w1 hh => ?_
       have hJ := Lib.hid hh.st
       clear hh
       go_simp
       exact ⟨_, rfl, regs.bl_refl _, rfl, hJ.out⟩
      ·refine regs.StepOK.yes 2 true 119 rfl rfl (fun L a w1 hh => hh.dep 2 119 (by kernel_rfl) (by kernel_rfl)) fun L a w1 hh => ?_
       have h120 := hh.v 3 120 rfl (by kernel_rfl) (by kernel_rfl)
       have h121 := hh.v 4 121 rfl (by kernel_rfl) (by kernel_rfl)
       have eqst := fun w => bx_neq (⟨ca, cb, cc, cd⟩ : Bx) (⟨0, 0, 0, 0⟩ : Bx) w
       rw [show (!decide ((⟨ca, cb, cc, cd⟩ : Bx) = (⟨0, 0, 0, 0⟩ : Bx))) = false from by rw [show ((⟨ca, cb, cc, cd⟩ : Bx) : Bx) = Bx.o from HCE.out HYC.out]; decide] at eqst
       unfold Bx.v at eqst
       simp only at eqst
       have hJ := Lib.hid hh.st
       clear hh
       go_simp
       exact ⟨_, rfl, regs.bl_refl _, rfl, hJ.out⟩
      ·refine regs.StepOK.plain rfl fun L a w1 hh => ?_
       have h119 := hh.v 2 119 rfl (by kernel_rfl) (by kernel_rfl)
       have h122 := hh.v 5 122 rfl (by kernel_rfl) (by kernel_rfl)
       have hJ := Lib.hid hh.st
       clear hh
       go_simp
       exact ⟨_, rfl, regs.bl_refl _, rfl, hJ.out⟩
      ·refine regs.StepOK.plain rfl fun L a w1 hh => ?_
       have h123 := hh.v 6 123 rfl (by kernel_rfl) (by kernel_rfl)
       have hJ := Lib.hid hh.st
       clear hh
       go_simp
       exact ⟨_, rfl, regs.bl_refl _, rfl, hJ.out⟩
      ·refine regs.StepOK.yes 7 false 124 rfl rfl (fun L a w1 hh => hh.dep 7 124 (by kernel_rfl) (by kernel_rfl)) fun L a w1 hh => ?_
       have h8 : a.tmps[8]?.getD undef = .pointer (some ⟨g8, 0, none⟩) := hh.kp 8 rfl rfl
       obtain ⟨⟨c0, c1, c2, c3⟩, -, -⟩ := (hh.st.1.2.2.2.2.1).c4
       have hJ := Lib.hid hh.st
       clear hh
       go_simp
       exact ⟨_, rfl, regs.bl_refl _, rfl, hJ.out⟩
      ·refine regs.StepOK.yes 7 false 124 rfl rfl (fun L a w1 hh => hh.dep 7 124 (by kernel_rfl) (by kernel_rfl)) fun L a w1 hh => ?_
       have h125 := hh.v 8 125 rfl (by kernel_rfl) (by kernel_rfl)
       have := True.intro
       have hJ := Lib.hid hh.st
       clear hh
       go_simp
       refine (bx_empty (⟨ja, jb, jc, jd⟩ : Bx) w1).mono ?_
       rintro e w9 ⟨rfl, hb9⟩
       exact ⟨_, rfl, hb9, congrArg Value.bool HJE.out, CutsAt.below hJ.out hb9⟩
      ·refine regs.StepOK.yes 7 false 124 rfl rfl (fun L a w1 hh => hh.dep 7 124 (by kernel_rfl) (by kernel_rfl)) fun L a w1 hh => ?_
       have h3 : a.tmps[3]?.getD undef = .pointer (some ⟨w.heap.size, 0, none⟩) := hh.kp 3 rfl rfl
       obtain ⟨⟨c0, c1, c2, c3⟩, -, -⟩ := (hh.st.1.1).c4
       have hJ := Lib.hid hh.st
       clear hh
       go_simp
       exact ⟨_, rfl, regs.bl_refl _, rfl, hJ.out⟩
      ·refine regs.StepOK.yes 7 false 124 rfl rfl (fun L a w1 hh => hh.dep 7 124 (by kernel_rfl) (by kernel_rfl)) fun L a w1 hh => ?_
       have h127 := hh.v 10 127 rfl (by kernel_rfl) (by kernel_rfl)
       have := True.intro
       have hJ := Lib.hid hh.st
       clear hh
       go_simp
       refine (bx_empty (⟨ra, rb, rc, rd⟩ : Bx) w1).mono ?_
       rintro e w9 ⟨rfl, hb9⟩
       exact ⟨_, rfl, hb9, congrArg Value.bool HYR.out, CutsAt.below hJ.out hb9⟩
      ·refine regs.StepOK.yes 7 false 124 rfl rfl (fun L a w1 hh => hh.dep 7 124 (by kernel_rfl) (by kernel_rfl)) fun L a w1 hh => ?_
       have h128 := hh.v 11 128 rfl (by kernel_rfl) (by kernel_rfl)
       have hJ := Lib.hid hh.st
       clear hh
       go_simp
       exact ⟨_, rfl, regs.bl_refl _, rfl, hJ.out⟩
      ·refine regs.StepOK.no 12 true 129 rfl rfl (fun L a w1 hh => ?_) fun L a w1 hh => ⟨rfl, hh.st⟩
       exact hh.dep 12 129 (by kernel_rfl) (by kernel_rfl)
      ·refine regs.StepOK.no 12 true 129 rfl rfl (fun L a w1 hh => ?_) fun L a w1 hh => ⟨rfl, hh.st⟩
       exact hh.dep 12 129 (by kernel_rfl) (by kernel_rfl)
      ·refine regs.StepOK.yes 7 false 124 rfl rfl (fun L a w1 hh => hh.dep 7 124 (by kernel_rfl) (by kernel_rfl)) fun L a w1 hh => ?_
       have h129 := hh.v 12 129 rfl (by kernel_rfl) (by kernel_rfl)
       have hJ := Lib.hid hh.st
       clear hh
       go_simp
       exact ⟨_, rfl, regs.bl_refl _, rfl, hJ.out⟩
      ·refine regs.StepOK.yes 7 false 124 rfl rfl (fun L a w1 hh => hh.dep 7 124 (by kernel_rfl) (by kernel_rfl)) fun L a w1 hh => ?_
       have h132 := hh.v 15 132 rfl (by kernel_rfl) (by kernel_rfl)
       have hJ := Lib.hid hh.st
       clear hh
       go_simp
       exact ⟨_, rfl, regs.bl_refl _, rfl, hJ.out⟩
      ·refine regs.StepOK.no 16 true 133 rfl rfl (fun L a w1 hh => ?_) fun L a w1 hh => ⟨rfl, hh.st⟩
       exact hh.dep 16 133 (by kernel_rfl) (by kernel_rfl)
      ·refine regs.StepOK.no 16 true 133 rfl rfl (fun L a w1 hh => ?_) fun L a w1 hh => ⟨rfl, hh.st⟩
       exact hh.dep 16 133 (by kernel_rfl) (by kernel_rfl)
      ·refine regs.StepOK.yes 7 false 124 rfl rfl (fun L a w1 hh => hh.dep 7 124 (by kernel_rfl) (by kernel_rfl)) fun L a w1 hh => ?_
       have h133 := hh.v 16 133 rfl (by kernel_rfl) (by kernel_rfl)
       have hJ := Lib.hid hh.st
       clear hh
       go_simp
       exact ⟨_, rfl, regs.bl_refl _, rfl, hJ.out⟩
      ·refine regs.StepOK.yes 7 false 124 rfl rfl (fun L a w1 hh => hh.dep 7 124 (by kernel_rfl) (by kernel_rfl)) fun L a w1 hh => ?_
       have h126 := hh.v 9 126 rfl (by kernel_rfl) (by kernel_rfl)
       have h136 := hh.v 19 136 rfl (by kernel_rfl) (by kernel_rfl)
       have hJ := Lib.hid hh.st
       clear hh
       go_simp
       exact ⟨_, rfl, regs.bl_refl _, rfl, hJ.out⟩
      ·refine regs.StepOK.plain rfl fun L a w1 hh => ?_
       have h124 := hh.v 7 124 rfl (by kernel_rfl) (by kernel_rfl)
       have h137 := hh.v 20 137 rfl (by kernel_rfl) (by kernel_rfl)
       have hJ := Lib.hid hh.st
       clear hh
       go_simp
       exact ⟨_, rfl, regs.bl_refl _, rfl, hJ.out⟩
      ·refine regs.StepOK.plain rfl fun L a w1 hh => ?_
       have h138 := hh.v 21 138 rfl (by kernel_rfl) (by kernel_rfl)
       have hJ := Lib.hid hh.st
       clear hh
       go_simp
       exact ⟨_, rfl, regs.bl_refl _, rfl, hJ.out⟩
      ·refine regs.StepOK.yes 22 false 139 rfl rfl (fun L a w1 hh => hh.dep 22 139 (by kernel_rfl) (by kernel_rfl)) fun L a w1 hh => ?_
       have h8 : a.tmps[8]?.getD undef = .pointer (some ⟨g8, 0, none⟩) := hh.kp 8 rfl rfl
       obtain ⟨⟨c0, c1, c2, c3⟩, -, -⟩ := (hh.st.1.2.2.2.2.1).c4
       have hJ := Lib.hid hh.st
       clear hh
       go_simp
       exact ⟨_, rfl, regs.bl_refl _, rfl, hJ.out⟩
      ·refine regs.StepOK.yes 22 false 139 rfl rfl (fun L a w1 hh => hh.dep 22 139 (by kernel_rfl) (by kernel_rfl)) fun L a w1 hh => ?_
       have h140 := hh.v 23 140 rfl (by kernel_rfl) (by kernel_rfl)
       have := True.intro
       have hJ := Lib.hid hh.st
       clear hh
       go_simp
       refine (bx_empty (⟨ja, jb, jc, jd⟩ : Bx) w1).mono ?_
       rintro e w9 ⟨rfl, hb9⟩
       exact ⟨_, rfl, hb9, congrArg Value.bool HJE.out, CutsAt.below hJ.out hb9⟩
      ·refine regs.StepOK.yes 22 false 139 rfl rfl (fun L a w1 hh => hh.dep 22 139 (by kernel_rfl) (by kernel_rfl)) fun L a w1 hh => ?_
       have h141 := hh.v 24 141 rfl (by kernel_rfl) (by kernel_rfl)
       have hJ := Lib.hid hh.st
       clear hh
       go_simp
       exact ⟨_, rfl, regs.bl_refl _, rfl, hJ.out⟩
      ·refine regs.StepOK.no 25 true 142 rfl rfl (fun L a w1 hh => ?_) fun L a w1 hh => ⟨rfl, hh.st⟩
       exact hh.dep 25 142 (by kernel_rfl) (by kernel_rfl)
      ·refine regs.StepOK.no 25 true 142 rfl rfl (fun L a w1 hh => ?_) fun L a w1 hh => ⟨rfl, hh.st⟩
       exact hh.dep 25 142 (by kernel_rfl) (by kernel_rfl)
      ·refine regs.StepOK.no 25 true 142 rfl rfl (fun L a w1 hh => ?_) fun L a w1 hh => ⟨rfl, hh.st⟩
       exact hh.dep 25 142 (by kernel_rfl) (by kernel_rfl)
      ·refine regs.StepOK.yes 22 false 139 rfl rfl (fun L a w1 hh => hh.dep 22 139 (by kernel_rfl) (by kernel_rfl)) fun L a w1 hh => ?_
       have h142 := hh.v 25 142 rfl (by kernel_rfl) (by kernel_rfl)
       have hJ := Lib.hid hh.st
       clear hh
       go_simp
       exact ⟨_, rfl, regs.bl_refl _, rfl, hJ.out⟩
      ·refine regs.StepOK.plain rfl fun L a w1 hh => ?_
       have h139 := hh.v 22 139 rfl (by kernel_rfl) (by kernel_rfl)
       have h146 := hh.v 29 146 rfl (by kernel_rfl) (by kernel_rfl)
       have hJ := Lib.hid hh.st
       clear hh
       go_simp
       exact ⟨_, rfl, regs.bl_refl _, rfl, hJ.out⟩
      intro L w5 val hL hJ hR hv
      have h147 : val 147 = .bool false := hv 30 147 (by kernel_rfl)
      have HJ5 := Lib.hid hJ
      have HR5 := Lib.hid hR
      clear hv hL hJ hR
      simp only [regs.putAll, List.map_cons, List.map_nil]
      rw [h147]
      generalize val 117 = v117
      generalize val 118 = v118
      generalize val 119 = v119
      generalize val 120 = v120
      generalize val 121 = v121
      generalize val 122 = v122
      generalize val 123 = v123
      generalize val 124 = v124
      generalize val 125 = v125
      generalize val 126 = v126
      generalize val 127 = v127
      generalize val 128 = v128
      generalize val 129 = v129
      generalize val 130 = v130
      generalize val 131 = v131
      generalize val 132 = v132
      generalize val 133 = v133
      generalize val 134 = v134
      generalize val 135 = v135
      generalize val 136 = v136
      generalize val 137 = v137
      generalize val 138 = v138
      generalize val 139 = v139
      generalize val 140 = v140
      generalize val 141 = v141
      generalize val 142 = v142
      generalize val 143 = v143
      generalize val 144 = v144
      generalize val 145 = v145
      generalize val 146 = v146
      simp only [Act.put, List.setIfInBounds_toArray, List.set_cons_zero, List.set_cons_succ]
      clear h147
      go_wp2_with (fail)
      go_meet
      exact ⟨rfl, HJ5⟩
     ·cases ys
      ·refine regs.wp_region_put (regs.bl) (fun _ wx => CutsAt w (⟨ra, rb, rc, rd⟩ : Bx) (⟨sa, sb, sc, sd⟩ : Bx) (⟨ta, tb, tc, td⟩ : Bx) (⟨ca, cb, cc, cd⟩ : Bx) (⟨ja, jb, jc, jd⟩ : Bx) g7 g8 wx) [117, 118, 119, 120, 121, 122, 123, 124, 125, 126, 127, 128, 129, 130, 131, 132, 133, 134, 135, 136, 137, 138, 139, 140, 141, 142, 143, 144, 145, 146, 147] (by kernel_rfl) (by kernel_rfl) (fun _ => regs.bl_refl _) (regs.bl_trans) (fun i => (match i with
        | 0 => regs.Say.val _ (.agg #[.int .i64 ca, .int .i64 cb, .int .i64 cc, .int .i64 cd])
        | 1 => regs.Say.val _ (.bool true)
        | 2 => regs.Say.val _ (.bool true)
        | 3 => regs.Say.val _ (.agg #[.int .i64 ca, .int .i64 cb, .int .i64 cc, .int .i64 cd])
        | 4 => regs.Say.val _ (.agg #[.int .i64 0, .int .i64 0, .int .i64 0, .int .i64 0])
        | 5 => regs.Say.val _ (.bool false)
        | 6 => regs.Say.val _ (.bool false)
        | 7 => regs.Say.val _ (.bool false)
        | 8 => regs.Say.val _ (.agg #[.int .i64 ja, .int .i64 jb, .int .i64 jc, .int .i64 jd])
        | 9 => regs.Say.val _ (.bool false)
        | 10 => regs.Say.val _ (.agg #[.int .i64 ra, .int .i64 rb, .int .i64 rc, .int .i64 rd])
        | 11 => regs.Say.val _ (.bool true)
        | 12 => regs.Say.val _ (.bool true)
        | 13 => regs.Say.val _ (.agg #[.int .i64 sa, .int .i64 sb, .int .i64 sc, .int .i64 sd])
        | 14 => regs.Say.val _ (.bool false)
        | 15 => regs.Say.val _ (.bool false)
        | 16 => regs.Say.val _ (.bool false)
        | 17 => regs.Say.val _ (undef)
        | 18 => regs.Say.val _ (undef)
        | 19 => regs.Say.val _ (.bool false)
        | 20 => regs.Say.val _ (.bool false)
        | 21 => regs.Say.val _ (.bool false)
        | 22 => regs.Say.val _ (.bool false)
        | 23 => regs.Say.val _ (.agg #[.int .i64 ja, .int .i64 jb, .int .i64 jc, .int .i64 jd])
        | 24 => regs.Say.val _ (.bool false)
        | 25 => regs.Say.val _ (.bool false)
        | 26 => regs.Say.val _ (undef)
        | 27 => regs.Say.val _ (undef)
        | 28 => regs.Say.val _ (undef)
        | 29 => regs.Say.val _ (.bool false)
        | 30 => regs.Say.val _ (.bool false)
        | _ => regs.Say.any _ : regs.Say (regs.bl)).p) (fun _ => regs.Say.mono _) (by kernel_rfl) ((Below.refl _ _).drew) (HA.out.below ((Below.refl _ _).drew)) ⟨?_, ?_, ?_, ?_, ?_, ?_, ?_, ?_, ?_, ?_, ?_, ?_, ?_, ?_, ?_, ?_, ?_, ?_, ?_, ?_, ?_, ?_, ?_, ?_, ?_, ?_, ?_, ?_, ?_, ?_, ?_, trivial⟩ ?_
       ·refine regs.StepOK.plain rfl fun L a w1 hh => ?_
        have h7 : a.tmps[7]?.getD undef = .pointer (some ⟨g7, 0, none⟩) := hh.kp 7 rfl rfl
        obtain ⟨⟨c0, c1, c2, c3⟩, -, -⟩ := (hh.st.1.2.2.2.1).c4
        have hJ := Lib.hid hh.st
        clear hh
        go_simp
        exact ⟨_, rfl, regs.bl_refl _, rfl, hJ.out⟩
       ·refine regs.StepOK.plain rfl fun L a w1 hh => ?_
        have h117 := hh.v 0 117 rfl (by kernel_rfl) (by kernel_rfl)
        have := True.intro
        have hJ := Lib.hid hh.st
        clear hh
        go_simp
        refine (bx_empty (⟨ca, cb, cc, cd⟩ : Bx) w1).mono ?_
        rintro e w9 ⟨rfl, hb9⟩
        exact ⟨_, rfl, hb9, congrArg Value.bool HYC.out, CutsAt.below hJ.out hb9⟩
       ·refine regs.StepOK.plain rfl fun L a w1 hh => ?_
        have h118 := hh.v 1 118 rfl (by kernel_rfl) (by kernel_rfl)
        have hJ := Lib.hid hh.st
        clear hh
        go_simp
        exact ⟨_, rfl, regs.bl_refl _, rfl, hJ.out⟩
       ·refine regs.StepOK.yes 2 true 119 rfl rfl (fun L a w1 hh => hh.dep 2 119 (by kernel_rfl) (by kernel_rfl)) fun L a w1 hh => ?_
        have h7 : a.tmps[7]?.getD undef = .pointer (some ⟨g7, 0, none⟩) := hh.kp 7 rfl rfl
        obtain ⟨⟨c0, c1, c2, c3⟩, -, -⟩ := (hh.st.1.2.2.2.1).c4
        have hJ := Lib.hid hh.st
        clear hh
        go_simp
        exact ⟨_, rfl, regs.bl_refl _, rfl, hJ.out⟩
       ·refine regs.StepOK.yes 2 true 119 rfl rfl (fun L a w1 hh => hh.dep 2 119 (by kernel_rfl) (by kernel_rfl)) fun L a w1 hh => ?_
        have hJ := Lib.hid hh.st
        clear hh
        go_simp
        exact ⟨_, rfl, regs.bl_refl _, rfl, hJ.out⟩
       ·refine regs.StepOK.yes 2 true 119 rfl rfl (fun L a w1 hh => hh.dep 2 119 (by kernel_rfl) (by kernel_rfl)) fun L a w1 hh => ?_
        have h120 := hh.v 3 120 rfl (by kernel_rfl) (by kernel_rfl)
        have h121 := hh.v 4 121 rfl (by kernel_rfl) (by kernel_rfl)
        have eqst := fun w => bx_neq (⟨ca, cb, cc, cd⟩ : Bx) (⟨0, 0, 0, 0⟩ : Bx) w
        rw [show (!decide ((⟨ca, cb, cc, cd⟩ : Bx) = (⟨0, 0, 0, 0⟩ : Bx))) = false from by rw [show ((⟨ca, cb, cc, cd⟩ : Bx) : Bx) = Bx.o from HCE.out HYC.out]; decide] at eqst
        unfold Bx.v at eqst
        simp only at eqst
        have hJ := Lib.hid hh.st
        clear hh
        go_simp
        exact ⟨_, rfl, regs.bl_refl _, rfl, hJ.out⟩
       ·refine regs.StepOK.plain rfl fun L a w1 hh => ?_
        have h119 := hh.v 2 119 rfl (by kernel_rfl) (by kernel_rfl)
        have h122 := hh.v 5 122 rfl (by kernel_rfl) (by kernel_rfl)
        have hJ := Lib.hid hh.st
        clear hh
        go_simp
        exact ⟨_, rfl, regs.bl_refl _, rfl, hJ.out⟩
       ·refine regs.StepOK.plain rfl fun L a w1 hh => ?_
        have h123 := hh.v 6 123 rfl (by kernel_rfl) (by kernel_rfl)
        have hJ := Lib.hid hh.st
        clear hh
        go_simp
        exact ⟨_, rfl, regs.bl_refl _, rfl, hJ.out⟩
       ·refine regs.StepOK.yes 7 false 124 rfl rfl (fun L a w1 hh => hh.dep 7 124 (by kernel_rfl) (by kernel_rfl)) fun L a w1 hh => ?_
        have h8 : a.tmps[8]?.getD undef = .pointer (some ⟨g8, 0, none⟩) := hh.kp 8 rfl rfl
        obtain ⟨⟨c0, c1, c2, c3⟩, -, -⟩ := (hh.st.1.2.2.2.2.1).c4
        have hJ := Lib.hid hh.st
        clear hh
        go_simp
        exact ⟨_, rfl, regs.bl_refl _, rfl, hJ.out⟩
       ·refine regs.StepOK.yes 7 false 124 rfl rfl (fun L a w1 hh => hh.dep 7 124 (by kernel_rfl) (by kernel_rfl)) fun L a w1 hh => ?_
        have h125 := hh.v 8 125 rfl (by kernel_rfl) (by kernel_rfl)
        have := True.intro
        have hJ := Lib.hid hh.st
        clear hh
        go_simp
        refine (bx_empty (⟨ja, jb, jc, jd⟩ : Bx) w1).mono ?_
        rintro e w9 ⟨rfl, hb9⟩
        exact ⟨_, rfl, hb9, congrArg Value.bool HJE.out, CutsAt.below hJ.out hb9⟩
       ·refine regs.StepOK.yes 7 false 124 rfl rfl (fun L a w1 hh => hh.dep 7 124 (by kernel_rfl) (by kernel_rfl)) fun L a w1 hh => ?_
        have h3 : a.tmps[3]?.getD undef = .pointer (some ⟨w.heap.size, 0, none⟩) := hh.kp 3 rfl rfl
        obtain ⟨⟨c0, c1, c2, c3⟩, -, -⟩ := (hh.st.1.1).c4
        have hJ := Lib.hid hh.st
        clear hh
        go_simp
        exact ⟨_, rfl, regs.bl_refl _, rfl, hJ.out⟩
       ·refine regs.StepOK.yes 7 false 124 rfl rfl (fun L a w1 hh => hh.dep 7 124 (by kernel_rfl) (by kernel_rfl)) fun L a w1 hh => ?_
        have h127 := hh.v 10 127 rfl (by kernel_rfl) (by kernel_rfl)
        have := True.intro
        have hJ := Lib.hid hh.st
        clear hh
        go_simp
        refine (bx_empty (⟨ra, rb, rc, rd⟩ : Bx) w1).mono ?_
        rintro e w9 ⟨rfl, hb9⟩
        exact ⟨_, rfl, hb9, congrArg Value.bool HYR.out, CutsAt.below hJ.out hb9⟩
       ·refine regs.StepOK.yes 7 false 124 rfl rfl (fun L a w1 hh => hh.dep 7 124 (by kernel_rfl) (by kernel_rfl)) fun L a w1 hh => ?_
        have h128 := hh.v 11 128 rfl (by kernel_rfl) (by kernel_rfl)
        have hJ := Lib.hid hh.st
        clear hh
        go_simp
        exact ⟨_, rfl, regs.bl_refl _, rfl, hJ.out⟩
       ·refine regs.StepOK.yes 12 true 129 rfl rfl (fun L a w1 hh => hh.dep 12 129 (by kernel_rfl) (by kernel_rfl)) fun L a w1 hh => ?_
        have h4 : a.tmps[4]?.getD undef = .pointer (some ⟨(w.heap.size + 1), 0, none⟩) := hh.kp 4 rfl rfl
        obtain ⟨⟨c0, c1, c2, c3⟩, -, -⟩ := (hh.st.1.2.1).c4
        have hJ := Lib.hid hh.st
        clear hh
        go_simp
        exact ⟨_, rfl, regs.bl_refl _, rfl, hJ.out⟩
       ·refine regs.StepOK.yes 12 true 129 rfl rfl (fun L a w1 hh => hh.dep 12 129 (by kernel_rfl) (by kernel_rfl)) fun L a w1 hh => ?_
        have h130 := hh.v 13 130 rfl (by kernel_rfl) (by kernel_rfl)
        have := True.intro
        have hJ := Lib.hid hh.st
        clear hh
        go_simp
        refine (bx_empty (⟨sa, sb, sc, sd⟩ : Bx) w1).mono ?_
        rintro e w9 ⟨rfl, hb9⟩
        exact ⟨_, rfl, hb9, congrArg Value.bool HYS.out, CutsAt.below hJ.out hb9⟩
       ·refine regs.StepOK.yes 7 false 124 rfl rfl (fun L a w1 hh => hh.dep 7 124 (by kernel_rfl) (by kernel_rfl)) fun L a w1 hh => ?_
        have h129 := hh.v 12 129 rfl (by kernel_rfl) (by kernel_rfl)
        have h131 := hh.v 14 131 rfl (by kernel_rfl) (by kernel_rfl)
        have hJ := Lib.hid hh.st
        clear hh
        go_simp
        exact ⟨_, rfl, regs.bl_refl _, rfl, hJ.out⟩
       ·refine regs.StepOK.yes 7 false 124 rfl rfl (fun L a w1 hh => hh.dep 7 124 (by kernel_rfl) (by kernel_rfl)) fun L a w1 hh => ?_
        have h132 := hh.v 15 132 rfl (by kernel_rfl) (by kernel_rfl)
        have hJ := Lib.hid hh.st
        clear hh
        go_simp
        exact ⟨_, rfl, regs.bl_refl _, rfl, hJ.out⟩
       ·refine regs.StepOK.no 16 true 133 rfl rfl (fun L a w1 hh => ?_) fun L a w1 hh => ⟨rfl, hh.st⟩
        exact hh.dep 16 133 (by kernel_rfl) (by kernel_rfl)
       ·refine regs.StepOK.no 16 true 133 rfl rfl (fun L a w1 hh => ?_) fun L a w1 hh => ⟨rfl, hh.st⟩
        exact hh.dep 16 133 (by kernel_rfl) (by kernel_rfl)
       ·refine regs.StepOK.yes 7 false 124 rfl rfl (fun L a w1 hh => hh.dep 7 124 (by kernel_rfl) (by kernel_rfl)) fun L a w1 hh => ?_
        have h133 := hh.v 16 133 rfl (by kernel_rfl) (by kernel_rfl)
        have hJ := Lib.hid hh.st
        clear hh
        go_simp
        exact ⟨_, rfl, regs.bl_refl _, rfl, hJ.out⟩
       ·refine regs.StepOK.yes 7 false 124 rfl rfl (fun L a w1 hh => hh.dep 7 124 (by kernel_rfl) (by kernel_rfl)) fun L a w1 hh => ?_
        have h126 := hh.v 9 126 rfl (by kernel_rfl) (by kernel_rfl)
        have h136 := hh.v 19 136 rfl (by kernel_rfl) (by kernel_rfl)
        have hJ := Lib.hid hh.st
        clear hh
        go_simp
        exact ⟨_, rfl, regs.bl_refl _, rfl, hJ.out⟩
       ·refine regs.StepOK.plain rfl fun L a w1 hh => ?_
        have h124 := hh.v 7 124 rfl (by kernel_rfl) (by kernel_rfl)
        have h137 := hh.v 20 137 rfl (by kernel_rfl) (by kernel_rfl)
        have hJ := Lib.hid hh.st
        clear hh
        go_simp
        exact ⟨_, rfl, regs.bl_refl _, rfl, hJ.out⟩
       ·refine regs.StepOK.plain rfl fun L a w1 hh => ?_
        have h138 := hh.v 21 138 rfl (by kernel_rfl) (by kernel_rfl)
        have hJ := Lib.hid hh.st
        clear hh
        go_simp
        exact ⟨_, rfl, regs.bl_refl _, rfl, hJ.out⟩
       ·refine regs.StepOK.yes 22 false 139 rfl rfl (fun L a w1 hh => hh.dep 22 139 (by kernel_rfl) (by kernel_rfl)) fun L a w1 hh => ?_
        have h8 : a.tmps[8]?.getD undef = .pointer (some ⟨g8, 0, none⟩) := hh.kp 8 rfl rfl
        obtain ⟨⟨c0, c1, c2, c3⟩, -, -⟩ := (hh.st.1.2.2.2.2.1).c4
        have hJ := Lib.hid hh.st
        clear hh
        go_simp
        exact ⟨_, rfl, regs.bl_refl _, rfl, hJ.out⟩
       ·refine regs.StepOK.yes 22 false 139 rfl rfl (fun L a w1 hh => hh.dep 22 139 (by kernel_rfl) (by kernel_rfl)) fun L a w1 hh => ?_
        have h140 := hh.v 23 140 rfl (by kernel_rfl) (by kernel_rfl)
        have := True.intro
        have hJ := Lib.hid hh.st
        clear hh
        go_simp
        refine (bx_empty (⟨ja, jb, jc, jd⟩ : Bx) w1).mono ?_
        rintro e w9 ⟨rfl, hb9⟩
        exact ⟨_, rfl, hb9, congrArg Value.bool HJE.out, CutsAt.below hJ.out hb9⟩
       ·refine regs.StepOK.yes 22 false 139 rfl rfl (fun L a w1 hh => hh.dep 22 139 (by kernel_rfl) (by kernel_rfl)) fun L a w1 hh => ?_
        have h141 := hh.v 24 141 rfl (by kernel_rfl) (by kernel_rfl)
        have hJ := Lib.hid hh.st
        clear hh
        go_simp
        exact ⟨_, rfl, regs.bl_refl _, rfl, hJ.out⟩
       ·refine regs.StepOK.no 25 true 142 rfl rfl (fun L a w1 hh => ?_) fun L a w1 hh => ⟨rfl, hh.st⟩
        exact hh.dep 25 142 (by kernel_rfl) (by kernel_rfl)
       ·refine regs.StepOK.no 25 true 142 rfl rfl (fun L a w1 hh => ?_) fun L a w1 hh => ⟨rfl, hh.st⟩
        exact hh.dep 25 142 (by kernel_rfl) (by kernel_rfl)
       ·refine regs.StepOK.no 25 true 142 rfl rfl (fun L a w1 hh => ?_) fun L a w1 hh => ⟨rfl, hh.st⟩
        exact hh.dep 25 142 (by kernel_rfl) (by kernel_rfl)
       ·refine regs.StepOK.yes 22 false 139 rfl rfl (fun L a w1 hh => hh.dep 22 139 (by kernel_rfl) (by kernel_rfl)) fun L a w1 hh => ?_
        have h142 := hh.v 25 142 rfl (by kernel_rfl) (by kernel_rfl)
        have hJ := Lib.hid hh.st
        clear hh
        go_simp
        exact ⟨_, rfl, regs.bl_refl _, rfl, hJ.out⟩
       ·refine regs.StepOK.plain rfl fun L a w1 hh => ?_
        have h139 := hh.v 22 139 rfl (by kernel_rfl) (by kernel_rfl)
        have h146 := hh.v 29 146 rfl (by kernel_rfl) (by kernel_rfl)
        have hJ := Lib.hid hh.st
        clear hh
        go_simp
        exact ⟨_, rfl, regs.bl_refl _, rfl, hJ.out⟩
       intro L w5 val hL hJ hR hv
       have h147 : val 147 = .bool false := hv 30 147 (by kernel_rfl)
       have HJ5 := Lib.hid hJ
       have HR5 := Lib.hid hR
       clear hv hL hJ hR
       simp only [regs.putAll, List.map_cons, List.map_nil]
       rw [h147]
       generalize val 117 = v117
       generalize val 118 = v118
       generalize val 119 = v119
       generalize val 120 = v120
       generalize val 121 = v121
       generalize val 122 = v122
       generalize val 123 = v123
       generalize val 124 = v124
       generalize val 125 = v125
       generalize val 126 = v126
       generalize val 127 = v127
       generalize val 128 = v128
       generalize val 129 = v129
       generalize val 130 = v130
       generalize val 131 = v131
       generalize val 132 = v132
       generalize val 133 = v133
       generalize val 134 = v134
       generalize val 135 = v135
       generalize val 136 = v136
       generalize val 137 = v137
       generalize val 138 = v138
       generalize val 139 = v139
       generalize val 140 = v140
       generalize val 141 = v141
       generalize val 142 = v142
       generalize val 143 = v143
       generalize val 144 = v144
       generalize val 145 = v145
       generalize val 146 = v146
       simp only [Act.put, List.setIfInBounds_toArray, List.set_cons_zero, List.set_cons_succ]
       clear h147
       go_wp2_with (fail)
       go_meet
       exact ⟨rfl, HJ5⟩
      ·cases yt
       ·refine regs.wp_region_put (regs.bl) (fun _ wx => CutsAt w (⟨ra, rb, rc, rd⟩ : Bx) (⟨sa, sb, sc, sd⟩ : Bx) (⟨ta, tb, tc, td⟩ : Bx) (⟨ca, cb, cc, cd⟩ : Bx) (⟨ja, jb, jc, jd⟩ : Bx) g7 g8 wx) [117, 118, 119, 120, 121, 122, 123, 124, 125, 126, 127, 128, 129, 130, 131, 132, 133, 134, 135, 136, 137, 138, 139, 140, 141, 142, 143, 144, 145, 146, 147] (by kernel_rfl) (by kernel_rfl) (fun _ => regs.bl_refl _) (regs.bl_trans) (fun i => (match i with
         | 0 => regs.Say.val _ (.agg #[.int .i64 ca, .int .i64 cb, .int .i64 cc, .int .i64 cd])
         | 1 => regs.Say.val _ (.bool true)
         | 2 => regs.Say.val _ (.bool true)
         | 3 => regs.Say.val _ (.agg #[.int .i64 ca, .int .i64 cb, .int .i64 cc, .int .i64 cd])
         | 4 => regs.Say.val _ (.agg #[.int .i64 0, .int .i64 0, .int .i64 0, .int .i64 0])
         | 5 => regs.Say.val _ (.bool false)
         | 6 => regs.Say.val _ (.bool false)
         | 7 => regs.Say.val _ (.bool false)
         | 8 => regs.Say.val _ (.agg #[.int .i64 ja, .int .i64 jb, .int .i64 jc, .int .i64 jd])
         | 9 => regs.Say.val _ (.bool false)
         | 10 => regs.Say.val _ (.agg #[.int .i64 ra, .int .i64 rb, .int .i64 rc, .int .i64 rd])
         | 11 => regs.Say.val _ (.bool true)
         | 12 => regs.Say.val _ (.bool true)
         | 13 => regs.Say.val _ (.agg #[.int .i64 sa, .int .i64 sb, .int .i64 sc, .int .i64 sd])
         | 14 => regs.Say.val _ (.bool true)
         | 15 => regs.Say.val _ (.bool true)
         | 16 => regs.Say.val _ (.bool true)
         | 17 => regs.Say.val _ (.agg #[.int .i64 ta, .int .i64 tb, .int .i64 tc, .int .i64 td])
         | 18 => regs.Say.val _ (.bool false)
         | 19 => regs.Say.val _ (.bool false)
         | 20 => regs.Say.val _ (.bool false)
         | 21 => regs.Say.val _ (.bool false)
         | 22 => regs.Say.val _ (.bool false)
         | 23 => regs.Say.val _ (.agg #[.int .i64 ja, .int .i64 jb, .int .i64 jc, .int .i64 jd])
         | 24 => regs.Say.val _ (.bool false)
         | 25 => regs.Say.val _ (.bool false)
         | 26 => regs.Say.val _ (undef)
         | 27 => regs.Say.val _ (undef)
         | 28 => regs.Say.val _ (undef)
         | 29 => regs.Say.val _ (.bool false)
         | 30 => regs.Say.val _ (.bool false)
         | _ => regs.Say.any _ : regs.Say (regs.bl)).p) (fun _ => regs.Say.mono _) (by kernel_rfl) ((Below.refl _ _).drew) (HA.out.below ((Below.refl _ _).drew)) ⟨?_, ?_, ?_, ?_, ?_, ?_, ?_, ?_, ?_, ?_, ?_, ?_, ?_, ?_, ?_, ?_, ?_, ?_, ?_, ?_, ?_, ?_, ?_, ?_, ?_, ?_, ?_, ?_, ?_, ?_, ?_, trivial⟩ ?_
        ·refine regs.StepOK.plain rfl fun L a w1 hh => ?_
         have h7 : a.tmps[7]?.getD undef = .pointer (some ⟨g7, 0, none⟩) := hh.kp 7 rfl rfl
         obtain ⟨⟨c0, c1, c2, c3⟩, -, -⟩ := (hh.st.1.2.2.2.1).c4
         have hJ := Lib.hid hh.st
         clear hh
         go_simp
         exact ⟨_, rfl, regs.bl_refl _, rfl, hJ.out⟩
        ·refine regs.StepOK.plain rfl fun L a w1 hh => ?_
         have h117 := hh.v 0 117 rfl (by kernel_rfl) (by kernel_rfl)
         have := True.intro
         have hJ := Lib.hid hh.st
         clear hh
         go_simp
         refine (bx_empty (⟨ca, cb, cc, cd⟩ : Bx) w1).mono ?_
         rintro e w9 ⟨rfl, hb9⟩
         exact ⟨_, rfl, hb9, congrArg Value.bool HYC.out, CutsAt.below hJ.out hb9⟩
        ·refine regs.StepOK.plain rfl fun L a w1 hh => ?_
         have h118 := hh.v 1 118 rfl (by kernel_rfl) (by kernel_rfl)
         have hJ := Lib.hid hh.st
         clear hh
         go_simp
         exact ⟨_, rfl, regs.bl_refl _, rfl, hJ.out⟩
        ·refine regs.StepOK.yes 2 true 119 rfl rfl (fun L a w1 hh => hh.dep 2 119 (by kernel_rfl) (by kernel_rfl)) fun L a w1 hh => ?_
         have h7 : a.tmps[7]?.getD undef = .pointer (some ⟨g7, 0, none⟩) := hh.kp 7 rfl rfl
         obtain ⟨⟨c0, c1, c2, c3⟩, -, -⟩ := (hh.st.1.2.2.2.1).c4
         have hJ := Lib.hid hh.st
         clear hh
         go_simp
         exact ⟨_, rfl, regs.bl_refl _, rfl, hJ.out⟩
        ·refine regs.StepOK.yes 2 true 119 rfl rfl (fun L a w1 hh => hh.dep 2 119 (by kernel_rfl) (by kernel_rfl)) fun L a w1 hh => ?_
         have hJ := Lib.hid hh.st
         clear hh
         go_simp
         exact ⟨_, rfl, regs.bl_refl _, rfl, hJ.out⟩
        ·refine regs.StepOK.yes 2 true 119 rfl rfl (fun L a w1 hh => hh.dep 2 119 (by kernel_rfl) (by kernel_rfl)) fun L a w1 hh => ?_
         have h120 := hh.v 3 120 rfl (by kernel_rfl) (by kernel_rfl)
         have h121 := hh.v 4 121 rfl (by kernel_rfl) (by kernel_rfl)
         have eqst := fun w => bx_neq (⟨ca, cb, cc, cd⟩ : Bx) (⟨0, 0, 0, 0⟩ : Bx) w
         rw [show (!decide ((⟨ca, cb, cc, cd⟩ : Bx) = (⟨0, 0, 0, 0⟩ : Bx))) = false from by rw [show ((⟨ca, cb, cc, cd⟩ : Bx) : Bx) = Bx.o from HCE.out HYC.out]; decide] at eqst
         unfold Bx.v at eqst
         simp only at eqst
         have hJ := Lib.hid hh.st
         clear hh
         go_simp
         exact ⟨_, rfl, regs.bl_refl _, rfl, hJ.out⟩
        ·refine regs.StepOK.plain rfl fun L a w1 hh => ?_
         have h119 := hh.v 2 119 rfl (by kernel_rfl) (by kernel_rfl)
         have h122 := hh.v 5 122 rfl (by kernel_rfl) (by kernel_rfl)
         have hJ := Lib.hid hh.st
         clear hh
         go_simp
         exact ⟨_, rfl, regs.bl_refl _, rfl, hJ.out⟩
        ·refine regs.StepOK.plain rfl fun L a w1 hh => ?_
         have h123 := hh.v 6 123 rfl (by kernel_rfl) (by kernel_rfl)
         have hJ := Lib.hid hh.st
         clear hh
         go_simp
         exact ⟨_, rfl, regs.bl_refl _, rfl, hJ.out⟩
        ·refine regs.StepOK.yes 7 false 124 rfl rfl (fun L a w1 hh => hh.dep 7 124 (by kernel_rfl) (by kernel_rfl)) fun L a w1 hh => ?_
         have h8 : a.tmps[8]?.getD undef = .pointer (some ⟨g8, 0, none⟩) := hh.kp 8 rfl rfl
         obtain ⟨⟨c0, c1, c2, c3⟩, -, -⟩ := (hh.st.1.2.2.2.2.1).c4
         have hJ := Lib.hid hh.st
         clear hh
         go_simp
         exact ⟨_, rfl, regs.bl_refl _, rfl, hJ.out⟩
        ·refine regs.StepOK.yes 7 false 124 rfl rfl (fun L a w1 hh => hh.dep 7 124 (by kernel_rfl) (by kernel_rfl)) fun L a w1 hh => ?_
         have h125 := hh.v 8 125 rfl (by kernel_rfl) (by kernel_rfl)
         have := True.intro
         have hJ := Lib.hid hh.st
         clear hh
         go_simp
         refine (bx_empty (⟨ja, jb, jc, jd⟩ : Bx) w1).mono ?_
         rintro e w9 ⟨rfl, hb9⟩
         exact ⟨_, rfl, hb9, congrArg Value.bool HJE.out, CutsAt.below hJ.out hb9⟩
        ·refine regs.StepOK.yes 7 false 124 rfl rfl (fun L a w1 hh => hh.dep 7 124 (by kernel_rfl) (by kernel_rfl)) fun L a w1 hh => ?_
         have h3 : a.tmps[3]?.getD undef = .pointer (some ⟨w.heap.size, 0, none⟩) := hh.kp 3 rfl rfl
         obtain ⟨⟨c0, c1, c2, c3⟩, -, -⟩ := (hh.st.1.1).c4
         have hJ := Lib.hid hh.st
         clear hh
         go_simp
         exact ⟨_, rfl, regs.bl_refl _, rfl, hJ.out⟩
        ·refine regs.StepOK.yes 7 false 124 rfl rfl (fun L a w1 hh => hh.dep 7 124 (by kernel_rfl) (by kernel_rfl)) fun L a w1 hh => ?_
         have h127 := hh.v 10 127 rfl (by kernel_rfl) (by kernel_rfl)
         have := True.intro
         have hJ := Lib.hid hh.st
         clear hh
         go_simp
         refine (bx_empty (⟨ra, rb, rc, rd⟩ : Bx) w1).mono ?_
         rintro e w9 ⟨rfl, hb9⟩
         exact ⟨_, rfl, hb9, congrArg Value.bool HYR.out, CutsAt.below hJ.out hb9⟩
        ·refine regs.StepOK.yes 7 false 124 rfl rfl (fun L a w1 hh => hh.dep 7 124 (by kernel_rfl) (by kernel_rfl)) fun L a w1 hh => ?_
         have h128 := hh.v 11 128 rfl (by kernel_rfl) (by kernel_rfl)
         have hJ := Lib.hid hh.st
         clear hh
         go_simp
         exact ⟨_, rfl, regs.bl_refl _, rfl, hJ.out⟩
        ·refine regs.StepOK.yes 12 true 129 rfl rfl (fun L a w1 hh => hh.dep 12 129 (by kernel_rfl) (by kernel_rfl)) fun L a w1 hh => ?_
         have h4 : a.tmps[4]?.getD undef = .pointer (some ⟨(w.heap.size + 1), 0, none⟩) := hh.kp 4 rfl rfl
         obtain ⟨⟨c0, c1, c2, c3⟩, -, -⟩ := (hh.st.1.2.1).c4
         have hJ := Lib.hid hh.st
         clear hh
         go_simp
         exact ⟨_, rfl, regs.bl_refl _, rfl, hJ.out⟩
        ·refine regs.StepOK.yes 12 true 129 rfl rfl (fun L a w1 hh => hh.dep 12 129 (by kernel_rfl) (by kernel_rfl)) fun L a w1 hh => ?_
         have h130 := hh.v 13 130 rfl (by kernel_rfl) (by kernel_rfl)
         have := True.intro
         have hJ := Lib.hid hh.st
         clear hh
         go_simp
         refine (bx_empty (⟨sa, sb, sc, sd⟩ : Bx) w1).mono ?_
         rintro e w9 ⟨rfl, hb9⟩
         exact ⟨_, rfl, hb9, congrArg Value.bool HYS.out, CutsAt.below hJ.out hb9⟩
        ·refine regs.StepOK.yes 7 false 124 rfl rfl (fun L a w1 hh => hh.dep 7 124 (by kernel_rfl) (by kernel_rfl)) fun L a w1 hh => ?_
         have h129 := hh.v 12 129 rfl (by kernel_rfl) (by kernel_rfl)
         have h131 := hh.v 14 131 rfl (by kernel_rfl) (by kernel_rfl)
         have hJ := Lib.hid hh.st
         clear hh
         go_simp
         exact ⟨_, rfl, regs.bl_refl _, rfl, hJ.out⟩
        ·refine regs.StepOK.yes 7 false 124 rfl rfl (fun L a w1 hh => hh.dep 7 124 (by kernel_rfl) (by kernel_rfl)) fun L a w1 hh => ?_
         have h132 := hh.v 15 132 rfl (by kernel_rfl) (by kernel_rfl)
         have hJ := Lib.hid hh.st
         clear hh
         go_simp
         exact ⟨_, rfl, regs.bl_refl _, rfl, hJ.out⟩
        ·refine regs.StepOK.yes 16 true 133 rfl rfl (fun L a w1 hh => hh.dep 16 133 (by kernel_rfl) (by kernel_rfl)) fun L a w1 hh => ?_
         have h5 : a.tmps[5]?.getD undef = .pointer (some ⟨(w.heap.size + 2), 0, none⟩) := hh.kp 5 rfl rfl
         obtain ⟨⟨c0, c1, c2, c3⟩, -, -⟩ := (hh.st.1.2.2.1).c4
         have hJ := Lib.hid hh.st
         clear hh
         go_simp
         exact ⟨_, rfl, regs.bl_refl _, rfl, hJ.out⟩
        ·refine regs.StepOK.yes 16 true 133 rfl rfl (fun L a w1 hh => hh.dep 16 133 (by kernel_rfl) (by kernel_rfl)) fun L a w1 hh => ?_
         have h134 := hh.v 17 134 rfl (by kernel_rfl) (by kernel_rfl)
         have := True.intro
         have hJ := Lib.hid hh.st
         clear hh
         go_simp
         refine (bx_empty (⟨ta, tb, tc, td⟩ : Bx) w1).mono ?_
         rintro e w9 ⟨rfl, hb9⟩
         exact ⟨_, rfl, hb9, congrArg Value.bool HYT.out, CutsAt.below hJ.out hb9⟩
        ·refine regs.StepOK.yes 7 false 124 rfl rfl (fun L a w1 hh => hh.dep 7 124 (by kernel_rfl) (by kernel_rfl)) fun L a w1 hh => ?_
         have h133 := hh.v 16 133 rfl (by kernel_rfl) (by kernel_rfl)
         have h135 := hh.v 18 135 rfl (by kernel_rfl) (by kernel_rfl)
         have hJ := Lib.hid hh.st
         clear hh
         go_simp
         exact ⟨_, rfl, regs.bl_refl _, rfl, hJ.out⟩
        ·refine regs.StepOK.yes 7 false 124 rfl rfl (fun L a w1 hh => hh.dep 7 124 (by kernel_rfl) (by kernel_rfl)) fun L a w1 hh => ?_
         have h126 := hh.v 9 126 rfl (by kernel_rfl) (by kernel_rfl)
         have h136 := hh.v 19 136 rfl (by kernel_rfl) (by kernel_rfl)
         have hJ := Lib.hid hh.st
         clear hh
         go_simp
         exact ⟨_, rfl, regs.bl_refl _, rfl, hJ.out⟩
        ·refine regs.StepOK.plain rfl fun L a w1 hh => ?_
         have h124 := hh.v 7 124 rfl (by kernel_rfl) (by kernel_rfl)
         have h137 := hh.v 20 137 rfl (by kernel_rfl) (by kernel_rfl)
         have hJ := Lib.hid hh.st
         clear hh
         go_simp
         exact ⟨_, rfl, regs.bl_refl _, rfl, hJ.out⟩
        ·refine regs.StepOK.plain rfl fun L a w1 hh => ?_
         have h138 := hh.v 21 138 rfl (by kernel_rfl) (by kernel_rfl)
         have hJ := Lib.hid hh.st
         clear hh
         go_simp
         exact ⟨_, rfl, regs.bl_refl _, rfl, hJ.out⟩
        ·refine regs.StepOK.yes 22 false 139 rfl rfl (fun L a w1 hh => hh.dep 22 139 (by kernel_rfl) (by kernel_rfl)) fun L a w1 hh => ?_
         have h8 : a.tmps[8]?.getD undef = .pointer (some ⟨g8, 0, none⟩) := hh.kp 8 rfl rfl
         obtain ⟨⟨c0, c1, c2, c3⟩, -, -⟩ := (hh.st.1.2.2.2.2.1).c4
         have hJ := Lib.hid hh.st
         clear hh
         go_simp
         exact ⟨_, rfl, regs.bl_refl _, rfl, hJ.out⟩
        ·refine regs.StepOK.yes 22 false 139 rfl rfl (fun L a w1 hh => hh.dep 22 139 (by kernel_rfl) (by kernel_rfl)) fun L a w1 hh => ?_
         have h140 := hh.v 23 140 rfl (by kernel_rfl) (by kernel_rfl)
         have := True.intro
         have hJ := Lib.hid hh.st
         clear hh
         go_simp
         refine (bx_empty (⟨ja, jb, jc, jd⟩ : Bx) w1).mono ?_
         rintro e w9 ⟨rfl, hb9⟩
         exact ⟨_, rfl, hb9, congrArg Value.bool HJE.out, CutsAt.below hJ.out hb9⟩
        ·refine regs.StepOK.yes 22 false 139 rfl rfl (fun L a w1 hh => hh.dep 22 139 (by kernel_rfl) (by kernel_rfl)) fun L a w1 hh => ?_
         have h141 := hh.v 24 141 rfl (by kernel_rfl) (by kernel_rfl)
         have hJ := Lib.hid hh.st
         clear hh
         go_simp
         exact ⟨_, rfl, regs.bl_refl _, rfl, hJ.out⟩
        ·refine regs.StepOK.no 25 true 142 rfl rfl (fun L a w1 hh => ?_) fun L a w1 hh => ⟨rfl, hh.st⟩
         exact hh.dep 25 142 (by kernel_rfl) (by kernel_rfl)
        ·refine regs.StepOK.no 25 true 142 rfl rfl (fun L a w1 hh => ?_) fun L a w1 hh => ⟨rfl, hh.st⟩
         exact hh.dep 25 142 (by kernel_rfl) (by kernel_rfl)
        ·refine regs.StepOK.no 25 true 142 rfl rfl (fun L a w1 hh => ?_) fun L a w1 hh => ⟨rfl, hh.st⟩
         exact hh.dep 25 142 (by kernel_rfl) (by kernel_rfl)
        ·refine regs.StepOK.yes 22 false 139 rfl rfl (fun L a w1 hh => hh.dep 22 139 (by kernel_rfl) (by kernel_rfl)) fun L a w1 hh => ?_
         have h142 := hh.v 25 142 rfl (by kernel_rfl) (by kernel_rfl)
         have hJ := Lib.hid hh.st
         clear hh
         go_simp
         exact ⟨_, rfl, regs.bl_refl _, rfl, hJ.out⟩
        ·refine regs.StepOK.plain rfl fun L a w1 hh => ?_
         have h139 := hh.v 22 139 rfl (by kernel_rfl) (by kernel_rfl)
         have h146 := hh.v 29 146 rfl (by kernel_rfl) (by kernel_rfl)
         have hJ := Lib.hid hh.st
         clear hh
         go_simp
         exact ⟨_, rfl, regs.bl_refl _, rfl, hJ.out⟩
        intro L w5 val hL hJ hR hv
        have h147 : val 147 = .bool false := hv 30 147 (by kernel_rfl)
        have HJ5 := Lib.hid hJ
        have HR5 := Lib.hid hR
        clear hv hL hJ hR
        simp only [regs.putAll, List.map_cons, List.map_nil]
        rw [h147]
        generalize val 117 = v117
        generalize val 118 = v118
        generalize val 119 = v119
        generalize val 120 = v120
        generalize val 121 = v121
        generalize val 122 = v122
        generalize val 123 = v123
        generalize val 124 = v124
        generalize val 125 = v125
        generalize val 126 = v126
        generalize val 127 = v127
        generalize val 128 = v128
        generalize val 129 = v129
        generalize val 130 = v130
        generalize val 131 = v131
        generalize val 132 = v132
        generalize val 133 = v133
        generalize val 134 = v134
        generalize val 135 = v135
        generalize val 136 = v136
        generalize val 137 = v137
        generalize val 138 = v138
        generalize val 139 = v139
        generalize val 140 = v140
        generalize val 141 = v141
        generalize val 142 = v142
        generalize val 143 = v143
        generalize val 144 = v144
        generalize val 145 = v145
        generalize val 146 = v146
        simp only [Act.put, List.setIfInBounds_toArray, List.set_cons_zero, List.set_cons_succ]
        clear h147
        go_wp2_with (fail)
        go_meet
        exact ⟨rfl, HJ5⟩
       ·refine regs.wp_region_put (regs.bl) (fun _ wx => CutsAt w (⟨ra, rb, rc, rd⟩ : Bx) (⟨sa, sb, sc, sd⟩ : Bx) (⟨ta, tb, tc, td⟩ : Bx) (⟨ca, cb, cc, cd⟩ : Bx) (⟨ja, jb, jc, jd⟩ : Bx) g7 g8 wx) [117, 118, 119, 120, 121, 122, 123, 124, 125, 126, 127, 128, 129, 130, 131, 132, 133, 134, 135, 136, 137, 138, 139, 140, 141, 142, 143, 144, 145, 146, 147] (by kernel_rfl) (by kernel_rfl) (fun _ => regs.bl_refl _) (regs.bl_trans) (fun i => (match i with
         | 0 => regs.Say.val _ (.agg #[.int .i64 ca, .int .i64 cb, .int .i64 cc, .int .i64 cd])
         | 1 => regs.Say.val _ (.bool true)
         | 2 => regs.Say.val _ (.bool true)
         | 3 => regs.Say.val _ (.agg #[.int .i64 ca, .int .i64 cb, .int .i64 cc, .int .i64 cd])
         | 4 => regs.Say.val _ (.agg #[.int .i64 0, .int .i64 0, .int .i64 0, .int .i64 0])
         | 5 => regs.Say.val _ (.bool false)
         | 6 => regs.Say.val _ (.bool false)
         | 7 => regs.Say.val _ (.bool false)
         | 8 => regs.Say.val _ (.agg #[.int .i64 ja, .int .i64 jb, .int .i64 jc, .int .i64 jd])
         | 9 => regs.Say.val _ (.bool true)
         | 10 => regs.Say.val _ (.agg #[.int .i64 ra, .int .i64 rb, .int .i64 rc, .int .i64 rd])
         | 11 => regs.Say.val _ (.bool true)
         | 12 => regs.Say.val _ (.bool true)
         | 13 => regs.Say.val _ (.agg #[.int .i64 sa, .int .i64 sb, .int .i64 sc, .int .i64 sd])
         | 14 => regs.Say.val _ (.bool true)
         | 15 => regs.Say.val _ (.bool true)
         | 16 => regs.Say.val _ (.bool true)
         | 17 => regs.Say.val _ (.agg #[.int .i64 ta, .int .i64 tb, .int .i64 tc, .int .i64 td])
         | 18 => regs.Say.val _ (.bool true)
         | 19 => regs.Say.val _ (.bool true)
         | 20 => regs.Say.val _ (.bool false)
         | 21 => regs.Say.val _ (.bool false)
         | 22 => regs.Say.val _ (.bool false)
         | 23 => regs.Say.val _ (.agg #[.int .i64 ja, .int .i64 jb, .int .i64 jc, .int .i64 jd])
         | 24 => regs.Say.val _ (.bool true)
         | 25 => regs.Say.val _ (.bool true)
         | 26 => regs.Say.val _ (.agg #[.int .i64 ja, .int .i64 jb, .int .i64 jc, .int .i64 jd])
         | 27 => regs.Say.val _ (.agg #[.int .i64 0, .int .i64 0, .int .i64 0, .int .i64 0])
         | 28 => regs.Say.val _ (.bool false)
         | 29 => regs.Say.val _ (.bool false)
         | 30 => regs.Say.val _ (.bool false)
         | _ => regs.Say.any _ : regs.Say (regs.bl)).p) (fun _ => regs.Say.mono _) (by kernel_rfl) ((Below.refl _ _).drew) (HA.out.below ((Below.refl _ _).drew)) ⟨?_, ?_, ?_, ?_, ?_, ?_, ?_, ?_, ?_, ?_, ?_, ?_, ?_, ?_, ?_, ?_, ?_, ?_, ?_, ?_, ?_, ?_, ?_, ?_, ?_, ?_, ?_, ?_, ?_, ?_, ?_, trivial⟩ ?_
        ·refine regs.StepOK.plain rfl fun L a w1 hh => ?_
         have h7 : a.tmps[7]?.getD undef = .pointer (some ⟨g7, 0, none⟩) := hh.kp 7 rfl rfl
         obtain ⟨⟨c0, c1, c2, c3⟩, -, -⟩ := (hh.st.1.2.2.2.1).c4
         have hJ := Lib.hid hh.st
         clear hh
         go_simp
         exact ⟨_, rfl, regs.bl_refl _, rfl, hJ.out⟩
        ·refine regs.StepOK.plain rfl fun L a w1 hh => ?_
         have h117 := hh.v 0 117 rfl (by kernel_rfl) (by kernel_rfl)
         have := True.intro
         have hJ := Lib.hid hh.st
         clear hh
         go_simp
         refine (bx_empty (⟨ca, cb, cc, cd⟩ : Bx) w1).mono ?_
         rintro e w9 ⟨rfl, hb9⟩
         exact ⟨_, rfl, hb9, congrArg Value.bool HYC.out, CutsAt.below hJ.out hb9⟩
        ·refine regs.StepOK.plain rfl fun L a w1 hh => ?_
         have h118 := hh.v 1 118 rfl (by kernel_rfl) (by kernel_rfl)
         have hJ := Lib.hid hh.st
         clear hh
         go_simp
         exact ⟨_, rfl, regs.bl_refl _, rfl, hJ.out⟩
        ·refine regs.StepOK.yes 2 true 119 rfl rfl (fun L a w1 hh => hh.dep 2 119 (by kernel_rfl) (by kernel_rfl)) fun L a w1 hh => ?_
         have h7 : a.tmps[7]?.getD undef = .pointer (some ⟨g7, 0, none⟩) := hh.kp 7 rfl rfl
         obtain ⟨⟨c0, c1, c2, c3⟩, -, -⟩ := (hh.st.1.2.2.2.1).c4
         have hJ := Lib.hid hh.st
         clear hh
         go_simp
         exact ⟨_, rfl, regs.bl_refl _, rfl, hJ.out⟩
        ·refine regs.StepOK.yes 2 true 119 rfl rfl (fun L a w1 hh => hh.dep 2 119 (by kernel_rfl) (by kernel_rfl)) fun L a w1 hh => ?_
         have hJ := Lib.hid hh.st
         clear hh
         go_simp
         exact ⟨_, rfl, regs.bl_refl _, rfl, hJ.out⟩
        ·refine regs.StepOK.yes 2 true 119 rfl rfl (fun L a w1 hh => hh.dep 2 119 (by kernel_rfl) (by kernel_rfl)) fun L a w1 hh => ?_
         have h120 := hh.v 3 120 rfl (by kernel_rfl) (by kernel_rfl)
         have h121 := hh.v 4 121 rfl (by kernel_rfl) (by kernel_rfl)
         have eqst := fun w => bx_neq (⟨ca, cb, cc, cd⟩ : Bx) (⟨0, 0, 0, 0⟩ : Bx) w
         rw [show (!decide ((⟨ca, cb, cc, cd⟩ : Bx) = (⟨0, 0, 0, 0⟩ : Bx))) = false from by rw [show ((⟨ca, cb, cc, cd⟩ : Bx) : Bx) = Bx.o from HCE.out HYC.out]; decide] at eqst
         unfold Bx.v at eqst
         simp only at eqst
         have hJ := Lib.hid hh.st
         clear hh
         go_simp
         exact ⟨_, rfl, regs.bl_refl _, rfl, hJ.out⟩
        ·refine regs.StepOK.plain rfl fun L a w1 hh => ?_
         have h119 := hh.v 2 119 rfl (by kernel_rfl) (by kernel_rfl)
         have h122 := hh.v 5 122 rfl (by kernel_rfl) (by kernel_rfl)
         have hJ := Lib.hid hh.st
         clear hh
         go_simp
         exact ⟨_, rfl, regs.bl_refl _, rfl, hJ.out⟩
        ·refine regs.StepOK.plain rfl fun L a w1 hh => ?_
         have h123 := hh.v 6 123 rfl (by kernel_rfl) (by kernel_rfl)
         have hJ := Lib.hid hh.st
         clear hh
         go_simp
         exact ⟨_, rfl, regs.bl_refl _, rfl, hJ.out⟩
        ·refine regs.StepOK.yes 7 false 124 rfl rfl (fun L a w1 hh => hh.dep 7 124 (by kernel_rfl) (by kernel_rfl)) fun L a w1 hh => ?_
         have h8 : a.tmps[8]?.getD undef = .pointer (some ⟨g8, 0, none⟩) := hh.kp 8 rfl rfl
         obtain ⟨⟨c0, c1, c2, c3⟩, -, -⟩ := (hh.st.1.2.2.2.2.1).c4
         have hJ := Lib.hid hh.st
         clear hh
         go_simp
         exact ⟨_, rfl, regs.bl_refl _, rfl, hJ.out⟩
        ·refine regs.StepOK.yes 7 false 124 rfl rfl (fun L a w1 hh => hh.dep 7 124 (by kernel_rfl) (by kernel_rfl)) fun L a w1 hh => ?_
         have h125 := hh.v 8 125 rfl (by kernel_rfl) (by kernel_rfl)
         have := True.intro
         have hJ := Lib.hid hh.st
         clear hh
         go_simp
         refine (bx_empty (⟨ja, jb, jc, jd⟩ : Bx) w1).mono ?_
         rintro e w9 ⟨rfl, hb9⟩
         exact ⟨_, rfl, hb9, congrArg Value.bool HJE.out, CutsAt.below hJ.out hb9⟩
        ·refine regs.StepOK.yes 7 false 124 rfl rfl (fun L a w1 hh => hh.dep 7 124 (by kernel_rfl) (by kernel_rfl)) fun L a w1 hh => ?_
         have h3 : a.tmps[3]?.getD undef = .pointer (some ⟨w.heap.size, 0, none⟩) := hh.kp 3 rfl rfl
         obtain ⟨⟨c0, c1, c2, c3⟩, -, -⟩ := (hh.st.1.1).c4
         have hJ := Lib.hid hh.st
         clear hh
         go_simp
         exact ⟨_, rfl, regs.bl_refl _, rfl, hJ.out⟩
        ·refine regs.StepOK.yes 7 false 124 rfl rfl (fun L a w1 hh => hh.dep 7 124 (by kernel_rfl) (by kernel_rfl)) fun L a w1 hh => ?_
         have h127 := hh.v 10 127 rfl (by kernel_rfl) (by kernel_rfl)
         have := True.intro
         have hJ := Lib.hid hh.st
         clear hh
         go_simp
         refine (bx_empty (⟨ra, rb, rc, rd⟩ : Bx) w1).mono ?_
         rintro e w9 ⟨rfl, hb9⟩
         exact ⟨_, rfl, hb9, congrArg Value.bool HYR.out, CutsAt.below hJ.out hb9⟩
        ·refine regs.StepOK.yes 7 false 124 rfl rfl (fun L a w1 hh => hh.dep 7 124 (by kernel_rfl) (by kernel_rfl)) fun L a w1 hh => ?_
         have h128 := hh.v 11 128 rfl (by kernel_rfl) (by kernel_rfl)
         have hJ := Lib.hid hh.st
         clear hh
         go_simp
         exact ⟨_, rfl, regs.bl_refl _, rfl, hJ.out⟩
        ·refine regs.StepOK.yes 12 true 129 rfl rfl (fun L a w1 hh => hh.dep 12 129 (by kernel_rfl) (by kernel_rfl)) fun L a w1 hh => ?_
         have h4 : a.tmps[4]?.getD undef = .pointer (some ⟨(w.heap.size + 1), 0, none⟩) := hh.kp 4 rfl rfl
         obtain ⟨⟨c0, c1, c2, c3⟩, -, -⟩ := (hh.st.1.2.1).c4
         have hJ := Lib.hid hh.st
         clear hh
         go_simp
         exact ⟨_, rfl, regs.bl_refl _, rfl, hJ.out⟩
        ·refine regs.StepOK.yes 12 true 129 rfl rfl (fun L a w1 hh => hh.dep 12 129 (by kernel_rfl) (by kernel_rfl)) fun L a w1 hh => ?_
         have h130 := hh.v 13 130 rfl (by kernel_rfl) (by kernel_rfl)
         have := True.intro
         have hJ := Lib.hid hh.st
         clear hh
         go_simp
         refine (bx_empty (⟨sa, sb, sc, sd⟩ : Bx) w1).mono ?_
         rintro e w9 ⟨rfl, hb9⟩
         exact ⟨_, rfl, hb9, congrArg Value.bool HYS.out, CutsAt.below hJ.out hb9⟩
        ·refine regs.StepOK.yes 7 false 124 rfl rfl (fun L a w1 hh => hh.dep 7 124 (by kernel_rfl) (by kernel_rfl)) fun L a w1 hh => ?_
         have h129 := hh.v 12 129 rfl (by kernel_rfl) (by kernel_rfl)
         have h131 := hh.v 14 131 rfl (by kernel_rfl) (by kernel_rfl)
         have hJ := Lib.hid hh.st
         clear hh
         go_simp
         exact ⟨_, rfl, regs.bl_refl _, rfl, hJ.out⟩
        ·refine regs.StepOK.yes 7 false 124 rfl rfl (fun L a w1 hh => hh.dep 7 124 (by kernel_rfl) (by kernel_rfl)) fun L a w1 hh => ?_
         have h132 := hh.v 15 132 rfl (by kernel_rfl) (by kernel_rfl)
         have hJ := Lib.hid hh.st
         clear hh
         go_simp
         exact ⟨_, rfl, regs.bl_refl _, rfl, hJ.out⟩
        ·refine regs.StepOK.yes 16 true 133 rfl rfl (fun L a w1 hh => hh.dep 16 133 (by kernel_rfl) (by kernel_rfl)) fun L a w1 hh => ?_
         have h5 : a.tmps[5]?.getD undef = .pointer (some ⟨(w.heap.size + 2), 0, none⟩) := hh.kp 5 rfl rfl
         obtain ⟨⟨c0, c1, c2, c3⟩, -, -⟩ := (hh.st.1.2.2.1).c4
         have hJ := Lib.hid hh.st
         clear hh
         go_simp
         exact ⟨_, rfl, regs.bl_refl _, rfl, hJ.out⟩
        ·refine regs.StepOK.yes 16 true 133 rfl rfl (fun L a w1 hh => hh.dep 16 133 (by kernel_rfl) (by kernel_rfl)) fun L a w1 hh => ?_
         have h134 := hh.v 17 134 rfl (by kernel_rfl) (by kernel_rfl)
         have := True.intro
         have hJ := Lib.hid hh.st
         clear hh
         go_simp
         refine (bx_empty (⟨ta, tb, tc, td⟩ : Bx) w1).mono ?_
         rintro e w9 ⟨rfl, hb9⟩
         exact ⟨_, rfl, hb9, congrArg Value.bool HYT.out, CutsAt.below hJ.out hb9⟩
        ·refine regs.StepOK.yes 7 false 124 rfl rfl (fun L a w1 hh => hh.dep 7 124 (by kernel_rfl) (by kernel_rfl)) fun L a w1 hh => ?_
         have h133 := hh.v 16 133 rfl (by kernel_rfl) (by kernel_rfl)
         have h135 := hh.v 18 135 rfl (by kernel_rfl) (by kernel_rfl)
         have hJ := Lib.hid hh.st
         clear hh
         go_simp
         exact ⟨_, rfl, regs.bl_refl _, rfl, hJ.out⟩
        ·refine regs.StepOK.yes 7 false 124 rfl rfl (fun L a w1 hh => hh.dep 7 124 (by kernel_rfl) (by kernel_rfl)) fun L a w1 hh => ?_
         have h126 := hh.v 9 126 rfl (by kernel_rfl) (by kernel_rfl)
         have h136 := hh.v 19 136 rfl (by kernel_rfl) (by kernel_rfl)
         have hJ := Lib.hid hh.st
         clear hh
         go_simp
         exact ⟨_, rfl, regs.bl_refl _, rfl, hJ.out⟩
        ·refine regs.StepOK.plain rfl fun L a w1 hh => ?_
         have h124 := hh.v 7 124 rfl (by kernel_rfl) (by kernel_rfl)
         have h137 := hh.v 20 137 rfl (by kernel_rfl) (by kernel_rfl)
         have hJ := Lib.hid hh.st
         clear hh
         go_simp
         exact ⟨_, rfl, regs.bl_refl _, rfl, hJ.out⟩
        ·refine regs.StepOK.plain rfl fun L a w1 hh => ?_
         have h138 := hh.v 21 138 rfl (by kernel_rfl) (by kernel_rfl)
         have hJ := Lib.hid hh.st
         clear hh
         go_simp
         exact ⟨_, rfl, regs.bl_refl _, rfl, hJ.out⟩
        ·refine regs.StepOK.yes 22 false 139 rfl rfl (fun L a w1 hh => hh.dep 22 139 (by kernel_rfl) (by kernel_rfl)) fun L a w1 hh => ?_
         have h8 : a.tmps[8]?.getD undef = .pointer (some ⟨g8, 0, none⟩) := hh.kp 8 rfl rfl
         obtain ⟨⟨c0, c1, c2, c3⟩, -, -⟩ := (hh.st.1.2.2.2.2.1).c4
         have hJ := Lib.hid hh.st
         clear hh
         go_simp
         exact ⟨_, rfl, regs.bl_refl _, rfl, hJ.out⟩
        ·refine regs.StepOK.yes 22 false 139 rfl rfl (fun L a w1 hh => hh.dep 22 139 (by kernel_rfl) (by kernel_rfl)) fun L a w1 hh => ?_
         have h140 := hh.v 23 140 rfl (by kernel_rfl) (by kernel_rfl)
         have := True.intro
         have hJ := Lib.hid hh.st
         clear hh
         go_simp
         refine (bx_empty (⟨ja, jb, jc, jd⟩ : Bx) w1).mono ?_
         rintro e w9 ⟨rfl, hb9⟩
         exact ⟨_, rfl, hb9, congrArg Value.bool HJE.out, CutsAt.below hJ.out hb9⟩
        ·refine regs.StepOK.yes 22 false 139 rfl rfl (fun L a w1 hh => hh.dep 22 139 (by kernel_rfl) (by kernel_rfl)) fun L a w1 hh => ?_
         have h141 := hh.v 24 141 rfl (by kernel_rfl) (by kernel_rfl)
         have hJ := Lib.hid hh.st
         clear hh
         go_simp
         exact ⟨_, rfl, regs.bl_refl _, rfl, hJ.out⟩
        ·refine regs.StepOK.yes 25 true 142 rfl rfl (fun L a w1 hh => hh.dep 25 142 (by kernel_rfl) (by kernel_rfl)) fun L a w1 hh => ?_
         have h8 : a.tmps[8]?.getD undef = .pointer (some ⟨g8, 0, none⟩) := hh.kp 8 rfl rfl
         obtain ⟨⟨c0, c1, c2, c3⟩, -, -⟩ := (hh.st.1.2.2.2.2.1).c4
         have hJ := Lib.hid hh.st
         clear hh
         go_simp
         exact ⟨_, rfl, regs.bl_refl _, rfl, hJ.out⟩
        ·refine regs.StepOK.yes 25 true 142 rfl rfl (fun L a w1 hh => hh.dep 25 142 (by kernel_rfl) (by kernel_rfl)) fun L a w1 hh => ?_
         have hJ := Lib.hid hh.st
         clear hh
         go_simp
         exact ⟨_, rfl, regs.bl_refl _, rfl, hJ.out⟩
        ·refine regs.StepOK.yes 25 true 142 rfl rfl (fun L a w1 hh => hh.dep 25 142 (by kernel_rfl) (by kernel_rfl)) fun L a w1 hh => ?_
         have h143 := hh.v 26 143 rfl (by kernel_rfl) (by kernel_rfl)
         have h144 := hh.v 27 144 rfl (by kernel_rfl) (by kernel_rfl)
         have eqst := fun w => bx_neq (⟨ja, jb, jc, jd⟩ : Bx) (⟨0, 0, 0, 0⟩ : Bx) w
         rw [show (!decide ((⟨ja, jb, jc, jd⟩ : Bx) = (⟨0, 0, 0, 0⟩ : Bx))) = false from by rw [show ((⟨ja, jb, jc, jd⟩ : Bx) : Bx) = Bx.o from HJO.out HJE.out]; decide] at eqst
         unfold Bx.v at eqst
         simp only at eqst
         have hJ := Lib.hid hh.st
         clear hh
         go_simp
         exact ⟨_, rfl, regs.bl_refl _, rfl, hJ.out⟩
        ·refine regs.StepOK.yes 22 false 139 rfl rfl (fun L a w1 hh => hh.dep 22 139 (by kernel_rfl) (by kernel_rfl)) fun L a w1 hh => ?_
         have h142 := hh.v 25 142 rfl (by kernel_rfl) (by kernel_rfl)
         have h145 := hh.v 28 145 rfl (by kernel_rfl) (by kernel_rfl)
         have hJ := Lib.hid hh.st
         clear hh
         go_simp
         exact ⟨_, rfl, regs.bl_refl _, rfl, hJ.out⟩
        ·refine regs.StepOK.plain rfl fun L a w1 hh => ?_
         have h139 := hh.v 22 139 rfl (by kernel_rfl) (by kernel_rfl)
         have h146 := hh.v 29 146 rfl (by kernel_rfl) (by kernel_rfl)
         have hJ := Lib.hid hh.st
         clear hh
         go_simp
         exact ⟨_, rfl, regs.bl_refl _, rfl, hJ.out⟩
        intro L w5 val hL hJ hR hv
        have h147 : val 147 = .bool false := hv 30 147 (by kernel_rfl)
        have HJ5 := Lib.hid hJ
        have HR5 := Lib.hid hR
        clear hv hL hJ hR
        simp only [regs.putAll, List.map_cons, List.map_nil]
        rw [h147]
        generalize val 117 = v117
        generalize val 118 = v118
        generalize val 119 = v119
        generalize val 120 = v120
        generalize val 121 = v121
        generalize val 122 = v122
        generalize val 123 = v123
        generalize val 124 = v124
        generalize val 125 = v125
        generalize val 126 = v126
        generalize val 127 = v127
        generalize val 128 = v128
        generalize val 129 = v129
        generalize val 130 = v130
        generalize val 131 = v131
        generalize val 132 = v132
        generalize val 133 = v133
        generalize val 134 = v134
        generalize val 135 = v135
        generalize val 136 = v136
        generalize val 137 = v137
        generalize val 138 = v138
        generalize val 139 = v139
        generalize val 140 = v140
        generalize val 141 = v141
        generalize val 142 = v142
        generalize val 143 = v143
        generalize val 144 = v144
        generalize val 145 = v145
        generalize val 146 = v146
        simp only [Act.put, List.setIfInBounds_toArray, List.set_cons_zero, List.set_cons_succ]
        clear h147
        go_wp2_with (fail)
        go_meet
        exact ⟨rfl, HJ5⟩
   case rest =>
    obtain ⟨rfl, HX⟩ := hcut
    clear HA
    have HE := Lib.hid (fun w => bx_empty ⟨ja, jb, jc, jd⟩ w)
    obtain ⟨yj, hyj⟩ : ∃ b, Bx.emp ⟨ja, jb, jc, jd⟩ = b := ⟨_, rfl⟩
    rw [hyj] at HE HSD
    clear hyj HCE HJE HJO
    have HX0 := Lib.hid HX.out
    obtain ⟨⟨e0, e1, e2, e3⟩, -, i4⟩ := (show Blk wc g8 [.int .i64 ja, .int .i64 jb, .int .i64 jc, .int .i64 jd] from HX.out.1.2.2.2.2.1).c4
    unfold Bx.v at HE
    simp only at HE
    go_wp2_with (fail)
    refine (HE.out _).mono ?_
    rintro e w6 ⟨rfl, hb⟩
    have HX6 := Lib.hid (HX.out.below hb)
    clear hb HX HX0 e0 e1 e2 e3 i4 HE
    cases yj with
    | true =>
     clear HSD
     go_upto_region 31 with fail
     obtain ⟨⟨nua, nub, nuc, nud⟩, hcu⟩ : ∃ q, Bx.cut (⟨ra, rb, rc, rd⟩ : Bx) [(⟨sa, sb, sc, sd⟩ : Bx)] = q := ⟨_, rfl⟩
     have HCU := Lib.hid hcu
     obtain ⟨⟨nva, nvb, nvc, nvd⟩, hju⟩ : ∃ q, Bx.join (⟨ra, rb, rc, rd⟩ : Bx) [(⟨sa, sb, sc, sd⟩ : Bx)] = q := ⟨_, rfl⟩
     have HJU := Lib.hid hju
     clear hcu hju
     refine regs.wp_region_put (regs.bl) (fun _ wx => CutsAt w (⟨ra, rb, rc, rd⟩ : Bx) (⟨sa, sb, sc, sd⟩ : Bx) (⟨ta, tb, tc, td⟩ : Bx) (⟨ca, cb, cc, cd⟩ : Bx) (⟨ja, jb, jc, jd⟩ : Bx) g7 g8 wx) [206, 207, 208, 209, 210, 211, 212, 213, 214, 215, 216, 217, 218, 219, 220, 221, 222, 223, 224, 225, 226, 227, 228, 229, 230, 231, 232, 233, 234, 235, 236, 237, 238, 239, 240, 6] (by kernel_rfl) (by kernel_rfl) (fun _ => regs.bl_refl _) (regs.bl_trans) (fun i => (match i with
      | 0 => regs.Say.val _ (.agg #[.int .i64 ra, .int .i64 rb, .int .i64 rc, .int .i64 rd])
      | 1 => regs.Say.val _ (.agg #[.int .i64 sa, .int .i64 sb, .int .i64 sc, .int .i64 sd])
      | 2 => sayB [(⟨sa, sb, sc, sd⟩ : Bx)]
      | 3 => regs.Say.val _ (.agg #[.int .i64 nua, .int .i64 nub, .int .i64 nuc, .int .i64 nud])
      | 4 => regs.Say.val _ (.agg #[.int .i64 ra, .int .i64 rb, .int .i64 rc, .int .i64 rd])
      | 5 => regs.Say.val _ (.bool true)
      | 6 => regs.Say.val _ (.bool true)
      | 7 => regs.Say.val _ (.agg #[.int .i64 ra, .int .i64 rb, .int .i64 rc, .int .i64 rd])
      | 8 => regs.Say.val _ (.agg #[.int .i64 ra, .int .i64 rb, .int .i64 rc, .int .i64 rd])
      | 9 => regs.Say.val _ (.agg #[.int .i64 sa, .int .i64 sb, .int .i64 sc, .int .i64 sd])
      | 10 => sayB [(⟨sa, sb, sc, sd⟩ : Bx)]
      | 11 => regs.Say.val _ (.agg #[.int .i64 nva, .int .i64 nvb, .int .i64 nvc, .int .i64 nvd])
      | 12 => regs.Say.val _ (.bool true)
      | 13 => regs.Say.val _ (.bool true)
      | 14 => regs.Say.val _ (.bool true)
      | 15 => regs.Say.val _ (.agg #[.int .i64 ca, .int .i64 cb, .int .i64 cc, .int .i64 cd])
      | 16 => regs.Say.val _ (.agg #[.int .i64 ta, .int .i64 tb, .int .i64 tc, .int .i64 td])
      | 17 => regs.Say.val _ (.agg #[.int .i64 ra, .int .i64 rb, .int .i64 rc, .int .i64 rd])
      | 18 => regs.Say.val _ (.agg #[.int .i64 sa, .int .i64 sb, .int .i64 sc, .int .i64 sd])
      | 19 => sayB [(⟨ra, rb, rc, rd⟩ : Bx), (⟨sa, sb, sc, sd⟩ : Bx)]
      | 20 => regs.Say.val _ (.agg #[.int .i64 ca, .int .i64 cb, .int .i64 cc, .int .i64 cd])
      | 21 => regs.Say.val _ (.bool true)
      | 22 => regs.Say.val _ (.bool true)
      | 23 => regs.Say.val _ (.bool true)
      | 24 => regs.Say.val _ (.agg #[.int .i64 ja, .int .i64 jb, .int .i64 jc, .int .i64 jd])
      | 25 => regs.Say.val _ (.agg #[.int .i64 ta, .int .i64 tb, .int .i64 tc, .int .i64 td])
      | 26 => regs.Say.val _ (.agg #[.int .i64 ra, .int .i64 rb, .int .i64 rc, .int .i64 rd])
      | 27 => regs.Say.val _ (.agg #[.int .i64 sa, .int .i64 sb, .int .i64 sc, .int .i64 sd])
      | 28 => sayB [(⟨ra, rb, rc, rd⟩ : Bx), (⟨sa, sb, sc, sd⟩ : Bx)]
      | 29 => regs.Say.val _ (.agg #[.int .i64 ja, .int .i64 jb, .int .i64 jc, .int .i64 jd])
      | 30 => regs.Say.val _ (.bool true)
      | 31 => regs.Say.val _ (.bool true)
      | 32 => regs.Say.val _ (.bool true)
      | 33 => regs.Say.val _ (.bool true)
      | 34 => regs.Say.val _ (.bool true)
      | 35 => regs.Say.val _ (.bool true)
      | _ => regs.Say.any _ : regs.Say (regs.bl)).p) (fun _ => regs.Say.mono _) (by kernel_rfl) ((Below.refl _ _).drew) (HX6.out.below ((Below.refl _ _).drew)) ⟨?_, ?_, ?_, ?_, ?_, ?_, ?_, ?_, ?_, ?_, ?_, ?_, ?_, ?_, ?_, ?_, ?_, ?_, ?_, ?_, ?_, ?_, ?_, ?_, ?_, ?_, ?_, ?_, ?_, ?_, ?_, ?_, ?_, ?_, ?_, ?_, trivial⟩ ?_
     ·refine regs.StepOK.plain rfl fun L a w1 hh => ?_
      have h3 : a.tmps[3]?.getD undef = .pointer (some ⟨w.heap.size, 0, none⟩) := hh.kp 3 rfl rfl
      obtain ⟨⟨c0, c1, c2, c3⟩, -, -⟩ := (hh.st.1.1).c4
      have hJ := Lib.hid hh.st
      clear hh
      go_simp
      exact ⟨_, rfl, regs.bl_refl _, rfl, hJ.out⟩
     ·refine regs.StepOK.plain rfl fun L a w1 hh => ?_
      have h4 : a.tmps[4]?.getD undef = .pointer (some ⟨(w.heap.size + 1), 0, none⟩) := hh.kp 4 rfl rfl
      obtain ⟨⟨c0, c1, c2, c3⟩, -, -⟩ := (hh.st.1.2.1).c4
      have hJ := Lib.hid hh.st
      clear hh
      go_simp
      exact ⟨_, rfl, regs.bl_refl _, rfl, hJ.out⟩
     ·refine regs.StepOK.plain rfl fun L a w1 hh => ?_
      have h207 := hh.v 1 207 rfl (by kernel_rfl) (by kernel_rfl)
      have hJ := Lib.hid hh.st
      clear hh
      go_simp
      exact ⟨_, rfl, (Below.refl _ _).alloc (Nat.le_refl _) _, ⟨_, _, rfl, brow_new w1 [(⟨sa, sb, sc, sd⟩ : Bx)] rfl, Nat.le_refl _, by simp [maxLen]⟩, CutsAt.below hJ.out ((Below.refl _ _).alloc (Nat.le_refl _) _)⟩
     ·refine regs.StepOK.plain rfl fun L a w1 hh => ?_
      have h206 := hh.v 0 206 rfl (by kernel_rfl) (by kernel_rfl)
      obtain ⟨A208, c208, h208, hrow208, hc208, hm208⟩ : ∃ A c, a.tmps[208]?.getD undef = .slice A 1 c ∧ BRow w1 A [(⟨sa, sb, sc, sd⟩ : Bx)] ∧ 1 ≤ c ∧ c ≤ maxLen := by rw [← Array.getD_eq_getD_getElem?]; exact hh.dep 2 208 (by kernel_rfl) (by kernel_rfl)
      have hJ := Lib.hid hh.st
      clear hh
      go_simp
      refine (bx_cut (⟨ra, rb, rc, rd⟩ : Bx) A208 [(⟨sa, sb, sc, sd⟩ : Bx)] c208 w1 hrow208 (by simp)).mono ?_
      rintro e w9 ⟨rfl, hb9⟩
      exact ⟨_, rfl, hb9, congrArg Bx.v (HCU.out), CutsAt.below hJ.out hb9⟩
     ·refine regs.StepOK.plain rfl fun L a w1 hh => ?_
      have h3 : a.tmps[3]?.getD undef = .pointer (some ⟨w.heap.size, 0, none⟩) := hh.kp 3 rfl rfl
      obtain ⟨⟨c0, c1, c2, c3⟩, -, -⟩ := (hh.st.1.1).c4
      have hJ := Lib.hid hh.st
      clear hh
      go_simp
      exact ⟨_, rfl, regs.bl_refl _, rfl, hJ.out⟩
     ·refine regs.StepOK.plain rfl fun L a w1 hh => ?_
      have h209 := hh.v 3 209 rfl (by kernel_rfl) (by kernel_rfl)
      have h210 := hh.v 4 210 rfl (by kernel_rfl) (by kernel_rfl)
      have := True.intro
      have hJ := Lib.hid hh.st
      clear hh
      go_simp
      refine (bx_within (⟨nua, nub, nuc, nud⟩ : Bx) (⟨ra, rb, rc, rd⟩ : Bx) w1).mono ?_
      rintro e w9 ⟨rfl, hb9⟩
      exact ⟨_, rfl, hb9, congrArg Value.bool (by rw [← HCU.out]; exact cut_within (⟨ra, rb, rc, rd⟩ : Bx) (⟨sa, sb, sc, sd⟩ : Bx)), CutsAt.below hJ.out hb9⟩
     ·refine regs.StepOK.plain rfl fun L a w1 hh => ?_
      have h211 := hh.v 5 211 rfl (by kernel_rfl) (by kernel_rfl)
      have hJ := Lib.hid hh.st
      clear hh
      go_simp
      exact ⟨_, rfl, regs.bl_refl _, rfl, hJ.out⟩
     ·refine regs.StepOK.yes 6 true 212 rfl rfl (fun L a w1 hh => hh.dep 6 212 (by kernel_rfl) (by kernel_rfl)) fun L a w1 hh => ?_
      have h3 : a.tmps[3]?.getD undef = .pointer (some ⟨w.heap.size, 0, none⟩) := hh.kp 3 rfl rfl
      obtain ⟨⟨c0, c1, c2, c3⟩, -, -⟩ := (hh.st.1.1).c4
      have hJ := Lib.hid hh.st
      clear hh
      go_simp
      exact ⟨_, rfl, regs.bl_refl _, rfl, hJ.out⟩
     ·refine regs.StepOK.yes 6 true 212 rfl rfl (fun L a w1 hh => hh.dep 6 212 (by kernel_rfl) (by kernel_rfl)) fun L a w1 hh => ?_
      have h3 : a.tmps[3]?.getD undef = .pointer (some ⟨w.heap.size, 0, none⟩) := hh.kp 3 rfl rfl
      obtain ⟨⟨c0, c1, c2, c3⟩, -, -⟩ := (hh.st.1.1).c4
      have hJ := Lib.hid hh.st
      clear hh
      go_simp
      exact ⟨_, rfl, regs.bl_refl _, rfl, hJ.out⟩
     ·refine regs.StepOK.yes 6 true 212 rfl rfl (fun L a w1 hh => hh.dep 6 212 (by kernel_rfl) (by kernel_rfl)) fun L a w1 hh => ?_
      have h4 : a.tmps[4]?.getD undef = .pointer (some ⟨(w.heap.size + 1), 0, none⟩) := hh.kp 4 rfl rfl
      obtain ⟨⟨c0, c1, c2, c3⟩, -, -⟩ := (hh.st.1.2.1).c4
      have hJ := Lib.hid hh.st
      clear hh
      go_simp
      exact ⟨_, rfl, regs.bl_refl _, rfl, hJ.out⟩
     ·refine regs.StepOK.yes 6 true 212 rfl rfl (fun L a w1 hh => hh.dep 6 212 (by kernel_rfl) (by kernel_rfl)) fun L a w1 hh => ?_
      have h215 := hh.v 9 215 rfl (by kernel_rfl) (by kernel_rfl)
      have hJ := Lib.hid hh.st
      clear hh
      go_simp
      exact ⟨_, rfl, (Below.refl _ _).alloc (Nat.le_refl _) _, ⟨_, _, rfl, brow_new w1 [(⟨sa, sb, sc, sd⟩ : Bx)] rfl, Nat.le_refl _, by simp [maxLen]⟩, CutsAt.below hJ.out ((Below.refl _ _).alloc (Nat.le_refl _) _)⟩
     ·refine regs.StepOK.yes 6 true 212 rfl rfl (fun L a w1 hh => hh.dep 6 212 (by kernel_rfl) (by kernel_rfl)) fun L a w1 hh => ?_
      have h214 := hh.v 8 214 rfl (by kernel_rfl) (by kernel_rfl)
      obtain ⟨A216, c216, h216, hrow216, hc216, hm216⟩ : ∃ A c, a.tmps[216]?.getD undef = .slice A 1 c ∧ BRow w1 A [(⟨sa, sb, sc, sd⟩ : Bx)] ∧ 1 ≤ c ∧ c ≤ maxLen := by rw [← Array.getD_eq_getD_getElem?]; exact hh.dep 10 216 (by kernel_rfl) (by kernel_rfl)
      have hJ := Lib.hid hh.st
      clear hh
      go_simp
      refine (bx_join (⟨ra, rb, rc, rd⟩ : Bx) A216 [(⟨sa, sb, sc, sd⟩ : Bx)] c216 w1 hrow216 (by simp)).mono ?_
      rintro e w9 ⟨rfl, hb9⟩
      exact ⟨_, rfl, hb9, congrArg Bx.v (HJU.out), CutsAt.below hJ.out hb9⟩
     ·refine regs.StepOK.yes 6 true 212 rfl rfl (fun L a w1 hh => hh.dep 6 212 (by kernel_rfl) (by kernel_rfl)) fun L a w1 hh => ?_
      have h213 := hh.v 7 213 rfl (by kernel_rfl) (by kernel_rfl)
      have h217 := hh.v 11 217 rfl (by kernel_rfl) (by kernel_rfl)
      have := True.intro
      have hJ := Lib.hid hh.st
      clear hh
      go_simp
      refine (bx_within (⟨ra, rb, rc, rd⟩ : Bx) (⟨nva, nvb, nvc, nvd⟩ : Bx) w1).mono ?_
      rintro e w9 ⟨rfl, hb9⟩
      exact ⟨_, rfl, hb9, congrArg Value.bool (by rw [← HJU.out]; exact within_join (⟨ra, rb, rc, rd⟩ : Bx) (⟨sa, sb, sc, sd⟩ : Bx)), CutsAt.below hJ.out hb9⟩
     ·refine regs.StepOK.plain rfl fun L a w1 hh => ?_
      have h212 := hh.v 6 212 rfl (by kernel_rfl) (by kernel_rfl)
      have h218 := hh.v 12 218 rfl (by kernel_rfl) (by kernel_rfl)
      have hJ := Lib.hid hh.st
      clear hh
      go_simp
      exact ⟨_, rfl, regs.bl_refl _, rfl, hJ.out⟩
     ·refine regs.StepOK.plain rfl fun L a w1 hh => ?_
      have h219 := hh.v 13 219 rfl (by kernel_rfl) (by kernel_rfl)
      have hJ := Lib.hid hh.st
      clear hh
      go_simp
      exact ⟨_, rfl, regs.bl_refl _, rfl, hJ.out⟩
     ·refine regs.StepOK.yes 14 true 220 rfl rfl (fun L a w1 hh => hh.dep 14 220 (by kernel_rfl) (by kernel_rfl)) fun L a w1 hh => ?_
      have h7 : a.tmps[7]?.getD undef = .pointer (some ⟨g7, 0, none⟩) := hh.kp 7 rfl rfl
      obtain ⟨⟨c0, c1, c2, c3⟩, -, -⟩ := (hh.st.1.2.2.2.1).c4
      have hJ := Lib.hid hh.st
      clear hh
      go_simp
      exact ⟨_, rfl, regs.bl_refl _, rfl, hJ.out⟩
     ·refine regs.StepOK.yes 14 true 220 rfl rfl (fun L a w1 hh => hh.dep 14 220 (by kernel_rfl) (by kernel_rfl)) fun L a w1 hh => ?_
      have h5 : a.tmps[5]?.getD undef = .pointer (some ⟨(w.heap.size + 2), 0, none⟩) := hh.kp 5 rfl rfl
      obtain ⟨⟨c0, c1, c2, c3⟩, -, -⟩ := (hh.st.1.2.2.1).c4
      have hJ := Lib.hid hh.st
      clear hh
      go_simp
      exact ⟨_, rfl, regs.bl_refl _, rfl, hJ.out⟩
     ·refine regs.StepOK.yes 14 true 220 rfl rfl (fun L a w1 hh => hh.dep 14 220 (by kernel_rfl) (by kernel_rfl)) fun L a w1 hh => ?_
      have h3 : a.tmps[3]?.getD undef = .pointer (some ⟨w.heap.size, 0, none⟩) := hh.kp 3 rfl rfl
      obtain ⟨⟨c0, c1, c2, c3⟩, -, -⟩ := (hh.st.1.1).c4
      have hJ := Lib.hid hh.st
      clear hh
      go_simp
      exact ⟨_, rfl, regs.bl_refl _, rfl, hJ.out⟩
     ·refine regs.StepOK.yes 14 true 220 rfl rfl (fun L a w1 hh => hh.dep 14 220 (by kernel_rfl) (by kernel_rfl)) fun L a w1 hh => ?_
      have h4 : a.tmps[4]?.getD undef = .pointer (some ⟨(w.heap.size + 1), 0, none⟩) := hh.kp 4 rfl rfl
      obtain ⟨⟨c0, c1, c2, c3⟩, -, -⟩ := (hh.st.1.2.1).c4
      have hJ := Lib.hid hh.st
      clear hh
      go_simp
      exact ⟨_, rfl, regs.bl_refl _, rfl, hJ.out⟩
     ·refine regs.StepOK.yes 14 true 220 rfl rfl (fun L a w1 hh => hh.dep 14 220 (by kernel_rfl) (by kernel_rfl)) fun L a w1 hh => ?_
      have h223 := hh.v 17 223 rfl (by kernel_rfl) (by kernel_rfl)
      have h224 := hh.v 18 224 rfl (by kernel_rfl) (by kernel_rfl)
      have hJ := Lib.hid hh.st
      clear hh
      go_simp
      exact ⟨_, rfl, (Below.refl _ _).alloc (Nat.le_refl _) _, ⟨_, _, rfl, brow_new w1 [(⟨ra, rb, rc, rd⟩ : Bx), (⟨sa, sb, sc, sd⟩ : Bx)] rfl, Nat.le_refl _, by simp [maxLen]⟩, CutsAt.below hJ.out ((Below.refl _ _).alloc (Nat.le_refl _) _)⟩
     ·refine regs.StepOK.yes 14 true 220 rfl rfl (fun L a w1 hh => hh.dep 14 220 (by kernel_rfl) (by kernel_rfl)) fun L a w1 hh => ?_
      have h222 := hh.v 16 222 rfl (by kernel_rfl) (by kernel_rfl)
      obtain ⟨A225, c225, h225, hrow225, hc225, hm225⟩ : ∃ A c, a.tmps[225]?.getD undef = .slice A 2 c ∧ BRow w1 A [(⟨ra, rb, rc, rd⟩ : Bx), (⟨sa, sb, sc, sd⟩ : Bx)] ∧ 2 ≤ c ∧ c ≤ maxLen := by rw [← Array.getD_eq_getD_getElem?]; exact hh.dep 19 225 (by kernel_rfl) (by kernel_rfl)
      have hJ := Lib.hid hh.st
      clear hh
      go_simp
      refine (bx_cut (⟨ta, tb, tc, td⟩ : Bx) A225 [(⟨ra, rb, rc, rd⟩ : Bx), (⟨sa, sb, sc, sd⟩ : Bx)] c225 w1 hrow225 (by simp)).mono ?_
      rintro e w9 ⟨rfl, hb9⟩
      exact ⟨_, rfl, hb9, congrArg Bx.v (show Bx.cut (⟨ta, tb, tc, td⟩ : Bx) [(⟨ra, rb, rc, rd⟩ : Bx), (⟨sa, sb, sc, sd⟩ : Bx)] = (⟨ca, cb, cc, cd⟩ : Bx) by rw [← cut_turn]; exact HC.out), CutsAt.below hJ.out hb9⟩
     ·refine regs.StepOK.yes 14 true 220 rfl rfl (fun L a w1 hh => hh.dep 14 220 (by kernel_rfl) (by kernel_rfl)) fun L a w1 hh => ?_
      have h221 := hh.v 15 221 rfl (by kernel_rfl) (by kernel_rfl)
      have h226 := hh.v 20 226 rfl (by kernel_rfl) (by kernel_rfl)
      have eqst := fun w => bx_eq (⟨ca, cb, cc, cd⟩ : Bx) (⟨ca, cb, cc, cd⟩ : Bx) w
      rw [show (decide ((⟨ca, cb, cc, cd⟩ : Bx) = (⟨ca, cb, cc, cd⟩ : Bx))) = true from by simp] at eqst
      unfold Bx.v at eqst
      simp only at eqst
      have hJ := Lib.hid hh.st
      clear hh
      go_simp
      exact ⟨_, rfl, regs.bl_refl _, rfl, hJ.out⟩
     ·refine regs.StepOK.plain rfl fun L a w1 hh => ?_
      have h220 := hh.v 14 220 rfl (by kernel_rfl) (by kernel_rfl)
      have h227 := hh.v 21 227 rfl (by kernel_rfl) (by kernel_rfl)
      have hJ := Lib.hid hh.st
      clear hh
      go_simp
      exact ⟨_, rfl, regs.bl_refl _, rfl, hJ.out⟩
     ·refine regs.StepOK.plain rfl fun L a w1 hh => ?_
      have h228 := hh.v 22 228 rfl (by kernel_rfl) (by kernel_rfl)
      have hJ := Lib.hid hh.st
      clear hh
      go_simp
      exact ⟨_, rfl, regs.bl_refl _, rfl, hJ.out⟩
     ·refine regs.StepOK.yes 23 true 229 rfl rfl (fun L a w1 hh => hh.dep 23 229 (by kernel_rfl) (by kernel_rfl)) fun L a w1 hh => ?_
      have h8 : a.tmps[8]?.getD undef = .pointer (some ⟨g8, 0, none⟩) := hh.kp 8 rfl rfl
      obtain ⟨⟨c0, c1, c2, c3⟩, -, -⟩ := (hh.st.1.2.2.2.2.1).c4
      have hJ := Lib.hid hh.st
      clear hh
      go_simp
      exact ⟨_, rfl, regs.bl_refl _, rfl, hJ.out⟩
     ·refine regs.StepOK.yes 23 true 229 rfl rfl (fun L a w1 hh => hh.dep 23 229 (by kernel_rfl) (by kernel_rfl)) fun L a w1 hh => ?_
      have h5 : a.tmps[5]?.getD undef = .pointer (some ⟨(w.heap.size + 2), 0, none⟩) := hh.kp 5 rfl rfl
      obtain ⟨⟨c0, c1, c2, c3⟩, -, -⟩ := (hh.st.1.2.2.1).c4
      have hJ := Lib.hid hh.st
      clear hh
      go_simp
      exact ⟨_, rfl, regs.bl_refl _, rfl, hJ.out⟩
     ·refine regs.StepOK.yes 23 true 229 rfl rfl (fun L a w1 hh => hh.dep 23 229 (by kernel_rfl) (by kernel_rfl)) fun L a w1 hh => ?_
      have h3 : a.tmps[3]?.getD undef = .pointer (some ⟨w.heap.size, 0, none⟩) := hh.kp 3 rfl rfl
      obtain ⟨⟨c0, c1, c2, c3⟩, -, -⟩ := (hh.st.1.1).c4
      have hJ := Lib.hid hh.st
      clear hh
      go_simp
      exact ⟨_, rfl, regs.bl_refl _, rfl, hJ.out⟩
     ·refine regs.StepOK.yes 23 true 229 rfl rfl (fun L a w1 hh => hh.dep 23 229 (by kernel_rfl) (by kernel_rfl)) fun L a w1 hh => ?_
      have h4 : a.tmps[4]?.getD undef = .pointer (some ⟨(w.heap.size + 1), 0, none⟩) := hh.kp 4 rfl rfl
      obtain ⟨⟨c0, c1, c2, c3⟩, -, -⟩ := (hh.st.1.2.1).c4
      have hJ := Lib.hid hh.st
      clear hh
      go_simp
      exact ⟨_, rfl, regs.bl_refl _, rfl, hJ.out⟩
     ·refine regs.StepOK.yes 23 true 229 rfl rfl (fun L a w1 hh => hh.dep 23 229 (by kernel_rfl) (by kernel_rfl)) fun L a w1 hh => ?_
      have h232 := hh.v 26 232 rfl (by kernel_rfl) (by kernel_rfl)
      have h233 := hh.v 27 233 rfl (by kernel_rfl) (by kernel_rfl)
      have hJ := Lib.hid hh.st
      clear hh
      go_simp
      exact ⟨_, rfl, (Below.refl _ _).alloc (Nat.le_refl _) _, ⟨_, _, rfl, brow_new w1 [(⟨ra, rb, rc, rd⟩ : Bx), (⟨sa, sb, sc, sd⟩ : Bx)] rfl, Nat.le_refl _, by simp [maxLen]⟩, CutsAt.below hJ.out ((Below.refl _ _).alloc (Nat.le_refl _) _)⟩
     ·refine regs.StepOK.yes 23 true 229 rfl rfl (fun L a w1 hh => hh.dep 23 229 (by kernel_rfl) (by kernel_rfl)) fun L a w1 hh => ?_
      have h231 := hh.v 25 231 rfl (by kernel_rfl) (by kernel_rfl)
      obtain ⟨A234, c234, h234, hrow234, hc234, hm234⟩ : ∃ A c, a.tmps[234]?.getD undef = .slice A 2 c ∧ BRow w1 A [(⟨ra, rb, rc, rd⟩ : Bx), (⟨sa, sb, sc, sd⟩ : Bx)] ∧ 2 ≤ c ∧ c ≤ maxLen := by rw [← Array.getD_eq_getD_getElem?]; exact hh.dep 28 234 (by kernel_rfl) (by kernel_rfl)
      have hJ := Lib.hid hh.st
      clear hh
      go_simp
      refine (bx_join (⟨ta, tb, tc, td⟩ : Bx) A234 [(⟨ra, rb, rc, rd⟩ : Bx), (⟨sa, sb, sc, sd⟩ : Bx)] c234 w1 hrow234 (by simp)).mono ?_
      rintro e w9 ⟨rfl, hb9⟩
      exact ⟨_, rfl, hb9, congrArg Bx.v (show Bx.join (⟨ta, tb, tc, td⟩ : Bx) [(⟨ra, rb, rc, rd⟩ : Bx), (⟨sa, sb, sc, sd⟩ : Bx)] = (⟨ja, jb, jc, jd⟩ : Bx) by rw [← join_turn]; exact HJ.out), CutsAt.below hJ.out hb9⟩
     ·refine regs.StepOK.yes 23 true 229 rfl rfl (fun L a w1 hh => hh.dep 23 229 (by kernel_rfl) (by kernel_rfl)) fun L a w1 hh => ?_
      have h230 := hh.v 24 230 rfl (by kernel_rfl) (by kernel_rfl)
      have h235 := hh.v 29 235 rfl (by kernel_rfl) (by kernel_rfl)
      have eqst := fun w => bx_eq (⟨ja, jb, jc, jd⟩ : Bx) (⟨ja, jb, jc, jd⟩ : Bx) w
      rw [show (decide ((⟨ja, jb, jc, jd⟩ : Bx) = (⟨ja, jb, jc, jd⟩ : Bx))) = true from by simp] at eqst
      unfold Bx.v at eqst
      simp only at eqst
      have hJ := Lib.hid hh.st
      clear hh
      go_simp
      exact ⟨_, rfl, regs.bl_refl _, rfl, hJ.out⟩
     ·refine regs.StepOK.plain rfl fun L a w1 hh => ?_
      have h229 := hh.v 23 229 rfl (by kernel_rfl) (by kernel_rfl)
      have h236 := hh.v 30 236 rfl (by kernel_rfl) (by kernel_rfl)
      have hJ := Lib.hid hh.st
      clear hh
      go_simp
      exact ⟨_, rfl, regs.bl_refl _, rfl, hJ.out⟩
     ·refine regs.StepOK.plain rfl fun L a w1 hh => ?_
      have h237 := hh.v 31 237 rfl (by kernel_rfl) (by kernel_rfl)
      have hJ := Lib.hid hh.st
      clear hh
      go_simp
      exact ⟨_, rfl, regs.bl_refl _, rfl, hJ.out⟩
     ·refine regs.StepOK.yes 32 true 238 rfl rfl (fun L a w1 hh => hh.dep 32 238 (by kernel_rfl) (by kernel_rfl)) fun L a w1 hh => ?_
      have := True.intro
      have hJ := Lib.hid hh.st
      clear hh
      go_simp
      refine (awake_any w1).mono ?_
      rintro e w9 ⟨rfl, hb9⟩
      exact ⟨_, rfl, hb9, rfl, CutsAt.below hJ.out hb9⟩
     ·refine regs.StepOK.plain rfl fun L a w1 hh => ?_
      have h238 := hh.v 32 238 rfl (by kernel_rfl) (by kernel_rfl)
      have h239 := hh.v 33 239 rfl (by kernel_rfl) (by kernel_rfl)
      have hJ := Lib.hid hh.st
      clear hh
      go_simp
      exact ⟨_, rfl, regs.bl_refl _, rfl, hJ.out⟩
     ·refine regs.StepOK.plain rfl fun L a w1 hh => ?_
      have h240 := hh.v 34 240 rfl (by kernel_rfl) (by kernel_rfl)
      have hJ := Lib.hid hh.st
      clear hh
      go_simp
      exact ⟨_, rfl, regs.bl_refl _, rfl, hJ.out⟩
     intro L w9 val hL hJ hR hv
     have h240 : val 240 = .bool true := hv 34 240 (by kernel_rfl)
     have h6 : val 6 = .bool true := hv 35 6 (by kernel_rfl)
     have HJ9 := Lib.hid hJ
     have HR9 := Lib.hid hR
     clear hv hL hJ hR
     simp only [regs.putAll, List.map_cons, List.map_nil]
     rw [h240, h6]
     generalize val 206 = v206
     generalize val 207 = v207
     generalize val 208 = v208
     generalize val 209 = v209
     generalize val 210 = v210
     generalize val 211 = v211
     generalize val 212 = v212
     generalize val 213 = v213
     generalize val 214 = v214
     generalize val 215 = v215
     generalize val 216 = v216
     generalize val 217 = v217
     generalize val 218 = v218
     generalize val 219 = v219
     generalize val 220 = v220
     generalize val 221 = v221
     generalize val 222 = v222
     generalize val 223 = v223
     generalize val 224 = v224
     generalize val 225 = v225
     generalize val 226 = v226
     generalize val 227 = v227
     generalize val 228 = v228
     generalize val 229 = v229
     generalize val 230 = v230
     generalize val 231 = v231
     generalize val 232 = v232
     generalize val 233 = v233
     generalize val 234 = v234
     generalize val 235 = v235
     generalize val 236 = v236
     generalize val 237 = v237
     generalize val 238 = v238
     generalize val 239 = v239
     simp only [Act.put, List.setIfInBounds_toArray, List.set_cons_zero, List.set_cons_succ]
     clear h240 h6
     go_wp2_with (fail)
     go_ret
     exact ⟨rfl, HJ9.out.2.1⟩
    | false =>
     obtain ⟨sd0, sd1, sd2, sd3⟩ := HSD.out rfl
     have HS0 := Lib.hid sd0
     have HS1 := Lib.hid sd1
     have HS2 := Lib.hid sd2
     have HS3 := Lib.hid sd3
     clear sd0 sd1 sd2 sd3 HSD
     obtain ⟨⟨a0, a1, a2, a3⟩, -, i0⟩ := (show Blk w6 w.heap.size [.int .i64 ra, .int .i64 rb, .int .i64 rc, .int .i64 rd] from HX6.out.1.1).c4
     obtain ⟨⟨b0, b1, b2, b3⟩, -, i1⟩ := (show Blk w6 (w.heap.size + 1) [.int .i64 sa, .int .i64 sb, .int .i64 sc, .int .i64 sd] from HX6.out.1.2.1).c4
     obtain ⟨⟨c0, c1, c2, c3⟩, -, i2⟩ := (show Blk w6 (w.heap.size + 2) [.int .i64 ta, .int .i64 tb, .int .i64 tc, .int .i64 td] from HX6.out.1.2.2.1).c4
     go_wp2_with (fail)
     have HW0 : Hid (SideJ w ⟨ra, rb, rc, rd⟩ ⟨sa, sb, sc, sd⟩ ⟨ta, tb, tc, td⟩ ⟨ca, cb, cc, cd⟩ ⟨ja, jb, jc, jd⟩ g7 g8 w6.heap.size (w6.heap.size + 1) false false false false ((w6.alloc (.cells #[.bool false, .bool false, .bool false, .bool false] 32)).alloc (.cells ([(⟨ra, rb, rc, rd⟩ : Bx), ⟨sa, sb, sc, sd⟩, ⟨ta, tb, tc, td⟩].flatMap Bx.cs).toArray 23))) :=
      ⟨(HX6.out.below ((Below.refl _ _).alloc (Nat.le_refl _) _)).below ((Below.refl _ _).alloc (Nat.le_refl _) _), (blk_new w6 [.bool false, .bool false, .bool false, .bool false] _).alloc _, brow_new _ _ (by simp), by have := HX6.out.2.2; omega, (HX6.out.1.2.2.2.1).inside, (HX6.out.1.2.2.2.2.1).inside, by omega⟩
     clear a0 a1 a2 a3 b0 b1 b2 b3 c0 c1 c2 c3 i0 i1 i2 HX6
     obtain ⟨gs, hgs⟩ : ∃ g, w6.heap.size = g := ⟨_, rfl⟩
     rw [hgs] at HW0 ⊢
     obtain ⟨gl, hgl⟩ : ∃ g, gs + 1 = g := ⟨_, rfl⟩
     rw [hgl] at HW0 ⊢
     clear hgs hgl
     generalize hw7 : (w6.alloc (.cells #[.bool false, .bool false, .bool false, .bool false] 32)).alloc (.cells ([(⟨ra, rb, rc, rd⟩ : Bx), ⟨sa, sb, sc, sd⟩, ⟨ta, tb, tc, td⟩].flatMap Bx.cs).toArray 23) = w7 at HW0
     rw [show (w6.alloc (.cells #[.bool false, .bool false, .bool false, .bool false] 32)).alloc (.cells #[.int .i64 ra, .int .i64 rb, .int .i64 rc, .int .i64 rd, .int .i64 sa, .int .i64 sb, .int .i64 sc, .int .i64 sd, .int .i64 ta, .int .i64 tb, .int .i64 tc, .int .i64 td] 23) = w7 from hw7]
     clear hw7
     go_loopw [156] (fun i wr => ∃ (k : Nat) (s0 s1 s2 s3 : Bool), k ≤ 3 ∧ i = .int .i64 k ∧ Hid (s0 = sideB (fun p => p.a == ja) ([⟨ra, rb, rc, rd⟩, ⟨sa, sb, sc, sd⟩, ⟨ta, tb, tc, td⟩].take k)) ∧ Hid (s1 = sideB (fun p => p.b == jb) ([⟨ra, rb, rc, rd⟩, ⟨sa, sb, sc, sd⟩, ⟨ta, tb, tc, td⟩].take k)) ∧ Hid (s2 = sideB (fun p => p.c == jc) ([⟨ra, rb, rc, rd⟩, ⟨sa, sb, sc, sd⟩, ⟨ta, tb, tc, td⟩].take k)) ∧ Hid (s3 = sideB (fun p => p.d == jd) ([⟨ra, rb, rc, rd⟩, ⟨sa, sb, sc, sd⟩, ⟨ta, tb, tc, td⟩].take k)) ∧
      Hid (SideJ w ⟨ra, rb, rc, rd⟩ ⟨sa, sb, sc, sd⟩ ⟨ta, tb, tc, td⟩ ⟨ca, cb, cc, cd⟩ ⟨ja, jb, jc, jd⟩ g7 g8 gs gl s0 s1 s2 s3 wr)) (fun i _ => 3 - (intOf i).toNat)
     case atStart => exact ⟨0, false, false, false, false, by omega, rfl, rfl, rfl, rfl, rfl, HW0⟩
     case round =>
      clear HW0
      obtain ⟨k, s0, s1, s2, s3, hk, rfl, H0, H1, H2, H3, HW⟩ := hrel
      by_cases hlt : k < 3
      ·obtain ⟨b, off, e, q0, q1, q2, q3⟩ := BRow.at_ HW.out.2.2.1 (show k < [(⟨ra, rb, rc, rd⟩ : Bx), ⟨sa, sb, sc, sd⟩, ⟨ta, tb, tc, td⟩].length from hlt)
       simp only [Option.some.injEq, Addr.mk.injEq, and_true] at e
       obtain ⟨rfl, rfl⟩ := e
       rw [Nat.zero_add] at q0 q1 q2 q3
       have g0 := sideB_snoc (fun p => p.a == ja) [(⟨ra, rb, rc, rd⟩ : Bx), ⟨sa, sb, sc, sd⟩, ⟨ta, tb, tc, td⟩] hlt
       have g1 := sideB_snoc (fun p => p.b == jb) [(⟨ra, rb, rc, rd⟩ : Bx), ⟨sa, sb, sc, sd⟩, ⟨ta, tb, tc, td⟩] hlt
       have g2 := sideB_snoc (fun p => p.c == jc) [(⟨ra, rb, rc, rd⟩ : Bx), ⟨sa, sb, sc, sd⟩, ⟨ta, tb, tc, td⟩] hlt
       have g3 := sideB_snoc (fun p => p.d == jd) [(⟨ra, rb, rc, rd⟩ : Bx), ⟨sa, sb, sc, sd⟩, ⟨ta, tb, tc, td⟩] hlt
       rw [← H0.out] at g0
       rw [← H1.out] at g1
       rw [← H2.out] at g2
       rw [← H3.out] at g3
       generalize [(⟨ra, rb, rc, rd⟩ : Bx), ⟨sa, sb, sc, sd⟩, ⟨ta, tb, tc, td⟩][k] = p at *
       have HEP := Lib.hid (fun w => bx_empty p w)
       obtain ⟨yp, hyp⟩ : ∃ y, p.emp = y := ⟨_, rfl⟩
       rw [hyp] at HEP g0 g1 g2 g3
       clear hyp
       obtain ⟨pa, pb, pc, pd⟩ := p
       simp only at q0 q1 q2 q3 g0 g1 g2 g3
       obtain ⟨x0, hx0⟩ : ∃ y, (pa == ja) = y := ⟨_, rfl⟩
       obtain ⟨x1, hx1⟩ : ∃ y, (pb == jb) = y := ⟨_, rfl⟩
       obtain ⟨x2, hx2⟩ : ∃ y, (pc == jc) = y := ⟨_, rfl⟩
       obtain ⟨x3, hx3⟩ : ∃ y, (pd == jd) = y := ⟨_, rfl⟩
       rw [hx0] at g0
       rw [hx1] at g1
       rw [hx2] at g2
       rw [hx3] at g3
       have HG := Lib.hid (And.intro g0 (And.intro g1 (And.intro g2 g3)))
       have HXX := Lib.hid (And.intro hx0 (And.intro hx1 (And.intro hx2 hx3)))
       have hglb : gl < wr.heap.size := World.block_lt_of_cell? wr ⟨gl, _, none⟩ q0
       unfold Bx.v at HEP
       simp only at HEP
       clear g0 g1 g2 g3 hx0 hx1 hx2 hx3 H0 H1 H2 H3
       go_wp2_with (fail)
       refine (HEP.out _).mono ?_
       rintro e w8 ⟨rfl, hb⟩
       have HW8 := Lib.hid ((HW.out.below ((Below.refl _ _).alloc (Nat.le_refl _) (.cells #[.int .i64 pa, .int .i64 pb, .int .i64 pc, .int .i64 pd] 23))).below hb)
       have KP : Hid (Blk w8 wr.heap.size [.int .i64 pa, .int .i64 pb, .int .i64 pc, .int .i64 pd]) := (blk_new wr [.int .i64 pa, .int .i64 pb, .int .i64 pc, .int .i64 pd] _).below' hb
       have N1 : ¬ wr.heap.size = gs := by have := HW.out.2.1.inside; omega
       have N2 : ¬ g8 = gs := by have := HW.out.2.2.2.2.2.1; omega
       have NN := Lib.hid (And.intro N1 N2)
       clear hb HW q0 q1 q2 q3 hglb HEP N1 N2
       cases yp with
       | true =>
        simp only [Bool.not_true, Bool.false_and, Bool.or_false] at HG
        go_wp2_with (fail)
        go_roundw
        case rel => exact ⟨k + 1, s0, s1, s2, s3, by omega, by go_num, HG.out.1.symm, HG.out.2.1.symm, HG.out.2.2.1.symm, HG.out.2.2.2.symm, HW8⟩
        case measure => simp [intOf]; omega
       | false =>
        simp only [Bool.not_false, Bool.true_and] at HG
        obtain ⟨⟨p0, p1, p2, p3⟩, -, i1⟩ := KP.out.c4
        obtain ⟨⟨e0, e1, e2, e3⟩, -, i4⟩ := (show Blk w8 g8 [.int .i64 ja, .int .i64 jb, .int .i64 jc, .int .i64 jd] from HW8.out.1.1.2.2.2.2.1).c4
        obtain ⟨⟨z0, z1, z2, z3⟩, ⟨f0, f1, f2, f3⟩, i5⟩ := HW8.out.2.1.c4
        obtain ⟨hx0, hx1, hx2, hx3⟩ := HXX.out
        obtain ⟨N1, N2⟩ := NN.out
        generalize wr.heap.size = gp at *
        cases s0 <;> cases s1 <;> cases s2 <;> cases s3
        all_goals
         simp only [Bool.false_or, Bool.true_or] at HG
         go_wp2_with (fail)
         go_roundw
         case rel => exact ⟨k + 1, _, _, _, _, by omega, by go_num, HG.out.1.symm, HG.out.2.1.symm, HG.out.2.2.1.symm, HG.out.2.2.2.symm, HW8.out.put _ _ _ _⟩
         case measure => simp [intOf]; omega
      ·obtain rfl : k = 3 := by omega
       have T0 := H0.out.trans HS0.out
       have T1 := H1.out.trans HS1.out
       have T2 := H2.out.trans HS2.out
       have T3 := H3.out.trans HS3.out
       subst T0 T1 T2 T3
       obtain ⟨⟨z0, z1, z2, z3⟩, -, i5⟩ := HW.out.2.1.c4
       clear H0 H1 H2 H3
       have ha4 := arr4
       go_wp2_with (fail)
       have HXF : Hid (CutsAt w ⟨ra, rb, rc, rd⟩ ⟨sa, sb, sc, sd⟩ ⟨ta, tb, tc, td⟩ ⟨ca, cb, cc, cd⟩ ⟨ja, jb, jc, jd⟩ g7 g8 wr) := HW.out.1
       clear HW z0 z1 z2 z3 i5 ha4
       obtain ⟨⟨nua, nub, nuc, nud⟩, hcu⟩ : ∃ q, Bx.cut (⟨ra, rb, rc, rd⟩ : Bx) [(⟨sa, sb, sc, sd⟩ : Bx)] = q := ⟨_, rfl⟩
       have HCU := Lib.hid hcu
       obtain ⟨⟨nva, nvb, nvc, nvd⟩, hju⟩ : ∃ q, Bx.join (⟨ra, rb, rc, rd⟩ : Bx) [(⟨sa, sb, sc, sd⟩ : Bx)] = q := ⟨_, rfl⟩
       have HJU := Lib.hid hju
       clear hcu hju
       refine regs.wp_region_put (regs.bl) (fun _ wx => CutsAt w (⟨ra, rb, rc, rd⟩ : Bx) (⟨sa, sb, sc, sd⟩ : Bx) (⟨ta, tb, tc, td⟩ : Bx) (⟨ca, cb, cc, cd⟩ : Bx) (⟨ja, jb, jc, jd⟩ : Bx) g7 g8 wx) [206, 207, 208, 209, 210, 211, 212, 213, 214, 215, 216, 217, 218, 219, 220, 221, 222, 223, 224, 225, 226, 227, 228, 229, 230, 231, 232, 233, 234, 235, 236, 237, 238, 239, 240, 6] (by kernel_rfl) (by kernel_rfl) (fun _ => regs.bl_refl _) (regs.bl_trans) (fun i => (match i with
        | 0 => regs.Say.val _ (.agg #[.int .i64 ra, .int .i64 rb, .int .i64 rc, .int .i64 rd])
        | 1 => regs.Say.val _ (.agg #[.int .i64 sa, .int .i64 sb, .int .i64 sc, .int .i64 sd])
        | 2 => sayB [(⟨sa, sb, sc, sd⟩ : Bx)]
        | 3 => regs.Say.val _ (.agg #[.int .i64 nua, .int .i64 nub, .int .i64 nuc, .int .i64 nud])
        | 4 => regs.Say.val _ (.agg #[.int .i64 ra, .int .i64 rb, .int .i64 rc, .int .i64 rd])
        | 5 => regs.Say.val _ (.bool true)
        | 6 => regs.Say.val _ (.bool true)
        | 7 => regs.Say.val _ (.agg #[.int .i64 ra, .int .i64 rb, .int .i64 rc, .int .i64 rd])
        | 8 => regs.Say.val _ (.agg #[.int .i64 ra, .int .i64 rb, .int .i64 rc, .int .i64 rd])
        | 9 => regs.Say.val _ (.agg #[.int .i64 sa, .int .i64 sb, .int .i64 sc, .int .i64 sd])
        | 10 => sayB [(⟨sa, sb, sc, sd⟩ : Bx)]
        | 11 => regs.Say.val _ (.agg #[.int .i64 nva, .int .i64 nvb, .int .i64 nvc, .int .i64 nvd])
        | 12 => regs.Say.val _ (.bool true)
        | 13 => regs.Say.val _ (.bool true)
        | 14 => regs.Say.val _ (.bool true)
        | 15 => regs.Say.val _ (.agg #[.int .i64 ca, .int .i64 cb, .int .i64 cc, .int .i64 cd])
        | 16 => regs.Say.val _ (.agg #[.int .i64 ta, .int .i64 tb, .int .i64 tc, .int .i64 td])
        | 17 => regs.Say.val _ (.agg #[.int .i64 ra, .int .i64 rb, .int .i64 rc, .int .i64 rd])
        | 18 => regs.Say.val _ (.agg #[.int .i64 sa, .int .i64 sb, .int .i64 sc, .int .i64 sd])
        | 19 => sayB [(⟨ra, rb, rc, rd⟩ : Bx), (⟨sa, sb, sc, sd⟩ : Bx)]
        | 20 => regs.Say.val _ (.agg #[.int .i64 ca, .int .i64 cb, .int .i64 cc, .int .i64 cd])
        | 21 => regs.Say.val _ (.bool true)
        | 22 => regs.Say.val _ (.bool true)
        | 23 => regs.Say.val _ (.bool true)
        | 24 => regs.Say.val _ (.agg #[.int .i64 ja, .int .i64 jb, .int .i64 jc, .int .i64 jd])
        | 25 => regs.Say.val _ (.agg #[.int .i64 ta, .int .i64 tb, .int .i64 tc, .int .i64 td])
        | 26 => regs.Say.val _ (.agg #[.int .i64 ra, .int .i64 rb, .int .i64 rc, .int .i64 rd])
        | 27 => regs.Say.val _ (.agg #[.int .i64 sa, .int .i64 sb, .int .i64 sc, .int .i64 sd])
        | 28 => sayB [(⟨ra, rb, rc, rd⟩ : Bx), (⟨sa, sb, sc, sd⟩ : Bx)]
        | 29 => regs.Say.val _ (.agg #[.int .i64 ja, .int .i64 jb, .int .i64 jc, .int .i64 jd])
        | 30 => regs.Say.val _ (.bool true)
        | 31 => regs.Say.val _ (.bool true)
        | 32 => regs.Say.val _ (.bool true)
        | 33 => regs.Say.val _ (.bool true)
        | 34 => regs.Say.val _ (.bool true)
        | 35 => regs.Say.val _ (.bool true)
        | _ => regs.Say.any _ : regs.Say (regs.bl)).p) (fun _ => regs.Say.mono _) (by kernel_rfl) ((Below.refl _ _).drew) (HXF.out.below ((Below.refl _ _).drew)) ⟨?_, ?_, ?_, ?_, ?_, ?_, ?_, ?_, ?_, ?_, ?_, ?_, ?_, ?_, ?_, ?_, ?_, ?_, ?_, ?_, ?_, ?_, ?_, ?_, ?_, ?_, ?_, ?_, ?_, ?_, ?_, ?_, ?_, ?_, ?_, ?_, trivial⟩ ?_
       ·refine regs.StepOK.plain rfl fun L a w1 hh => ?_
        have h3 : a.tmps[3]?.getD undef = .pointer (some ⟨w.heap.size, 0, none⟩) := hh.kp 3 rfl rfl
        obtain ⟨⟨c0, c1, c2, c3⟩, -, -⟩ := (hh.st.1.1).c4
        have hJ := Lib.hid hh.st
        clear hh
        go_simp
        exact ⟨_, rfl, regs.bl_refl _, rfl, hJ.out⟩
       ·refine regs.StepOK.plain rfl fun L a w1 hh => ?_
        have h4 : a.tmps[4]?.getD undef = .pointer (some ⟨(w.heap.size + 1), 0, none⟩) := hh.kp 4 rfl rfl
        obtain ⟨⟨c0, c1, c2, c3⟩, -, -⟩ := (hh.st.1.2.1).c4
        have hJ := Lib.hid hh.st
        clear hh
        go_simp
        exact ⟨_, rfl, regs.bl_refl _, rfl, hJ.out⟩
       ·refine regs.StepOK.plain rfl fun L a w1 hh => ?_
        have h207 := hh.v 1 207 rfl (by kernel_rfl) (by kernel_rfl)
        have hJ := Lib.hid hh.st
        clear hh
        go_simp
        exact ⟨_, rfl, (Below.refl _ _).alloc (Nat.le_refl _) _, ⟨_, _, rfl, brow_new w1 [(⟨sa, sb, sc, sd⟩ : Bx)] rfl, Nat.le_refl _, by simp [maxLen]⟩, CutsAt.below hJ.out ((Below.refl _ _).alloc (Nat.le_refl _) _)⟩
       ·refine regs.StepOK.plain rfl fun L a w1 hh => ?_
        have h206 := hh.v 0 206 rfl (by kernel_rfl) (by kernel_rfl)
        obtain ⟨A208, c208, h208, hrow208, hc208, hm208⟩ : ∃ A c, a.tmps[208]?.getD undef = .slice A 1 c ∧ BRow w1 A [(⟨sa, sb, sc, sd⟩ : Bx)] ∧ 1 ≤ c ∧ c ≤ maxLen := by rw [← Array.getD_eq_getD_getElem?]; exact hh.dep 2 208 (by kernel_rfl) (by kernel_rfl)
        have hJ := Lib.hid hh.st
        clear hh
        go_simp
        refine (bx_cut (⟨ra, rb, rc, rd⟩ : Bx) A208 [(⟨sa, sb, sc, sd⟩ : Bx)] c208 w1 hrow208 (by simp)).mono ?_
        rintro e w9 ⟨rfl, hb9⟩
        exact ⟨_, rfl, hb9, congrArg Bx.v (HCU.out), CutsAt.below hJ.out hb9⟩
       ·refine regs.StepOK.plain rfl fun L a w1 hh => ?_
        have h3 : a.tmps[3]?.getD undef = .pointer (some ⟨w.heap.size, 0, none⟩) := hh.kp 3 rfl rfl
        obtain ⟨⟨c0, c1, c2, c3⟩, -, -⟩ := (hh.st.1.1).c4
        have hJ := Lib.hid hh.st
        clear hh
        go_simp
        exact ⟨_, rfl, regs.bl_refl _, rfl, hJ.out⟩
       ·refine regs.StepOK.plain rfl fun L a w1 hh => ?_
        have h209 := hh.v 3 209 rfl (by kernel_rfl) (by kernel_rfl)
        have h210 := hh.v 4 210 rfl (by kernel_rfl) (by kernel_rfl)
        have := True.intro
        have hJ := Lib.hid hh.st
        clear hh
        go_simp
        refine (bx_within (⟨nua, nub, nuc, nud⟩ : Bx) (⟨ra, rb, rc, rd⟩ : Bx) w1).mono ?_
        rintro e w9 ⟨rfl, hb9⟩
        exact ⟨_, rfl, hb9, congrArg Value.bool (by rw [← HCU.out]; exact cut_within (⟨ra, rb, rc, rd⟩ : Bx) (⟨sa, sb, sc, sd⟩ : Bx)), CutsAt.below hJ.out hb9⟩
       ·refine regs.StepOK.plain rfl fun L a w1 hh => ?_
        have h211 := hh.v 5 211 rfl (by kernel_rfl) (by kernel_rfl)
        have hJ := Lib.hid hh.st
        clear hh
        go_simp
        exact ⟨_, rfl, regs.bl_refl _, rfl, hJ.out⟩
       ·refine regs.StepOK.yes 6 true 212 rfl rfl (fun L a w1 hh => hh.dep 6 212 (by kernel_rfl) (by kernel_rfl)) fun L a w1 hh => ?_
        have h3 : a.tmps[3]?.getD undef = .pointer (some ⟨w.heap.size, 0, none⟩) := hh.kp 3 rfl rfl
        obtain ⟨⟨c0, c1, c2, c3⟩, -, -⟩ := (hh.st.1.1).c4
        have hJ := Lib.hid hh.st
        clear hh
        go_simp
        exact ⟨_, rfl, regs.bl_refl _, rfl, hJ.out⟩
       ·refine regs.StepOK.yes 6 true 212 rfl rfl (fun L a w1 hh => hh.dep 6 212 (by kernel_rfl) (by kernel_rfl)) fun L a w1 hh => ?_
        have h3 : a.tmps[3]?.getD undef = .pointer (some ⟨w.heap.size, 0, none⟩) := hh.kp 3 rfl rfl
        obtain ⟨⟨c0, c1, c2, c3⟩, -, -⟩ := (hh.st.1.1).c4
        have hJ := Lib.hid hh.st
        clear hh
        go_simp
        exact ⟨_, rfl, regs.bl_refl _, rfl, hJ.out⟩
       ·refine regs.StepOK.yes 6 true 212 rfl rfl (fun L a w1 hh => hh.dep 6 212 (by kernel_rfl) (by kernel_rfl)) fun L a w1 hh => ?_
        have h4 : a.tmps[4]?.getD undef = .pointer (some ⟨(w.heap.size + 1), 0, none⟩) := hh.kp 4 rfl rfl
        obtain ⟨⟨c0, c1, c2, c3⟩, -, -⟩ := (hh.st.1.2.1).c4
        have hJ := Lib.hid hh.st
        clear hh
        go_simp
        exact ⟨_, rfl, regs.bl_refl _, rfl, hJ.out⟩
       ·refine regs.StepOK.yes 6 true 212 rfl rfl (fun L a w1 hh => hh.dep 6 212 (by kernel_rfl) (by kernel_rfl)) fun L a w1 hh => ?_
        have h215 := hh.v 9 215 rfl (by kernel_rfl) (by kernel_rfl)
        have hJ := Lib.hid hh.st
        clear hh
        go_simp
        exact ⟨_, rfl, (Below.refl _ _).alloc (Nat.le_refl _) _, ⟨_, _, rfl, brow_new w1 [(⟨sa, sb, sc, sd⟩ : Bx)] rfl, Nat.le_refl _, by simp [maxLen]⟩, CutsAt.below hJ.out ((Below.refl _ _).alloc (Nat.le_refl _) _)⟩
       ·refine regs.StepOK.yes 6 true 212 rfl rfl (fun L a w1 hh => hh.dep 6 212 (by kernel_rfl) (by kernel_rfl)) fun L a w1 hh => ?_
        have h214 := hh.v 8 214 rfl (by kernel_rfl) (by kernel_rfl)
        obtain ⟨A216, c216, h216, hrow216, hc216, hm216⟩ : ∃ A c, a.tmps[216]?.getD undef = .slice A 1 c ∧ BRow w1 A [(⟨sa, sb, sc, sd⟩ : Bx)] ∧ 1 ≤ c ∧ c ≤ maxLen := by rw [← Array.getD_eq_getD_getElem?]; exact hh.dep 10 216 (by kernel_rfl) (by kernel_rfl)
        have hJ := Lib.hid hh.st
        clear hh
        go_simp
        refine (bx_join (⟨ra, rb, rc, rd⟩ : Bx) A216 [(⟨sa, sb, sc, sd⟩ : Bx)] c216 w1 hrow216 (by simp)).mono ?_
        rintro e w9 ⟨rfl, hb9⟩
        exact ⟨_, rfl, hb9, congrArg Bx.v (HJU.out), CutsAt.below hJ.out hb9⟩
       ·refine regs.StepOK.yes 6 true 212 rfl rfl (fun L a w1 hh => hh.dep 6 212 (by kernel_rfl) (by kernel_rfl)) fun L a w1 hh => ?_
        have h213 := hh.v 7 213 rfl (by kernel_rfl) (by kernel_rfl)
        have h217 := hh.v 11 217 rfl (by kernel_rfl) (by kernel_rfl)
        have := True.intro
        have hJ := Lib.hid hh.st
        clear hh
        go_simp
        refine (bx_within (⟨ra, rb, rc, rd⟩ : Bx) (⟨nva, nvb, nvc, nvd⟩ : Bx) w1).mono ?_
        rintro e w9 ⟨rfl, hb9⟩
        exact ⟨_, rfl, hb9, congrArg Value.bool (by rw [← HJU.out]; exact within_join (⟨ra, rb, rc, rd⟩ : Bx) (⟨sa, sb, sc, sd⟩ : Bx)), CutsAt.below hJ.out hb9⟩
       ·refine regs.StepOK.plain rfl fun L a w1 hh => ?_
        have h212 := hh.v 6 212 rfl (by kernel_rfl) (by kernel_rfl)
        have h218 := hh.v 12 218 rfl (by kernel_rfl) (by kernel_rfl)
        have hJ := Lib.hid hh.st
        clear hh
        go_simp
        exact ⟨_, rfl, regs.bl_refl _, rfl, hJ.out⟩
       ·refine regs.StepOK.plain rfl fun L a w1 hh => ?_
        have h219 := hh.v 13 219 rfl (by kernel_rfl) (by kernel_rfl)
        have hJ := Lib.hid hh.st
        clear hh
        go_simp
        exact ⟨_, rfl, regs.bl_refl _, rfl, hJ.out⟩
       ·refine regs.StepOK.yes 14 true 220 rfl rfl (fun L a w1 hh => hh.dep 14 220 (by kernel_rfl) (by kernel_rfl)) fun L a w1 hh => ?_
        have h7 : a.tmps[7]?.getD undef = .pointer (some ⟨g7, 0, none⟩) := hh.kp 7 rfl rfl
        obtain ⟨⟨c0, c1, c2, c3⟩, -, -⟩ := (hh.st.1.2.2.2.1).c4
        have hJ := Lib.hid hh.st
        clear hh
        go_simp
        exact ⟨_, rfl, regs.bl_refl _, rfl, hJ.out⟩
       ·refine regs.StepOK.yes 14 true 220 rfl rfl (fun L a w1 hh => hh.dep 14 220 (by kernel_rfl) (by kernel_rfl)) fun L a w1 hh => ?_
        have h5 : a.tmps[5]?.getD undef = .pointer (some ⟨(w.heap.size + 2), 0, none⟩) := hh.kp 5 rfl rfl
        obtain ⟨⟨c0, c1, c2, c3⟩, -, -⟩ := (hh.st.1.2.2.1).c4
        have hJ := Lib.hid hh.st
        clear hh
        go_simp
        exact ⟨_, rfl, regs.bl_refl _, rfl, hJ.out⟩
       ·refine regs.StepOK.yes 14 true 220 rfl rfl (fun L a w1 hh => hh.dep 14 220 (by kernel_rfl) (by kernel_rfl)) fun L a w1 hh => ?_
        have h3 : a.tmps[3]?.getD undef = .pointer (some ⟨w.heap.size, 0, none⟩) := hh.kp 3 rfl rfl
        obtain ⟨⟨c0, c1, c2, c3⟩, -, -⟩ := (hh.st.1.1).c4
        have hJ := Lib.hid hh.st
        clear hh
        go_simp
        exact ⟨_, rfl, regs.bl_refl _, rfl, hJ.out⟩
       ·refine regs.StepOK.yes 14 true 220 rfl rfl (fun L a w1 hh => hh.dep 14 220 (by kernel_rfl) (by kernel_rfl)) fun L a w1 hh => ?_
        have h4 : a.tmps[4]?.getD undef = .pointer (some ⟨(w.heap.size + 1), 0, none⟩) := hh.kp 4 rfl rfl
        obtain ⟨⟨c0, c1, c2, c3⟩, -, -⟩ := (hh.st.1.2.1).c4
        have hJ := Lib.hid hh.st
        clear hh
        go_simp
        exact ⟨_, rfl, regs.bl_refl _, rfl, hJ.out⟩
       ·refine regs.StepOK.yes 14 true 220 rfl rfl (fun L a w1 hh => hh.dep 14 220 (by kernel_rfl) (by kernel_rfl)) fun L a w1 hh => ?_
        have h223 := hh.v 17 223 rfl (by kernel_rfl) (by kernel_rfl)
        have h224 := hh.v 18 224 rfl (by kernel_rfl) (by kernel_rfl)
        have hJ := Lib.hid hh.st
        clear hh
        go_simp
        exact ⟨_, rfl, (Below.refl _ _).alloc (Nat.le_refl _) _, ⟨_, _, rfl, brow_new w1 [(⟨ra, rb, rc, rd⟩ : Bx), (⟨sa, sb, sc, sd⟩ : Bx)] rfl, Nat.le_refl _, by simp [maxLen]⟩, CutsAt.below hJ.out ((Below.refl _ _).alloc (Nat.le_refl _) _)⟩
       ·refine regs.StepOK.yes 14 true 220 rfl rfl (fun L a w1 hh => hh.dep 14 220 (by kernel_rfl) (by kernel_rfl)) fun L a w1 hh => ?_
        have h222 := hh.v 16 222 rfl (by kernel_rfl) (by kernel_rfl)
        obtain ⟨A225, c225, h225, hrow225, hc225, hm225⟩ : ∃ A c, a.tmps[225]?.getD undef = .slice A 2 c ∧ BRow w1 A [(⟨ra, rb, rc, rd⟩ : Bx), (⟨sa, sb, sc, sd⟩ : Bx)] ∧ 2 ≤ c ∧ c ≤ maxLen := by rw [← Array.getD_eq_getD_getElem?]; exact hh.dep 19 225 (by kernel_rfl) (by kernel_rfl)
        have hJ := Lib.hid hh.st
        clear hh
        go_simp
        refine (bx_cut (⟨ta, tb, tc, td⟩ : Bx) A225 [(⟨ra, rb, rc, rd⟩ : Bx), (⟨sa, sb, sc, sd⟩ : Bx)] c225 w1 hrow225 (by simp)).mono ?_
        rintro e w9 ⟨rfl, hb9⟩
        exact ⟨_, rfl, hb9, congrArg Bx.v (show Bx.cut (⟨ta, tb, tc, td⟩ : Bx) [(⟨ra, rb, rc, rd⟩ : Bx), (⟨sa, sb, sc, sd⟩ : Bx)] = (⟨ca, cb, cc, cd⟩ : Bx) by rw [← cut_turn]; exact HC.out), CutsAt.below hJ.out hb9⟩
       ·refine regs.StepOK.yes 14 true 220 rfl rfl (fun L a w1 hh => hh.dep 14 220 (by kernel_rfl) (by kernel_rfl)) fun L a w1 hh => ?_
        have h221 := hh.v 15 221 rfl (by kernel_rfl) (by kernel_rfl)
        have h226 := hh.v 20 226 rfl (by kernel_rfl) (by kernel_rfl)
        have eqst := fun w => bx_eq (⟨ca, cb, cc, cd⟩ : Bx) (⟨ca, cb, cc, cd⟩ : Bx) w
        rw [show (decide ((⟨ca, cb, cc, cd⟩ : Bx) = (⟨ca, cb, cc, cd⟩ : Bx))) = true from by simp] at eqst
        unfold Bx.v at eqst
        simp only at eqst
        have hJ := Lib.hid hh.st
        clear hh
        go_simp
        exact ⟨_, rfl, regs.bl_refl _, rfl, hJ.out⟩
       ·refine regs.StepOK.plain rfl fun L a w1 hh => ?_
        have h220 := hh.v 14 220 rfl (by kernel_rfl) (by kernel_rfl)
        have h227 := hh.v 21 227 rfl (by kernel_rfl) (by kernel_rfl)
        have hJ := Lib.hid hh.st
        clear hh
        go_simp
        exact ⟨_, rfl, regs.bl_refl _, rfl, hJ.out⟩
       ·refine regs.StepOK.plain rfl fun L a w1 hh => ?_
        have h228 := hh.v 22 228 rfl (by kernel_rfl) (by kernel_rfl)
        have hJ := Lib.hid hh.st
        clear hh
        go_simp
        exact ⟨_, rfl, regs.bl_refl _, rfl, hJ.out⟩
       ·refine regs.StepOK.yes 23 true 229 rfl rfl (fun L a w1 hh => hh.dep 23 229 (by kernel_rfl) (by kernel_rfl)) fun L a w1 hh => ?_
        have h8 : a.tmps[8]?.getD undef = .pointer (some ⟨g8, 0, none⟩) := hh.kp 8 rfl rfl
        obtain ⟨⟨c0, c1, c2, c3⟩, -, -⟩ := (hh.st.1.2.2.2.2.1).c4
        have hJ := Lib.hid hh.st
        clear hh
        go_simp
        exact ⟨_, rfl, regs.bl_refl _, rfl, hJ.out⟩
       ·refine regs.StepOK.yes 23 true 229 rfl rfl (fun L a w1 hh => hh.dep 23 229 (by kernel_rfl) (by kernel_rfl)) fun L a w1 hh => ?_
        have h5 : a.tmps[5]?.getD undef = .pointer (some ⟨(w.heap.size + 2), 0, none⟩) := hh.kp 5 rfl rfl
        obtain ⟨⟨c0, c1, c2, c3⟩, -, -⟩ := (hh.st.1.2.2.1).c4
        have hJ := Lib.hid hh.st
        clear hh
        go_simp
        exact ⟨_, rfl, regs.bl_refl _, rfl, hJ.out⟩
       ·refine regs.StepOK.yes 23 true 229 rfl rfl (fun L a w1 hh => hh.dep 23 229 (by kernel_rfl) (by kernel_rfl)) fun L a w1 hh => ?_
        have h3 : a.tmps[3]?.getD undef = .pointer (some ⟨w.heap.size, 0, none⟩) := hh.kp 3 rfl rfl
        obtain ⟨⟨c0, c1, c2, c3⟩, -, -⟩ := (hh.st.1.1).c4
        have hJ := Lib.hid hh.st
        clear hh
        go_simp
        exact ⟨_, rfl, regs.bl_refl _, rfl, hJ.out⟩
       ·refine regs.StepOK.yes 23 true 229 rfl rfl (fun L a w1 hh => hh.dep 23 229 (by kernel_rfl) (by kernel_rfl)) fun L a w1 hh => ?_
        have h4 : a.tmps[4]?.getD undef = .pointer (some ⟨(w.heap.size + 1), 0, none⟩) := hh.kp 4 rfl rfl
        obtain ⟨⟨c0, c1, c2, c3⟩, -, -⟩ := (hh.st.1.2.1).c4
        have hJ := Lib.hid hh.st
        clear hh
        go_simp
        exact ⟨_, rfl, regs.bl_refl _, rfl, hJ.out⟩
       ·refine regs.StepOK.yes 23 true 229 rfl rfl (fun L a w1 hh => hh.dep 23 229 (by kernel_rfl) (by kernel_rfl)) fun L a w1 hh => ?_
        have h232 := hh.v 26 232 rfl (by kernel_rfl) (by kernel_rfl)
        have h233 := hh.v 27 233 rfl (by kernel_rfl) (by kernel_rfl)
        have hJ := Lib.hid hh.st
        clear hh
        go_simp
        exact ⟨_, rfl, (Below.refl _ _).alloc (Nat.le_refl _) _, ⟨_, _, rfl, brow_new w1 [(⟨ra, rb, rc, rd⟩ : Bx), (⟨sa, sb, sc, sd⟩ : Bx)] rfl, Nat.le_refl _, by simp [maxLen]⟩, CutsAt.below hJ.out ((Below.refl _ _).alloc (Nat.le_refl _) _)⟩
       ·refine regs.StepOK.yes 23 true 229 rfl rfl (fun L a w1 hh => hh.dep 23 229 (by kernel_rfl) (by kernel_rfl)) fun L a w1 hh => ?_
        have h231 := hh.v 25 231 rfl (by kernel_rfl) (by kernel_rfl)
        obtain ⟨A234, c234, h234, hrow234, hc234, hm234⟩ : ∃ A c, a.tmps[234]?.getD undef = .slice A 2 c ∧ BRow w1 A [(⟨ra, rb, rc, rd⟩ : Bx), (⟨sa, sb, sc, sd⟩ : Bx)] ∧ 2 ≤ c ∧ c ≤ maxLen := by rw [← Array.getD_eq_getD_getElem?]; exact hh.dep 28 234 (by kernel_rfl) (by kernel_rfl)
        have hJ := Lib.hid hh.st
        clear hh
        go_simp
        refine (bx_join (⟨ta, tb, tc, td⟩ : Bx) A234 [(⟨ra, rb, rc, rd⟩ : Bx), (⟨sa, sb, sc, sd⟩ : Bx)] c234 w1 hrow234 (by simp)).mono ?_
        rintro e w9 ⟨rfl, hb9⟩
        exact ⟨_, rfl, hb9, congrArg Bx.v (show Bx.join (⟨ta, tb, tc, td⟩ : Bx) [(⟨ra, rb, rc, rd⟩ : Bx), (⟨sa, sb, sc, sd⟩ : Bx)] = (⟨ja, jb, jc, jd⟩ : Bx) by rw [← join_turn]; exact HJ.out), CutsAt.below hJ.out hb9⟩
       ·refine regs.StepOK.yes 23 true 229 rfl rfl (fun L a w1 hh => hh.dep 23 229 (by kernel_rfl) (by kernel_rfl)) fun L a w1 hh => ?_
        have h230 := hh.v 24 230 rfl (by kernel_rfl) (by kernel_rfl)
        have h235 := hh.v 29 235 rfl (by kernel_rfl) (by kernel_rfl)
        have eqst := fun w => bx_eq (⟨ja, jb, jc, jd⟩ : Bx) (⟨ja, jb, jc, jd⟩ : Bx) w
        rw [show (decide ((⟨ja, jb, jc, jd⟩ : Bx) = (⟨ja, jb, jc, jd⟩ : Bx))) = true from by simp] at eqst
        unfold Bx.v at eqst
        simp only at eqst
        have hJ := Lib.hid hh.st
        clear hh
        go_simp
        exact ⟨_, rfl, regs.bl_refl _, rfl, hJ.out⟩
       ·refine regs.StepOK.plain rfl fun L a w1 hh => ?_
        have h229 := hh.v 23 229 rfl (by kernel_rfl) (by kernel_rfl)
        have h236 := hh.v 30 236 rfl (by kernel_rfl) (by kernel_rfl)
        have hJ := Lib.hid hh.st
        clear hh
        go_simp
        exact ⟨_, rfl, regs.bl_refl _, rfl, hJ.out⟩
       ·refine regs.StepOK.plain rfl fun L a w1 hh => ?_
        have h237 := hh.v 31 237 rfl (by kernel_rfl) (by kernel_rfl)
        have hJ := Lib.hid hh.st
        clear hh
        go_simp
        exact ⟨_, rfl, regs.bl_refl _, rfl, hJ.out⟩
       ·refine regs.StepOK.yes 32 true 238 rfl rfl (fun L a w1 hh => hh.dep 32 238 (by kernel_rfl) (by kernel_rfl)) fun L a w1 hh => ?_
        have := True.intro
        have hJ := Lib.hid hh.st
        clear hh
        go_simp
        refine (awake_any w1).mono ?_
        rintro e w9 ⟨rfl, hb9⟩
        exact ⟨_, rfl, hb9, rfl, CutsAt.below hJ.out hb9⟩
       ·refine regs.StepOK.plain rfl fun L a w1 hh => ?_
        have h238 := hh.v 32 238 rfl (by kernel_rfl) (by kernel_rfl)
        have h239 := hh.v 33 239 rfl (by kernel_rfl) (by kernel_rfl)
        have hJ := Lib.hid hh.st
        clear hh
        go_simp
        exact ⟨_, rfl, regs.bl_refl _, rfl, hJ.out⟩
       ·refine regs.StepOK.plain rfl fun L a w1 hh => ?_
        have h240 := hh.v 34 240 rfl (by kernel_rfl) (by kernel_rfl)
        have hJ := Lib.hid hh.st
        clear hh
        go_simp
        exact ⟨_, rfl, regs.bl_refl _, rfl, hJ.out⟩
       intro L w9 val hL hJ hR hv
       have h240 : val 240 = .bool true := hv 34 240 (by kernel_rfl)
       have h6 : val 6 = .bool true := hv 35 6 (by kernel_rfl)
       have HJ9 := Lib.hid hJ
       have HR9 := Lib.hid hR
       clear hv hL hJ hR
       simp only [regs.putAll, List.map_cons, List.map_nil]
       rw [h240, h6]
       generalize val 206 = v206
       generalize val 207 = v207
       generalize val 208 = v208
       generalize val 209 = v209
       generalize val 210 = v210
       generalize val 211 = v211
       generalize val 212 = v212
       generalize val 213 = v213
       generalize val 214 = v214
       generalize val 215 = v215
       generalize val 216 = v216
       generalize val 217 = v217
       generalize val 218 = v218
       generalize val 219 = v219
       generalize val 220 = v220
       generalize val 221 = v221
       generalize val 222 = v222
       generalize val 223 = v223
       generalize val 224 = v224
       generalize val 225 = v225
       generalize val 226 = v226
       generalize val 227 = v227
       generalize val 228 = v228
       generalize val 229 = v229
       generalize val 230 = v230
       generalize val 231 = v231
       generalize val 232 = v232
       generalize val 233 = v233
       generalize val 234 = v234
       generalize val 235 = v235
       generalize val 236 = v236
       generalize val 237 = v237
       generalize val 238 = v238
       generalize val 239 = v239
       simp only [Act.put, List.setIfInBounds_toArray, List.set_cons_zero, List.set_cons_succ]
       clear h240 h6
       go_wp2_with (fail)
       go_ret
       exact ⟨rfl, HJ9.out.2.1⟩
theorem rectCuts_walk (r s t : Bx) (w : World) : Calls Try.prog 3 #[r.v, s.v, t.v] w fun e w' => e = .returned (.bool true) ∧ Below w.heap.size w w' := by
 cases h : (r.rt && (s.rt && t.rt)) with
 | false => exact rectCuts_no r s t w h
 | true =>
  rw [Bool.and_eq_true, Bool.and_eq_true] at h
  exact rectCuts_yes r s t w h.1 h.2.1 h.2.2
end Go.Proofs.Ytjnhjhbhodhfgaa
