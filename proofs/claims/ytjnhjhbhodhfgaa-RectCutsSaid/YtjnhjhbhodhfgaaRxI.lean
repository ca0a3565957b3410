/-
  Layer 6: edges: two rows of numbers of the call's own.
-/
import Derived.Test.YtjnhjhbhodhfgaaRxH
namespace Go.Proofs.Ytjnhjhbhodhfgaa
open Go.RowKit

def ic (z : Int) : List Value := [.int .i64 z]
theorem ic_len (z : Int) : (ic z).length = 1 := rfl
theorem ic_plain (z : Int) : ∀ u ∈ ic z, u.oneCell' = true := by
  intro u hu
  simp only [ic, List.mem_singleton] at hu
  subst hu
  rfl
abbrev IOwn (w : World) (base : Nat) (v : Value) (l : List Int) : Prop := SOwn 3 1 ic w base v l
theorem info_int : (Try.prog.info? 3).map (fun i => (i.zero, i.size, i.bytes)) = some (some (.int .i64 0), 1, 8) := by kernel_rfl
theorem app_int {w : World} {base : Nat} {v : Value} {l : List Int} (h : IOwn w base v l) (x y z u : Int) {c : Nat} (hn : l.length ≤ 900000000) (hbase : base ≤ w.heap.size) :
    ∃ v' w', (Builtin.append_ #[27, 27] 27 #[v, .slice (some ⟨w.heap.size, 0, none⟩) 4 c]).run Try.prog (w.alloc (.cells #[.int .i64 x, .int .i64 y, .int .i64 z, .int .i64 u] 3)) = .ok v' w' ∧ IOwn w' base v' (l ++ [x, y, z, u]) ∧
      (w.alloc (.cells #[.int .i64 x, .int .i64 y, .int .i64 z, .int .i64 u] 3)).grownBy w' v.ownBlock ∧ (v'.ownBlock = v.ownBlock ∨ v'.ownBlock = some (w.heap.size + 1)) := by
  obtain ⟨v', w', h1, h2, h3, h4⟩ := SOwn.app (P := Try.prog) (xs := [x, y, z, u]) (c := c) (g := w.heap.size) (o := 0) Try.underlying27 info_int rfl (by decide) (by decide) ic_len ic_plain
    (h.below ((Below.refl _ _).alloc (Nat.le_refl _) (.cells #[.int .i64 x, .int .i64 y, .int .i64 z, .int .i64 u] 3))) (fun _ => srow_new (enc := ic) ic_len w [x, y, z, u] _ rfl) (by simp; omega) (by simp; omega)
  refine ⟨v', w', h1, h2, h3, ?_⟩
  simpa using h4
theorem IOwn.irow {w : World} {base : Nat} {v : Value} {l : List Int} (h : IOwn w base v l) : ∃ A c, v = .slice A l.length c ∧ l.length ≤ c ∧ c ≤ maxLen ∧ Row eI w A l := by
  obtain ⟨A, c, h1, h2, h3, h4⟩ := h.row ic_len
  refine ⟨A, c, h1, h2, h3, fun hn => ?_⟩
  obtain ⟨b, off, e, hc⟩ := h4 hn
  refine ⟨b, off, e, fun j hj => ?_⟩
  have := hc j hj 0 _ rfl
  rw [Nat.mul_one, Nat.add_zero] at this
  exact this
def Apart (v2 v3 : Value) : Prop := ∀ g, v2.ownBlock = some g → v3.ownBlock ≠ some g
def EdgesQ (w : World) (e : Ending) (w' : World) : Prop := ∃ (v2 v3 : Value) (l2 l3 : List Int), e = .returned (.tuple #[v2, v3]) ∧ (l2.length ≤ 4000 ∧ l3.length ≤ 4000) ∧ IOwn w' w.heap.size v2 l2 ∧ IOwn w' w.heap.size v3 l3 ∧ Below w.heap.size w w'
set_option maxRecDepth 100000 in
set_option maxHeartbeats 4000000 in
theorem edges_any (A : Option Addr) (l : List Bx) (c : Nat) (w : World) (hr : BRow w A l) (hn : l.length ≤ 1000) :
    Calls Try.prog 11 #[.slice A l.length c] w fun e w' => EdgesQ w e w' := by
  have HROW := Lib.hid hr
  have HLN := Lib.hid hn
  clear hr hn
  go_enter Try.func11, Try.ntmps11
  go_wp2_with (fail)
  go_loopw [2, 3, 8] (fun v2 v3 i wr => ∃ (k : Nat) (l2 l3 : List Int), k ≤ l.length ∧ i = .int .i64 k ∧ Hid (l2.length = 4 * k) ∧ Hid (l3.length = 4 * k) ∧ Hid (Apart v2 v3) ∧ Hid (IOwn wr w.heap.size v2 l2) ∧ Hid (IOwn wr w.heap.size v3 l3) ∧ Hid (Below w.heap.size w wr)) (fun _ _ i _ => l.length - (intOf i).toNat)
  case atStart => exact ⟨0, [], [], Nat.zero_le _, rfl, rfl, rfl, fun g hg => by simp [Value.ownBlock] at hg, SOwn.nil _ _, SOwn.nil _ _, Below.refl _ _⟩
  case round =>
    obtain ⟨k, l2, l3, hk, rfl, H2, H3, HA, HO2, HO3, hb⟩ := hrel
    by_cases hlt : k < l.length
    · obtain ⟨g, off, rA, q0, q1, q2, q3⟩ := BRow.at_ (HROW.out.below hb.out) hlt
      subst rA
      generalize l[k] = s at *
      obtain ⟨sa, sb, sc, sd⟩ := s
      simp only at q0 q1 q2 q3
      have hg : g < wr.heap.size := World.block_lt_of_cell? wr ⟨g, _, none⟩ q0
      have hkb : (k : Int) ≤ 1000 := by have := HLN.out; omega
      have hb1 : Below wr.heap.size wr (wr.alloc (.cells #[.int .i64 sa, .int .i64 sb, .int .i64 sc, .int .i64 sd] 23)) := (Below.refl _ _).alloc (Nat.le_refl _) _
      have hz1 : (wr.alloc (.cells #[.int .i64 sa, .int .i64 sb, .int .i64 sc, .int .i64 sd] 23)).heap.size = wr.heap.size + 1 := by simp
      have B1 : Below w.heap.size w (wr.alloc (.cells #[.int .i64 sa, .int .i64 sb, .int .i64 sc, .int .i64 sd] 23)) := hb.out.trans (hb1.mono hb.out.size)
      obtain ⟨v2', w2, hrun2, own2, hgr2, hat2⟩ := app_int (HO2.out.below hb1) (wrap64 (sa - 1)) sa (wrap64 (sc - 1)) sc (c := 4) (by have := H2.out; have := HLN.out; omega) B1.size
      rw [hz1] at hrun2
      have K1 : Blk (wr.alloc (.cells #[.int .i64 sa, .int .i64 sb, .int .i64 sc, .int .i64 sd] 23)) wr.heap.size [.int .i64 sa, .int .i64 sb, .int .i64 sc, .int .i64 sd] := blk_new wr [.int .i64 sa, .int .i64 sb, .int .i64 sc, .int .i64 sd] _
      have hne1 : ∀ j, u2.ownBlock = some j → j < wr.heap.size := fun j hj => (HO2.out.block hj).2
      have hne3 : ∀ j, u3.ownBlock = some j → j < wr.heap.size := fun j hj => (HO3.out.block hj).2
      have K2 : Hid (Blk w2 wr.heap.size [.int .i64 sa, .int .i64 sb, .int .i64 sc, .int .i64 sd]) := (K1.alloc _).stays (hgr2.block _ (by simp; omega) (fun e => by have := hne1 _ e.symm; omega))
      have B2 : Hid (Below w.heap.size w w2) := (B1.alloc B1.size _).grown hgr2 (by have := B1.size; simp at this ⊢; omega) (fun j hj => (HO2.out.block hj).1)
      have O3 : Hid (IOwn w2 w.heap.size u3 l3) := ((HO3.out.below hb1).below ((Below.refl _ _).alloc (Nat.le_refl _) _)).stays fun j hj => hgr2.block _ (by have := hne3 j hj; simp; omega) (fun e => HA.out j e.symm hj)
      have HZ2 : Hid (wr.heap.size + 2 ≤ w2.heap.size) := by have := hgr2.size; show _ ≤ _; simpa using this
      have HAP : Hid (Apart v2' u3) := fun j hj e => by
        have h3 := hne3 j e
        rcases hat2 with hq | hq
        · exact HA.out j (hq ▸ hj) e
        · rw [hq] at hj
          simp at hj
          omega
      obtain ⟨v3', w3, hrun3, own3, hgr3, hat3⟩ := app_int O3.out (wrap64 (sb - 1)) sb (wrap64 (sd - 1)) sd (c := 4) (by have := H3.out; have := HLN.out; omega) B2.out.size
      have hne2' : ∀ j, v2'.ownBlock = some j → j < w2.heap.size := fun j hj => (own2.block hj).2
      have B3 : Hid (Below w.heap.size w w3) := (B2.out.alloc B2.out.size _).grown hgr3 (by have := B2.out.size; simp; omega) (fun j hj => (O3.out.block hj).1)
      have O2 : Hid (IOwn w3 w.heap.size v2' (l2 ++ [wrap64 (sa - 1), sa, wrap64 (sc - 1), sc])) := (own2.below ((Below.refl _ _).alloc (Nat.le_refl _) _)).stays fun j hj => hgr3.block _ (by have := hne2' j hj; simp; omega) (fun e => HAP.out j hj e.symm)
      have HAP3 : Hid (Apart v2' v3') := fun j hj e => by
        rcases hat3 with hq | hq
        · exact HAP.out j hj (hq ▸ e)
        · rw [hq] at e
          have := hne2' j hj
          simp at e
          omega
      have O3' := Lib.hid own3
      have L2 : Hid ((l2 ++ [wrap64 (sa - 1), sa, wrap64 (sc - 1), sc]).length = 4 * (k + 1)) := by have := H2.out; show _ = _; simp; omega
      have L3 : Hid ((l3 ++ [wrap64 (sb - 1), sb, wrap64 (sd - 1), sd]).length = 4 * (k + 1)) := by have := H3.out; show _ = _; simp; omega
      clear own2 own3 hgr2 hgr3 hat2 hat3 hne1 hne3 hne2' B1 hb1 hz1 K1
      obtain ⟨⟨c0, c1, c2, c3⟩, -, i0⟩ := K2.out.c4
      go_wp2_with (at_builtin; first | refine wpl_append rfl _ _ 27 27 27 rfl rfl _ _ _ _ rfl rfl hrun2 ?_ | refine wpl_append rfl _ _ 27 27 27 rfl rfl _ _ _ _ rfl rfl hrun3 ?_)
      clear hrun2 hrun3
      go_roundw
      case rel => exact ⟨k + 1, _, _, by omega, by go_num, L2, L3, HAP3, O2, O3', B3⟩
      case measure => simp [intOf]; omega
    · go_wp2_with (fail)
      go_ret2
      exact ⟨_, _, l2, l3, rfl, ⟨by have := H2.out; have := HLN.out; omega, by have := H3.out; have := HLN.out; omega⟩, HO2.out, HO3.out, hb.out⟩
end Go.Proofs.Ytjnhjhbhodhfgaa
