/-
  Layer 8: the document's own Then.
-/
import Derived.Test.YtmbfkaodoankaaaAfC
namespace Go.Proofs.Ytmbfkaodoankaaa
open Go.RowKit

theorem ddot_row (A : Option Addr) (l : List Int) (w : World) (hr : Row eI w A l) (h1 : l.length ≤ 5) :
    Calls Try.prog 27 #[.slice A l.length l.length] w fun e w' => e = .returned (.tuple #[.int .i64 (dotV l), .bool (dotB l)]) ∧ Drew w w' :=
  ddot_any A l l.length w hr (Nat.le_refl _) (by omega)
theorem rightB_0 : rightB 0 = true := rightB_yes (by decide) (by decide)
theorem dots_0 (a b c d : Int) : dots [a, b, c, d, 0] = dots [a, b, c, d] := by
  show a * b + (c * d + 0 * 65536) = a * b + (c * d + 0)
  omega
theorem dot_0 (a b c d : Int) : dotB [a, b, c, d, 0] = dotB [a, b, c, d] ∧ dotV [a, b, c, d, 0] = dotV [a, b, c, d] := by
  have h1 : allR [a, b, c, d, 0] = allR [a, b, c, d] := by simp [allR, rightB_0]
  unfold dotB dotV
  rw [h1, dots_0]
  simp
/-- the six sums of products -/
def Mp.dl (m n : Mp) : List (List Int) := [[n.a, m.a, n.c, m.b], [n.b, m.a, n.d, m.b], [n.a, m.c, n.c, m.d], [n.b, m.c, n.d, m.d], [n.a, m.e, n.c, m.f, n.e], [n.b, m.e, n.d, m.f, n.f]]
def Mp.dok (m n : Mp) : Bool := (m.dl n).all dotB
theorem Mp.dok_eq (m n : Mp) : m.dok n = m.thenB n := by
  unfold Mp.dok Mp.dl Mp.thenB Mp.takes Mp.dx Mp.dy Mp.still
  simp only [List.all_cons, List.all_nil, Bool.and_true, (dot_0 _ _ _ _).1, Bool.and_assoc]
theorem Mp.dl_val (m n : Mp) (h : m.thenB n = true) : (m.dl n).map (fun l => eI (dotV l)) = (m.then1 n).cs := by
  unfold Mp.thenB at h
  simp only [Bool.and_eq_true] at h
  obtain ⟨⟨h1, h2⟩, h3⟩ := h
  unfold Mp.then1 Mp.take Mp.cs
  rw [if_pos h1, if_pos h2, if_pos h3]
  unfold Mp.dl Mp.dx Mp.dy Mp.still eI
  simp only [List.map_cons, List.map_nil, (dot_0 _ _ _ _).2]
/-- what stands in the array when k numbers are written -/
def outs (D : List (List Int)) (k : Nat) : List Value := (D.take k).map (fun l => eI (dotV l)) ++ List.replicate (D.length - k) (eI 0)
theorem outs_step (D : List (List Int)) {k : Nat} (hk : k < D.length) : (outs D k).set k (eI (dotV D[k])) = outs D (k + 1) := by
  unfold outs
  have e : D.length - k = (D.length - (k + 1)) + 1 := by omega
  rw [List.take_succ_eq_append_getElem hk, List.map_append, e, List.replicate_succ, List.set_append, if_neg (by simp [Nat.min_eq_left (Nat.le_of_lt hk)])]
  simp [Nat.min_eq_left (Nat.le_of_lt hk)]
theorem outs_at (D : List (List Int)) {k : Nat} (hk : k < D.length) : (outs D k)[k]? = some (.int .i64 0) := by
  unfold outs
  rw [List.getElem?_append_right (by simp [Nat.min_eq_left (Nat.le_of_lt hk)])]
  simp only [List.length_map, List.length_take, Nat.min_eq_left (Nat.le_of_lt hk), Nat.sub_self, List.getElem?_replicate]
  rw [if_pos (by omega)]
  rfl
theorem outs_all (D : List (List Int)) : outs D D.length = D.map (fun l => eI (dotV l)) := by simp [outs]
theorem all_snoc {α : Type} {p : α → Bool} {l : List α} {k : Nat} (h : (l.take k).all p = true) (hk : k < l.length) (hx : p l[k] = true) : (l.take (k + 1)).all p = true := by
  rw [List.take_succ_eq_append_getElem hk, List.all_append, h]
  simp [hx]
theorem all_bad {α : Type} {p : α → Bool} {l : List α} {k : Nat} (hk : k < l.length) (hx : p l[k] = false) : l.all p = false := by
  rw [List.all_eq_false]
  exact ⟨_, List.getElem_mem hk, by simp [hx]⟩
theorem Row.block {α : Type} {enc : α → Value} {w w' : World} {g B : Nat} {l : List α} (h : Row enc w (some ⟨g, 0, none⟩) l) (hb : Below B w w') (hg : g < B) : Row enc w' (some ⟨g, 0, none⟩) l := fun hn => by
  obtain ⟨b, off, e, hc⟩ := h hn
  refine ⟨b, off, e, fun j hj => ?_⟩
  simp only [Option.some.injEq, Addr.mk.injEq, and_true] at e
  obtain ⟨rfl, rfl⟩ := e
  exact (hb.cell (p := ⟨g, _, none⟩) hg).trans (hc j hj)
/-- the rows that the array leads to -/
def Rows6 (w : World) (gA : Nat) (D : List (List Int)) : Prop := ∀ k (hk : k < D.length), ∃ g, g < gA ∧ w.cell? ⟨gA, k, none⟩ = some (.slice (some ⟨g, 0, none⟩) D[k].length D[k].length) ∧ Row eI w (some ⟨g, 0, none⟩) D[k]
theorem rows6_mk {w : World} {gA : Nat} {D : List (List Int)} {cs : List Value} (hb : Blk w gA cs) (h : ∀ k (hk : k < D.length), ∃ g, g < gA ∧ cs[k]? = some (.slice (some ⟨g, 0, none⟩) D[k].length D[k].length) ∧ Row eI w (some ⟨g, 0, none⟩) D[k]) : Rows6 w gA D := fun k hk => by
  obtain ⟨g, hg, hc, hr⟩ := h k hk
  exact ⟨g, hg, (hb.cell k).trans hc, hr⟩
theorem Rows6.below {w w' : World} {gA : Nat} {D : List (List Int)} (h : Rows6 w gA D) (hb : Below (gA + 1) w w') : Rows6 w' gA D := fun k hk => by
  obtain ⟨g, hg, hc, hr⟩ := h k hk
  exact ⟨g, hg, (hb.cell (p := ⟨gA, _, none⟩) (Nat.lt_succ_self _)).trans hc, hr.block hb (by omega)⟩

set_option maxRecDepth 100000 in
set_option maxHeartbeats 2000000 in
theorem mp_dthen (m n : Mp) (w : World) : Calls Try.prog 15 #[m.v, n.v] w fun e w' => e = .returned (.tuple #[(if m.thenB n = true then m.then1 n else Mp.o).v, .bool (m.thenB n)]) ∧ Below w.heap.size w w' := by
  have HV := Lib.hid (m.dl_val n)
  rw [← Mp.dok_eq] at HV ⊢
  have HO : Hid ((m.dl n).all dotB = m.dok n) := rfl
  obtain ⟨r, hr⟩ : ∃ r, (if m.dok n = true then m.then1 n else Mp.o) = r := ⟨_, rfl⟩
  rw [hr]
  have HRT : Hid (m.dok n = true → m.then1 n = r) := fun h => by rw [← hr, if_pos h]
  have HRF : Hid (m.dok n = false → Mp.o = r) := fun h => by rw [← hr, if_neg (by rw [h]; decide)]
  clear hr
  generalize m.then1 n = V at *
  generalize m.dok n = ok at *
  obtain ⟨D, hD⟩ : ∃ D, m.dl n = D := ⟨_, rfl⟩
  obtain ⟨a, b, c, d, e, f⟩ := m
  obtain ⟨a', b', c', d', e', f'⟩ := n
  have HL : Hid (D.length = 6) := by rw [← hD]; rfl
  have HD : Hid (D = [[a', a, c', b], [b', a, d', b], [a', c, c', d], [b', c, d', d], [a', e, c', f, e'], [b', e, d', f, f']]) := hD.symm
  have HLE : Hid (∀ x ∈ D, x.length ≤ 5) := by
    rw [← hD]
    intro x hx
    simp only [Mp.dl, List.mem_cons, List.not_mem_nil, or_false] at hx
    rcases hx with rfl | rfl | rfl | rfl | rfl | rfl <;> simp
  rw [hD] at HV HO
  clear hD
  unfold Mp.v
  simp only
  go_enter Try.func15, Try.ntmps15
  go_wp2_with (fail)
  go_loopw [8] (fun i wr => ∃ (k : Nat) (W0 : World), k ≤ 6 ∧ i = .int .i64 k ∧ Hid ((D.take k).all dotB = true) ∧ Hid (Rows6 W0 (w.heap.size + 1 + 1 + 1 + 1 + 1 + 1 + 1 + 1 + 1) D) ∧ Hid (Blk W0 (w.heap.size + 1 + 1) Mp.o.cs) ∧ Hid (Below w.heap.size w W0) ∧ Hid (Below (w.heap.size + 1 + 1 + 1 + 1 + 1 + 1 + 1 + 1 + 1 + 1) W0 wr) ∧ Hid (Blk wr (w.heap.size + 1 + 1 + 1 + 1 + 1 + 1 + 1 + 1 + 1 + 1) (outs D k))) (fun i _ => 6 - (intOf i).toNat)
  case atStart =>
    refine ⟨0, _, Nat.zero_le _, rfl, rfl, ?_, ?_, ?_, Below.refl _ _, ?_⟩
    · refine rows6_mk ((blk_at _ _ (by simp) [.slice (some ⟨w.heap.size + 1 + 1 + 1, 0, none⟩) 4 4, .slice (some ⟨w.heap.size + 1 + 1 + 1 + 1, 0, none⟩) 4 4, .slice (some ⟨w.heap.size + 1 + 1 + 1 + 1 + 1, 0, none⟩) 4 4, .slice (some ⟨w.heap.size + 1 + 1 + 1 + 1 + 1 + 1, 0, none⟩) 4 4, .slice (some ⟨w.heap.size + 1 + 1 + 1 + 1 + 1 + 1 + 1, 0, none⟩) 5 5, .slice (some ⟨w.heap.size + 1 + 1 + 1 + 1 + 1 + 1 + 1 + 1, 0, none⟩) 5 5] _).alloc _) ?_
      rw [HD.out]
      intro k hk
      have hk6 : k < 6 := hk
      rcases (by omega : k = 0 ∨ k = 1 ∨ k = 2 ∨ k = 3 ∨ k = 4 ∨ k = 5) with rfl | rfl | rfl | rfl | rfl | rfl
      · exact ⟨w.heap.size + 1 + 1 + 1, by omega, rfl, ((((((((row_new' _ [a', a, c', b] _ (by simp)).alloc _).alloc _).alloc _).alloc _).alloc _).alloc _).alloc _)⟩
      · exact ⟨w.heap.size + 1 + 1 + 1 + 1, by omega, rfl, (((((((row_new' _ [b', a, d', b] _ (by simp)).alloc _).alloc _).alloc _).alloc _).alloc _).alloc _)⟩
      · exact ⟨w.heap.size + 1 + 1 + 1 + 1 + 1, by omega, rfl, ((((((row_new' _ [a', c, c', d] _ (by simp)).alloc _).alloc _).alloc _).alloc _).alloc _)⟩
      · exact ⟨w.heap.size + 1 + 1 + 1 + 1 + 1 + 1, by omega, rfl, (((((row_new' _ [b', c, d', d] _ (by simp)).alloc _).alloc _).alloc _).alloc _)⟩
      · exact ⟨w.heap.size + 1 + 1 + 1 + 1 + 1 + 1 + 1, by omega, rfl, ((((row_new' _ [a', e, c', f, e'] _ (by simp)).alloc _).alloc _).alloc _)⟩
      · exact ⟨w.heap.size + 1 + 1 + 1 + 1 + 1 + 1 + 1 + 1, by omega, rfl, (((row_new' _ [b', e, d', f, f'] _ (by simp)).alloc _).alloc _)⟩
    · exact (((((((((blk_at _ _ (by simp) Mp.o.cs _).alloc _).alloc _).alloc _).alloc _).alloc _).alloc _).alloc _).alloc _)
    · show Below _ _ _
      refine Below.alloc (Below.alloc (Below.alloc (Below.alloc (Below.alloc (Below.alloc (Below.alloc (Below.alloc (Below.alloc (Below.alloc ((Below.refl _ _).alloc (Nat.le_refl _) _) ?_ _) ?_ _) ?_ _) ?_ _) ?_ _) ?_ _) ?_ _) ?_ _) ?_ _) ?_ _
      · simp
      all_goals simp only [World.size_alloc]
      all_goals omega
    · have e : outs D 0 = Mp.o.cs := by rw [HD.out]; rfl
      rw [e]
      exact blk_at _ _ (by simp) Mp.o.cs _
  case round =>
    obtain ⟨k, W0, hk, rfl, HK, HROWS, HR0, HB0, HBW, HOUT⟩ := hrel
    by_cases hlt : k < 6
    · have hkl : k < D.length := by rw [HL.out]; exact hlt
      obtain ⟨g, hg, hc, hrow⟩ := (HROWS.out.below HBW.out) k hkl
      have h5 : D[k].length ≤ 5 := HLE.out _ (List.getElem_mem hkl)
      have H1 := Lib.hid (all_snoc (p := dotB) HK.out hkl)
      have HN := Lib.hid (all_bad (p := dotB) (l := D) hkl)
      have HS := Lib.hid (outs_step D hkl)
      have HAT := Lib.hid (outs_at D hkl)
      have hin : w.heap.size + 1 + 1 + 1 + 1 + 1 + 1 + 1 + 1 + 1 < wr.heap.size := World.block_lt_of_cell? wr _ hc
      generalize D[k] = x at *
      have HROW := Lib.hid hrow
      have H5 := Lib.hid h5
      clear HK hrow h5 hkl hg
      go_wp2_with (fail)
      refine (ddot_row _ x wr HROW.out H5.out).mono ?_
      rintro e wd ⟨rfl, hd⟩
      have HBD : Hid (Below (w.heap.size + 1 + 1 + 1 + 1 + 1 + 1 + 1 + 1 + 1 + 1) W0 wd) := HBW.out.trans (hd.below _)
      have hout : Blk wd (w.heap.size + 1 + 1 + 1 + 1 + 1 + 1 + 1 + 1 + 1 + 1) (outs D k) := HOUT.out.below' (hd.below _)
      have HOUT2 := Lib.hid hout
      have o0 := (hout.cell k).trans HAT.out
      have of := hout.free k
      have oi := hout.inside
      have HRD := Lib.hid ((HR0.out.below (hd.below _ |> HBW.out.trans) (by omega)))
      clear hout hd hc hin HROW HBW HOUT
      cases hx : dotB x with
      | true =>
        rw [hx] at H1
        have HB2 := Lib.hid (H1.out rfl)
        clear H1 HN hx of oi HRD
        have of := HOUT2.out.free k
        have oi := HOUT2.out.inside
        go_wp2_with (fail)
        go_roundw
        case rel => exact ⟨k + 1, W0, by omega, by go_num, HB2, HROWS, HR0, HB0, below_set HBD.out (Nat.le_refl _), by show Blk _ _ _; rw [← HS.out]; exact HOUT2.out.set k _⟩
        case measure => simp [intOf]; omega
      | false =>
        rw [hx] at HN
        have HB2 : Hid (ok = false) := HO.out.symm.trans (HN.out rfl)
        have hok := HB2.out
        subst hok
        have hr := HRF.out rfl
        subst hr
        clear H1 HN hx of oi o0 HRT HRF HV HB2
        obtain ⟨⟨c0, c1, c2, c3, c4, c5⟩, ⟨f0, f1, f2, f3, f4, f5⟩, ri⟩ := Blk.c6 HRD.out
        go_wp2_with (fail)
        exact blk_ret2 rfl rfl rfl (Blk.put6 HRD.out _ _ _ _ _ _) Try.underlying28 rfl (by kernel_rfl) ⟨rfl, below6 (HB0.out.trans (HBD.out.mono (by omega))) (by omega) _ _ _ _ _ _⟩
    · have hk6 : k = D.length := by rw [HL.out]; omega
      have hok : ok = true := by
        have h := HK.out
        rw [hk6, List.take_length, HO.out] at h
        exact h
      subst hok
      have hr := HRT.out rfl
      subst hr
      have hout : Blk wr (w.heap.size + 1 + 1 + 1 + 1 + 1 + 1 + 1 + 1 + 1 + 1) V.cs := by
        have h := HOUT.out
        rw [hk6, outs_all, HV.out rfl] at h
        exact h
      have HOUT2 := Lib.hid hout
      have HRD := Lib.hid (HR0.out.below HBW.out (by omega))
      have HB2 := Lib.hid (HB0.out.trans (HBW.out.mono (by omega)))
      have hk' : k = 6 := by rw [hk6]; exact HL.out
      subst hk'
      clear hk6 HRT HRF HV HO HK HOUT HBW hout HLE HL HD
      obtain ⟨va, vb, vc, vd, ve, vf⟩ := V
      obtain ⟨⟨c0, c1, c2, c3, c4, c5⟩, ⟨f0, f1, f2, f3, f4, f5⟩, ri⟩ := Blk.c6 HRD.out
      obtain ⟨⟨d0, d1, d2, d3, d4, d5⟩, -, di⟩ := Blk.c6 HOUT2.out
      simp only at d0 d1 d2 d3 d4 d5
      go_wp2_with (fail)
      exact blk_ret2 rfl rfl rfl (Blk.put6 HRD.out _ _ _ _ _ _) Try.underlying28 rfl (by kernel_rfl) ⟨rfl, below6 HB2.out (by omega) _ _ _ _ _ _⟩
end Go.Proofs.Ytmbfkaodoankaaa
