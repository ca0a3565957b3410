/-
  Layer 10: images: New; lay.
-/
import Derived.Test.YtboelbmpcbeifaaDoorImB
import Derived.Test.YtboelbmpcbeifaaDoorRxF
namespace Go.Proofs.YtboelbmpcbeifaaDoor
open Go.RowKit pxm imm

/-- two results, the first of which stands in a cell -/
theorem blk_ret2 {P : Program} {fn : Func} {p q : Tmp} {ty : TypeId} {tmps : Array Value} {w : World} {g : Nat} {cs : List Value} {d : TypeDesc} {v : Value} {Q : Ending → World → Prop} (hfn : fn.results = #[.cell p ty, .tmp q])
    (hp : tmps.getD p undef = .pointer (some ⟨g, 0, none⟩)) (hq : tmps.getD q undef = v) (hB : Blk w g cs) (hu : P.underlying ty = some d) (hd : (match d with | .struct _ | .array _ _ => true | _ => false) = true) (hi : (P.info? ty).map (·.size) = some cs.length)
    (h : Q (.returned (.tuple #[.agg cs.toArray, v])) w) : bodyPost P fn Q Exit.ret { tmps := tmps, defers := [] } w := by
  obtain ⟨T, hg⟩ := hB
  refine bodyPost_ret_by (v := .tuple #[.agg cs.toArray, v]) ?_ rfl h
  have hp' : tmps[p]?.getD undef = .pointer (some ⟨g, 0, none⟩) := by simpa using hp
  have hq' : tmps[q]?.getD undef = v := by simpa using hq
  simp [results, hfn, hp', hq', asAddr, run_loadVar_row w g T ty _ _ d hg hu hd (by simpa using hi)]
theorem info_px : (Tryd.prog.info? 35).map (fun i => (i.zero, i.size, i.bytes)) = some (some (.int .u32 0), 1, 4) := by kernel_rfl
theorem made_one (z : Value) (n : Nat) (hz : z.cells = #[z]) : madeCells z.cells n = (List.replicate n z).toArray := by
  rw [hz]
  apply Array.ext
  · rw [size_madeCells]; simp
  · intro i h1 h2
    simp [madeCells, Nat.mod_one]
theorem make_px (w : World) (n : Nat) (hn : n ≤ 20000000) : (Instr.makeSlice 22 (.int .i64 (n : Nat)) (.int .i64 (n : Nat))).run Tryd.prog w = .ok (.slice (some ⟨w.heap.size, 0, none⟩) n n) (w.alloc (.cells ((List.replicate n 0).map eW).toArray 35)) := by
  obtain ⟨i, hi, hz, hsize, hby⟩ := info_parts info_px
  have h := run_make (P := Tryd.prog) w 22 35 i (.int .u32 0) Tryd.underlying22 hi hz .i64 .i64 n n (by omega) (by omega) (by rw [hby]; omega) (by omega)
  rw [hsize, Int.toNat_natCast, Nat.mul_one, made_one _ _ rfl] at h
  rw [List.map_replicate]
  exact h
theorem px_new (w : World) (l : List Nat) (T : TypeId) {g : Nat} (hg : g = w.heap.size) : Px (w.alloc (.cells (l.map eW).toArray T)) g l := ⟨[], by rw [List.append_nil]; exact blk_at w g hg _ T⟩
/-- what New tells -/
def NewQ (W H : Int) (w : World) (e : Ending) (w' : World) : Prop :=
  Below w.heap.size w w' ∧ if sidesB W H = true then ∃ (g n : Nat), e = .returned (.tuple #[imV W H (some ⟨g, 0, none⟩) n n, .int .i64 0]) ∧ (n : Int) = W * H ∧ w.heap.size ≤ g ∧ Px w' g (List.replicate n 0)
    else e = .returned (.tuple #[imV 0 0 none 0 0, .int .i64 11])
set_option maxHeartbeats 1000000 in
theorem new_any (W H : Int) (w : World) : Calls Tryd.prog 12 #[.int .i64 W, .int .i64 H] w (NewQ W H w) := by
  have HS := Lib.hid (fun w => sides_any W H w)
  have HM := Lib.hid (fun h => mul_small (W := W) (H := H) h)
  unfold NewQ
  generalize sidesB W H = S at *
  unfold imV
  go_enter Tryd.func12, Tryd.ntmps12
  go_wp2_with (fail)
  refine (HS.out _).mono ?_
  rintro e w1 ⟨rfl, hb⟩
  have hB : Hid (Below w.heap.size w w1) := bel1 hb
  have hR : Hid (Blk w1 w.heap.size [.int .i64 0, .int .i64 0, .slice none 0 0]) := (blk_at w _ rfl [.int .i64 0, .int .i64 0, .slice none 0 0] _).below hb (by simp)
  clear hb HS
  obtain ⟨⟨c0, c1, c2⟩, ⟨f0, f1, f2⟩, ci⟩ := hR.out.c3
  have HF : Hid (∀ Q : Ending → World → Prop, ∀ tmps cs v, cs.length = 3 → tmps.getD 4 undef = .pointer (some ⟨w.heap.size, 0, none⟩) → tmps.getD 5 undef = v → ∀ W, Blk W w.heap.size cs → Q (.returned (.tuple #[.agg cs.toArray, v])) W → bodyPost Tryd.prog Tryd.f12 Q Exit.ret { tmps := tmps, defers := [] } W) := fun Q tmps cs v hl h4 h5 W hB hQ =>
    blk_ret2 rfl h4 h5 hB Tryd.underlying24 rfl (by rw [hl]; kernel_rfl) hQ
  cases S with
  | false =>
    go_wp2_with (fail)
    exact HF.out _ _ [.int .i64 0, .int .i64 0, .slice none 0 0] _ rfl rfl rfl _ (((hR.out.set 0 _).set 1 _).set 2 _) ⟨below_set (below_set (below_set hB.out (Nat.le_refl _)) (Nat.le_refl _)) (Nat.le_refl _), rfl⟩
  | true =>
    obtain ⟨m1, m2⟩ := HM.out rfl
    obtain ⟨n, hn⟩ : ∃ n : Nat, W * H = (n : Nat) := ⟨(W * H).toNat, by omega⟩
    have q : wrap64 (W * H) = (n : Nat) := by rw [IntWalk.wrap64_in _ (by omega)]; exact hn
    have hmk := fun w => make_px w n (by omega)
    have HN := Lib.hid hn
    clear m1 m2 hn HM
    generalize hz : ((List.replicate n 0).map eW).toArray = zs at hmk
    have HX : Hid (∀ w : World, Px (w.alloc (.cells zs 35)) w.heap.size (List.replicate n 0)) := fun w => by rw [← hz]; exact px_new w _ _ rfl
    clear hz
    go_wp2_with (fail)
    have hz : (((w1.setCell ⟨w.heap.size, 0, none⟩ (.int .i64 W)).setCell ⟨w.heap.size, 1, none⟩ (.int .i64 H)).setCell ⟨w.heap.size, 2, none⟩ (.slice (some ⟨w1.heap.size, 0, none⟩) n n)).heap.size = w1.heap.size := by simp [World.setCell]
    have HP := Lib.hid (HX.out (((w1.setCell ⟨w.heap.size, 0, none⟩ (.int .i64 W)).setCell ⟨w.heap.size, 1, none⟩ (.int .i64 H)).setCell ⟨w.heap.size, 2, none⟩ (.slice (some ⟨w1.heap.size, 0, none⟩) n n)))
    rw [hz] at HP
    have HB2 : Hid (Below w.heap.size w (((w1.setCell ⟨w.heap.size, 0, none⟩ (.int .i64 W)).setCell ⟨w.heap.size, 1, none⟩ (.int .i64 H)).setCell ⟨w.heap.size, 2, none⟩ (.slice (some ⟨w1.heap.size, 0, none⟩) n n))) := below_set (below_set (below_set hB.out (Nat.le_refl _)) (Nat.le_refl _)) (Nat.le_refl _)
    have HR2 : Hid (Blk (((w1.setCell ⟨w.heap.size, 0, none⟩ (.int .i64 W)).setCell ⟨w.heap.size, 1, none⟩ (.int .i64 H)).setCell ⟨w.heap.size, 2, none⟩ (.slice (some ⟨w1.heap.size, 0, none⟩) n n)) w.heap.size [.int .i64 W, .int .i64 H, .slice (some ⟨w1.heap.size, 0, none⟩) n n]) := ((hR.out.set 0 _).set 1 _).set 2 _
    clear hR c0 c1 c2 ci f0 f1 f2 HX hmk
    generalize (((w1.setCell ⟨w.heap.size, 0, none⟩ (.int .i64 W)).setCell ⟨w.heap.size, 1, none⟩ (.int .i64 H)).setCell ⟨w.heap.size, 2, none⟩ (.slice (some ⟨w1.heap.size, 0, none⟩) n n)) = w2 at *
    exact HF.out _ _ [.int .i64 W, .int .i64 H, .slice (some ⟨w1.heap.size, 0, none⟩) n n] _ rfl rfl rfl _ (HR2.out.alloc _) ⟨HB2.out.alloc HB2.out.size _, w1.heap.size, n, rfl, HN.out.symm, hB.out.size, HP.out⟩
/-! ### Painting -/
def paint (F : Nat → Bool) (p : Nat) (l : List Nat) : List Nat := l.mapIdx fun j z => if F j = true then p else z
theorem paint_len (F : Nat → Bool) (p : Nat) (l : List Nat) : (paint F p l).length = l.length := by unfold paint; rw [List.length_mapIdx]
theorem paint_at (F : Nat → Bool) (p : Nat) (l : List Nat) {j : Nat} (hj : j < l.length) : (paint F p l)[j]'(by rw [paint_len]; exact hj) = if F j = true then p else l[j] := by simp [paint]
theorem paint_congr {F G : Nat → Bool} (p : Nat) (l : List Nat) (h : ∀ j, j < l.length → F j = G j) : paint F p l = paint G p l := by
  refine List.ext_getElem (by rw [paint_len, paint_len]) fun j h1 h2 => ?_
  rw [paint_len] at h1
  rw [paint_at F p l h1, paint_at G p l h1, h j h1]
theorem paint_none (p : Nat) (l : List Nat) {F : Nat → Bool} (h : ∀ j, j < l.length → F j = false) : paint F p l = l := by
  refine List.ext_getElem (by rw [paint_len]) fun j h1 h2 => ?_
  rw [paint_at F p l h2, h j h2]
  rfl
theorem paint_set (F : Nat → Bool) (p : Nat) (l : List Nat) (i : Nat) : (paint F p l).set i p = paint (fun j => F j || decide (j = i)) p l := by
  refine List.ext_getElem (by rw [List.length_set, paint_len, paint_len]) fun j h1 h2 => ?_
  rw [paint_len] at h2
  rw [paint_at _ p l h2, List.getElem_set]
  by_cases e : i = j
  · subst e; simp
  · rw [if_neg e, paint_at F p l h2, show decide (j = i) = false from decide_eq_false (fun h => e h.symm), Bool.or_false]
theorem paint_paint (F G : Nat → Bool) (p : Nat) (l : List Nat) : paint G p (paint F p l) = paint (fun j => F j || G j) p l := by
  refine List.ext_getElem (by simp only [paint_len]) fun j h1 h2 => ?_
  rw [paint_len] at h2
  rw [paint_at _ p l h2, paint_at G p _ (by rw [paint_len]; exact h2), paint_at F p l h2]
  cases F j <;> cases G j <;> rfl
/-- the places of a rectangle -/
def rin (W a b c d : Nat) (j : Nat) : Bool := (decide (a ≤ j % W) && decide (j % W < c)) && (decide (b ≤ j / W) && decide (j / W < d))
theorem rin_row {W a b c y j : Nat} (hW : 0 < W) (hc : c ≤ W) (hb : b ≤ y) : rin W a b c (y + 1) j = (rin W a b c y j || (decide (y * W + a ≤ j) && decide (j < y * W + c))) := by
  have e := Nat.div_add_mod j W
  have hm := Nat.mod_lt j hW
  unfold rin
  generalize j / W = q at *
  generalize j % W = r at *
  subst e
  rw [Bool.eq_iff_iff]
  simp only [Bool.or_eq_true, Bool.and_eq_true, decide_eq_true_eq]
  by_cases h : q = y
  · subst h
    rw [Nat.mul_comm W q]
    omega
  · rcases Nat.lt_or_gt_of_ne h with h1 | h1
    · have : W * q + W ≤ y * W := by
        have := Nat.mul_le_mul_right W (show q + 1 ≤ y from h1)
        rw [Nat.add_mul, Nat.one_mul, Nat.mul_comm q W] at this
        exact this
      omega
    · have : y * W + W ≤ W * q := by
        have := Nat.mul_le_mul_right W (show y + 1 ≤ q from h1)
        rw [Nat.add_mul, Nat.one_mul, Nat.mul_comm q W] at this
        exact this
      omega
end Go.Proofs.YtboelbmpcbeifaaDoor
