/-
  Layer 12: what only asks a tree: Kids, Len, kid, others, within.
-/
import Derived.Test.YtokochkjjlbnkaaTrO
namespace Go.Proofs.Ytokochkjjlbnkaa
open Go.RowKit trm

theorem made_one (z : Value) (n : Nat) (hz : z.cells = #[z]) : madeCells z.cells n = (List.replicate n z).toArray := by
  rw [hz]
  apply Array.ext
  · rw [size_madeCells]; simp
  · intro i h1 h2
    simp [madeCells, Nat.mod_one]
theorem make_int (w : World) (n : Nat) (hn : n ≤ 20000000) : (Instr.makeSlice 35 (.int .i64 (n : Nat)) (.int .i64 (n : Nat))).run Try.prog w = .ok (.slice (some ⟨w.heap.size, 0, none⟩) n n) (w.alloc (.cells ((List.replicate n 0).map eI).toArray 3)) := by
  obtain ⟨i, hi, hz, hsize, hby⟩ := info_parts info_int
  have h := run_make (P := Try.prog) w 35 3 i (.int .i64 0) Try.underlying35 hi hz .i64 .i64 n n (by omega) (by omega) (by rw [hby]; omega) (by omega)
  rw [hsize, Int.toNat_natCast, Nat.mul_one, made_one _ _ rfl] at h
  rw [List.map_replicate]
  exact h
def fillZ {α : Type} (z : α) (L : List α) (k : Nat) : List α := L.take k ++ List.replicate (L.length - k) z
theorem fillZ_zero {α : Type} (z : α) (L : List α) : fillZ z L 0 = List.replicate L.length z := rfl
theorem fillZ_all {α : Type} (z : α) (L : List α) : fillZ z L L.length = L := by simp [fillZ]
theorem fillZ_len {α : Type} (z : α) (L : List α) {k : Nat} (hk : k ≤ L.length) : (fillZ z L k).length = L.length := by
  unfold fillZ
  rw [List.length_append, List.length_take, List.length_replicate]
  omega
theorem fillZ_set {α : Type} (z : α) (L : List α) {k : Nat} (hk : k < L.length) : (fillZ z L k).set k L[k] = fillZ z L (k + 1) := by
  unfold fillZ
  rw [List.set_append_right _ _ (by rw [List.length_take]; omega), List.length_take, Nat.min_eq_left (Nat.le_of_lt hk), Nat.sub_self, show L.length - k = (L.length - (k + 1)) + 1 by omega, List.replicate_succ, List.set_cons_zero, List.take_succ_eq_append_getElem hk, List.append_assoc]
  rfl
theorem IOwn.of_blk {w : World} {base g : Nat} {l : List Int} (h : BlkT w g (l.map eI) 3) (hb : base ≤ g) (hm : l.length ≤ 100000) : IOwn w base (.slice (some ⟨g, 0, none⟩) l.length l.length) l := by
  have e : ∀ l : List Int, l.flatMap ic = l.map eI := fun l => by
    induction l with
    | nil => rfl
    | cons x l ih => rw [List.flatMap_cons, ih, List.map_cons]; rfl
  show World.ownsRow _ _ _ _ _ _ _
  rw [e]
  refine ⟨by simp, .inr ⟨g, l.length, _, rfl, hb, h, Nat.le_refl _, by unfold maxLen; omega, by simp, ?_⟩⟩
  simp [List.take_of_length_le]
section
variable {w : World} {b : Nat} {s : Sh} {t : T}
/-- a row of kids: where it lies -/
theorem KOwn.at_ {v : Value} {l : List (Option Nat)} (h : KOwn w v l) : ∃ A c, v = .slice A l.length c ∧ l.length ≤ c ∧ c ≤ maxLen ∧ ∀ j (hj : j < l.length), ∃ g, A = some ⟨g, 0, none⟩ ∧ v.ownBlock = some g ∧ w.cell? ⟨g, j, none⟩ = some (ptrTo l[j]) := by
  obtain ⟨A, c, e, h1, h2, hr⟩ := SOwn.row h kc_len
  refine ⟨A, c, e, h1, h2, fun j hj => ?_⟩
  subst e
  rcases h.2 with ⟨e, _⟩ | ⟨g', cap, cur, e, hg, hb, _⟩
  · injection e with e1 e2 _
    omega
  · injection e with e1 _ _
    subst e1
    obtain ⟨g, off, e, hc⟩ := hr (by omega)
    injection e with e
    injection e with e2 e3 _
    subst e2 e3
    have := hc j hj 0 _ rfl
    rw [Nat.mul_one, Nat.add_zero, Nat.zero_add] at this
    exact ⟨_, rfl, rfl, this⟩
theorem ks_get (s : Sh) (l : List Int) {j : Nat} (hj : j < (ks s l).length) : (ks s l)[j] = some (s.g (l[j]'(by unfold ks at hj; simpa using hj))) := by
  simp [ks]
theorem ks_len (s : Sh) (l : List Int) : (ks s l).length = l.length := List.length_map _
set_option maxHeartbeats 1000000 in
theorem tkids (h : TreeAt w b s t) (hn : t.length ≤ 10000) (i : Int) (hi : I64 i) :
    Calls Try.prog 19 #[.pointer (some ⟨b, 0, none⟩), .int .i64 i] w (KidsQ (kids t i) w) := by
  unfold KidsQ
  obtain ⟨c0, bi⟩ := h.raw.top
  by_cases hx : has t i = true
  · have hlk := h.raw.look_some hi hx
    obtain ⟨⟨n0, n1, n2⟩, -, ni⟩ := h.raw.cells (i := i) hx
    obtain ⟨A, c, hv, hc1, hc2, hat⟩ := (h.raw.node i hx).own.at_
    rw [ks_len] at hv hc1
    rw [hv] at n2
    have HAT : Hid (∀ j (hj : j < (kids t i).length), ∃ g, A = some ⟨g, 0, none⟩ ∧ ∀ W, Below w.heap.size w W → W.cell? ⟨g, j, none⟩ = some (.pointer (some ⟨s.g (kids t i)[j], 0, none⟩)) ∧ W.cell? ⟨s.g (kids t i)[j], 0, none⟩ = some (.int .i64 (kids t i)[j]) ∧ s.g (kids t i)[j] < W.heap.size) := by
      intro j hj
      obtain ⟨g, e, -, hcell⟩ := hat j (by rw [ks_len]; exact hj)
      rw [ks_get] at hcell
      have hk : hasP t (kids t i)[j] := has_iff.2 (.inr (h.ok.kid (List.getElem_mem hj)).1)
      obtain ⟨⟨m0, -, -⟩, -, mi⟩ := h.raw.cells hk
      refine ⟨g, e, fun W hb => ⟨?_, ?_, Nat.lt_of_lt_of_le mi hb.size⟩⟩
      · exact (hb.cell (World.block_lt_of_cell? w ⟨g, j, none⟩ hcell)).trans hcell
      · exact (hb.cell (World.block_lt_of_cell? w ⟨_, 0, none⟩ m0)).trans m0
    have HL : Hid ((kids t i).length ≤ 10000) := Nat.le_trans (kids_le t i) hn
    obtain ⟨L, hL⟩ : ∃ L, kids t i = L := ⟨_, rfl⟩
    have hB : ∀ o, w.cell? ⟨s.g i, 2, none⟩ = some o → ∀ W, Below w.heap.size w W → W.cell? ⟨s.g i, 2, none⟩ = some o := fun o e W hb => (hb.cell (World.block_lt_of_cell? w ⟨_, 2, none⟩ n2)).trans e
    rw [hL] at n2 HAT HL ⊢
    have hmk := make_int w L.length (by have := HL.out; omega)
    have hw0 : Below w.heap.size w (w.alloc (.cells ((List.replicate L.length 0).map eI).toArray 3)) := (Below.refl _ _).alloc (Nat.le_refl _) _
    have HB0 := Lib.hid hw0
    have HF0 : Hid (BlkT (w.alloc (.cells ((List.replicate L.length 0).map eI).toArray 3)) w.heap.size ((fillZ 0 L 0).map eI) 3) := BlkT.new w _ _
    generalize hz : ((List.replicate L.length 0).map eI).toArray = zs at hmk hw0 HB0 HF0
    have n2' := hB _ n2 _ HB0.out
    have ni' : s.g i < (w.alloc (.cells zs 3)).heap.size := Nat.lt_of_lt_of_le ni hw0.size
    clear h hi hx n0 n1 hv hc1 hc2 hat hL hw0 hz hB hn
    go_enter Try.func19, Try.ntmps19
    go_wp2_with (fail)
    go_loopw [28] (fun x wr => ∃ k : Nat, k ≤ L.length ∧ x = .int .i64 k ∧ Hid (BlkT wr w.heap.size ((fillZ 0 L k).map eI) 3) ∧ Hid (Below w.heap.size w wr)) (fun x _ => L.length - (intOf x).toNat)
    case atStart => exact ⟨0, Nat.zero_le _, rfl, HF0, HB0⟩
    case round =>
      obtain ⟨k, hk, rfl, HF, HB⟩ := hrel
      by_cases hlt : k < L.length
      · have t1 : decide (k < L.length) = true := by simpa using hlt
        obtain ⟨g, rfl, hall⟩ := HAT.out k hlt
        obtain ⟨k1, k2, k3⟩ := hall _ HB.out
        have fr := HF.out.blk.free k
        have hsz := HF.out.inside
        have hcc : wr.cell? ⟨w.heap.size, k, none⟩ = some (.int .i64 0) := by
          rw [HF.out.blk.cell k, List.getElem?_map]
          unfold fillZ
          rw [List.getElem?_append_right (by rw [List.length_take]; omega), List.length_take, Nat.min_eq_left hk, Nat.sub_self, List.getElem?_replicate, if_pos (by omega)]
          rfl
        have HF1 : Hid (BlkT (wr.setCell ⟨w.heap.size, k, none⟩ (.int .i64 L[k])) w.heap.size ((fillZ 0 L (k + 1)).map eI) 3) := by
          have := HF.out.set k (.int .i64 L[k])
          rw [← fillZ_set 0 L hlt, List.map_set]
          exact this
        have HB1 : Hid (Below w.heap.size w (wr.setCell ⟨w.heap.size, k, none⟩ (.int .i64 L[k]))) := below_set HB.out (Nat.le_refl _)
        have hkb : (k : Int) ≤ 10000 := by have := HL.out; omega
        generalize L[k] = x at *
        clear hall HF HB
        go_wp2_with (fail)
        go_roundw
        case rel => exact ⟨k + 1, by omega, by go_num, HF1, HB1⟩
        case measure => simp [intOf]; omega
      · obtain rfl : k = L.length := by omega
        have t1 : decide (L.length < L.length) = false := by simp
        have hF := HF.out
        rw [fillZ_all] at hF
        have HF2 := Lib.hid (IOwn.of_blk hF (Nat.le_refl _) (by have := HL.out; omega))
        clear hF HF
        go_wp2_with (fail)
        go_ret
        exact ⟨_, rfl, HF2.out, HB.out⟩
  · have hlk := h.raw.look_none hi hx
    have HQ := Lib.hid (kids_none h.ok hx)
    clear h hi hx
    go_enter Try.func19, Try.ntmps19
    go_wp2_with (fail)
    go_ret
    rw [HQ.out]
    exact ⟨_, rfl, SOwn.nil _ _, Below.refl _ _⟩
end
end Go.Proofs.Ytokochkjjlbnkaa
