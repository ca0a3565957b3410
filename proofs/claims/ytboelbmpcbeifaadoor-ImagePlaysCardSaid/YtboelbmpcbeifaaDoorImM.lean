/-
  Layer 10: Sum.
-/
import Derived.Test.YtboelbmpcbeifaaDoorImC
import Derived.Test.YtboelbmpcbeifaaDoorScG
import Derived.Deep.RegionHeld3
namespace Go.Proofs.YtboelbmpcbeifaaDoor
open Go.RowKit pxm imm

def b8 (z : Nat) : List Value := [.int .u8 (z : Nat)]
theorem b8_len (z : Nat) : (b8 z).length = 1 := rfl
theorem b8_plain (z : Nat) : ∀ u ∈ b8 z, u.oneCell' = true := by
  intro u hu
  simp only [b8, List.mem_singleton] at hu
  subst hu
  rfl
abbrev BY (w : World) (base : Nat) (v : Value) (l : List Nat) : Prop := SOwn 5 1 b8 w base v l
theorem info_u8 : (Tryd.prog.info? 5).map (fun i => (i.zero, i.size, i.bytes)) = some (some (.int .u8 0), 1, 1) := by kernel_rfl
theorem BY.bs {w : World} {base : Nat} {v : Value} {l : List Nat} (h : BY w base v l) : ∃ A c, v = .slice A l.length c ∧ l.length ≤ c ∧ c ≤ maxLen ∧ crcs.Bs w A l := by
  obtain ⟨A, c, h1, h2, h3, h4⟩ := h.row b8_len
  refine ⟨A, c, h1, h2, h3, fun hn => ?_⟩
  obtain ⟨b, off, e, hc⟩ := h4 hn
  refine ⟨b, off, e, fun j hj => ?_⟩
  have := hc j hj 0 _ rfl
  rw [Nat.mul_one, Nat.add_zero] at this
  exact this
/-- a number's four bytes -/
def le4 (n : Nat) : List Nat := [n % 256, n / 256 % 256, n / 65536 % 256, n / 16777216]
theorem le4_are {n : Nat} (h : n < 4294967296) : crcm.AreBytes (le4 n) := by
  intro z hz
  simp only [le4, List.mem_cons, List.not_mem_nil, or_false] at hz
  omega
set_option maxHeartbeats 1000000 in
theorem four_any (v : Value) (base : Nat) (l : List Nat) (n : Nat) (hn : n < 4294967296) (w : World) (h : BY w base v l) (hl : l.length ≤ 900000000) (hb : base ≤ w.heap.size) :
    Calls Tryd.prog 36 #[v, .int .u32 (n : Nat)] w fun e w' => ∃ v', e = .returned v' ∧ BY w' base v' (l ++ le4 n) ∧ Below base w w' := by
  obtain ⟨v', w', hrun, own', hgr, -⟩ := SOwn.app (P := Tryd.prog) (xs := le4 n) (c := 4) (g := w.heap.size) (o := 0) Tryd.underlying69 info_u8 rfl (by decide) (by decide) b8_len b8_plain
    (h.below ((Below.refl _ _).alloc (Nat.le_refl _) (.cells ((le4 n).flatMap b8).toArray 5))) (fun _ => srow_new (enc := b8) b8_len w (le4 n) _ rfl) (by simp [le4]; omega) (by simp; omega)
  have HB : Hid (Below base w w') := ((Below.refl _ _).alloc hb _).grown hgr (by simp; omega) (fun j hj => (h.block hj).1)
  have HO := Lib.hid own'
  have e1 : (n : Int) % 256 = ((n % 256 : Nat) : Int) := by simp
  have e2 : (n : Int) / 256 % 256 = ((n / 256 % 256 : Nat) : Int) := by simp
  have e3 : (n : Int) / 65536 % 256 = ((n / 65536 % 256 : Nat) : Int) := by simp
  have e4 : (n : Int) / 16777216 % 256 = ((n / 16777216 : Nat) : Int) := by omega
  have e5 : (n : Int) / 16777216 = ((n / 16777216 : Nat) : Int) := by simp
  have hrun : (Builtin.append_ #[69, 69] 69 #[v, .slice (some ⟨w.heap.size, 0, none⟩) 4 4]).run Tryd.prog (w.alloc (.cells #[.int .u8 (n % 256 : Nat), .int .u8 (n / 256 % 256 : Nat), .int .u8 (n / 65536 % 256 : Nat), .int .u8 (n / 16777216 : Nat)] 5)) = .ok v' w' := hrun
  have h4 : n / 16777216 < 256 := by omega
  have h3 : n / 65536 % 256 < 256 := by omega
  have h2 : n / 256 % 256 < 256 := by omega
  have h1 : n % 256 < 256 := by omega
  clear own' hgr h hl hb
  generalize le4 n = q at *
  generalize n / 16777216 = k3 at *
  generalize n / 65536 % 256 = k2 at *
  generalize n / 256 % 256 = k1 at *
  generalize n % 256 = k0 at *
  go_enter Tryd.func36, Tryd.ntmps36
  go_wp2_with (at_builtin; refine wpl_append rfl _ _ 69 69 69 rfl rfl _ _ _ _ rfl rfl hrun ?_)
  clear hrun
  go_ret
  exact ⟨v', rfl, HO.out, HB.out⟩

def sumL (W H : Nat) (l : List Nat) : List Nat := le4 W ++ le4 H ++ l.flatMap le4
theorem le4_len (n : Nat) : (le4 n).length = 4 := rfl
theorem flat4_len (l : List Nat) : (l.flatMap le4).length = 4 * l.length := by
  induction l with
  | nil => rfl
  | cons z l ih => rw [List.flatMap_cons, List.length_append, ih, le4_len, List.length_cons]; omega
theorem sumL_take (W H : Nat) (l : List Nat) {k : Nat} (hk : k < l.length) : sumL W H (l.take (k + 1)) = sumL W H (l.take k) ++ le4 l[k] := by
  unfold sumL
  rw [List.take_succ_eq_append_getElem hk, List.flatMap_append]
  simp [List.append_assoc]
theorem sumL_len (W H : Nat) (l : List Nat) : (sumL W H l).length = 8 + 4 * l.length := by
  unfold sumL
  rw [List.length_append, List.length_append, le4_len, le4_len, flat4_len]
theorem sumL_are {W H : Nat} {l : List Nat} (hW : W < 4294967296) (hH : H < 4294967296) (hl : ∀ z ∈ l, z < 4294967296) : crcm.AreBytes (sumL W H l) := by
  intro z hz
  unfold sumL at hz
  rw [List.mem_append, List.mem_append] at hz
  rcases hz with (hz | hz) | hz
  · exact le4_are hW z hz
  · exact le4_are hH z hz
  · obtain ⟨x, hx, hz⟩ := List.mem_flatMap.1 hz
    exact le4_are (hl x hx) z hz
theorem make_u8 (n : Nat) (hn : n ≤ 900000000) : ∃ zs : Array Value, zs.size = n * 1 ∧ ∀ w : World, (Instr.makeSlice 69 (.int .i64 0) (.int .i64 (n : Nat))).run Tryd.prog w = .ok (.slice (some ⟨w.heap.size, 0, none⟩) 0 n) (w.alloc (.cells zs 5)) := by
  obtain ⟨i, hi, hz, hsize, hby⟩ := info_parts info_u8
  refine ⟨_, size_madeCells (Value.int .u8 0).cells (n * 1), fun w => ?_⟩
  have h := run_make (P := Tryd.prog) w 69 5 i (.int .u8 0) Tryd.underlying69 hi hz .i64 .i64 0 n (by omega) (by omega) (by rw [hby]; omega) (by omega)
  rw [hsize] at h
  simpa using h
set_option maxHeartbeats 4000000 in
set_option maxRecDepth 100000 in
theorem isum_any (W H : Nat) (hW : W ≤ 4096) (hH : H ≤ 4096) (A : Option Addr) (l : List Nat) (c : Nat) (hl : ∀ z ∈ l, z < 4294967296) (hn : l.length ≤ 100000000) (w : World) (hr : Row eW w A l) (ht : crcs.TabAt w) :
    Calls Tryd.prog 21 #[imV (W : Nat) (H : Nat) A l.length c] w fun e w' => e = .returned (.int .u32 (crcs.sum (sumL W H l) : Nat)) ∧ Below w.heap.size w w' := by
  have HR := Lib.hid hr
  have HT := Lib.hid ht
  have HA := Lib.hid (sumL_are (W := W) (H := H) (by omega) (by omega) hl)
  have HL := Lib.hid hl
  have HS := Lib.hid (fun k (hk : k < l.length) => sumL_take W H l hk)
  have HLN : Hid (∀ k, k ≤ l.length → (sumL W H (l.take k)).length ≤ 500000000) := fun k hk => by rw [sumL_len, List.length_take]; omega
  obtain ⟨C, hC⟩ : ∃ C, 4 * (2 + l.length) = C := ⟨_, rfl⟩
  have hC2 : (4 : Int) * (2 + (l.length : Int)) = (C : Nat) := by omega
  obtain ⟨zs, hzs, hmk⟩ := make_u8 C (by omega)
  have HM : Hid (∀ (w : World) (base : Nat), base ≤ w.heap.size → BY (w.alloc (.cells zs 5)) base (.slice (some ⟨w.heap.size, 0, none⟩) 0 C) []) := fun w base hb => World.ownsRow_made w zs C hb (by unfold maxLen; omega) hzs
  clear hr ht hl hzs hC
  unfold imV
  go_enter Tryd.func21, Tryd.ntmps21
  go_wp2_with (fail)
  clear hmk
  obtain ⟨w1, hw1⟩ : ∃ w1, ((w.alloc (.cells #[.int .i64 (W : Nat), .int .i64 (H : Nat), .slice A l.length c] 24)).alloc (.cells zs 5)) = w1 := ⟨_, rfl⟩
  have HB1 : Hid (Below w.heap.size w w1) := by rw [← hw1]; exact ((Below.refl _ _).alloc (Nat.le_refl _) _).alloc (by simp) _
  have KM : Hid (Blk w1 w.heap.size [.int .i64 (W : Nat), .int .i64 (H : Nat), .slice A l.length c]) := by rw [← hw1]; exact (blk_new w [.int .i64 (W : Nat), .int .i64 (H : Nat), .slice A l.length c] _).alloc _
  have HO1 : Hid (BY w1.drew (w.heap.size + 1) (.slice (some ⟨w.heap.size + 1, 0, none⟩) 0 C) []) := by
    have h := HM.out (w.alloc (.cells #[.int .i64 (W : Nat), .int .i64 (H : Nat), .slice A l.length c] 24)) (w.heap.size + 1) (by simp)
    rw [show (w.alloc (.cells #[.int .i64 (W : Nat), .int .i64 (H : Nat), .slice A l.length c] 24)).heap.size = w.heap.size + 1 by simp, hw1] at h
    exact h
  have hsz1 : w.heap.size + 1 ≤ w1.drew.heap.size := by rw [← hw1]; simp
  rw [hw1]
  clear hw1 HM
  obtain ⟨⟨c0, c1, c2⟩, -, ci⟩ := KM.out.c3
  have HB1d : Hid (Below w.heap.size w w1.drew) := HB1.out.drew
  have KMd : Hid (Blk w1.drew w.heap.size [.int .i64 (W : Nat), .int .i64 (H : Nat), .slice A l.length c]) := KM.out
  have q1 : IntKind.u32.wrap (W : Int) = (W : Nat) := by simp [IntKind.wrap, IntKind.bits, IntKind.signed]; omega
  have q2 : IntKind.u32.wrap (H : Int) = (H : Nat) := by simp [IntKind.wrap, IntKind.bits, IntKind.signed]; omega
  have F1 := Lib.hid (four_any (.slice (some ⟨w.heap.size + 1, 0, none⟩) 0 C) (w.heap.size + 1) [] W (by omega) w1.drew HO1.out (by simp) hsz1)
  go_region_held3 (fun w' => w'.cell? ⟨w.heap.size, 0, none⟩ = some (.int .i64 (W : Nat)) ∧ w'.cell? ⟨w.heap.size, 1, none⟩ = some (.int .i64 (H : Nat)))
    (first | exact ⟨KMd.out.c3.1.1, KMd.out.c3.1.2.1⟩ | exact ⟨x0, x1⟩ | exact ⟨y0, y1⟩ | go_keep)
    ((first | (go_at_call 36; with_reducible refine F1.out.mono ?_; rintro e w2 ⟨v2, rfl, o2, b2⟩; have k2 : Blk w2 w.heap.size [.int .i64 (W : Nat), .int .i64 (H : Nat), .slice A l.length c] := KMd.out.below b2 (Nat.lt_succ_self _); have x0 : w2.cell? ⟨w.heap.size, 0, none⟩ = some (.int .i64 (W : Nat)) := k2.c3.1.1; have x1 : w2.cell? ⟨w.heap.size, 1, none⟩ = some (.int .i64 (H : Nat)) := k2.c3.1.2.1) | (go_at_call 36; refine (four_any v2 (w.heap.size + 1) ([] ++ le4 W) H (by omega) w2 o2 (by simp [le4]) (Nat.le_trans hsz1 b2.size)).mono ?_; rintro e w3 ⟨v3, rfl, o3, b3⟩; have k3 : Blk w3 w.heap.size [.int .i64 (W : Nat), .int .i64 (H : Nat), .slice A l.length c] := k2.below b3 (Nat.lt_succ_self _); have y0 : w3.cell? ⟨w.heap.size, 0, none⟩ = some (.int .i64 (W : Nat)) := k3.c3.1.1; have y1 : w3.cell? ⟨w.heap.size, 1, none⟩ = some (.int .i64 (H : Nat)) := k3.c3.1.2.1)))
  have HB3 : Hid (Below w.heap.size w w3) := (HB1d.out.trans (b2.mono (Nat.le_succ _))).trans (b3.mono (Nat.le_succ _))
  have HO3 : Hid (BY w3 (w.heap.size + 1) v3 (sumL W H (l.take 0))) := by
    have e : sumL W H (l.take 0) = [] ++ le4 W ++ le4 H := by simp [sumL]
    show SOwn _ _ _ _ _ _ _
    rw [e]
    exact o3
  have HS3 : Hid (w.heap.size + 1 ≤ w3.heap.size) := Nat.le_trans hsz1 (Nat.le_trans b2.size b3.size)
  have K3 := Lib.hid k3
  clear o2 o3 b2 b3 k2 k3 x0 x1 y0 y1 F1 HB1d KMd hsz1 HO1 KM HB1 c0 c1 c2 ci q1 q2
  obtain ⟨⟨c0, c1, c2⟩, -, ci⟩ := K3.out.c3
  go_wp2_with (fail)
  clear c0 c1 c2 ci K3
  go_loopw [3, 24] (fun v i wr => ∃ k : Nat, k ≤ l.length ∧ i = .int .i64 k ∧ Hid (BY wr (w.heap.size + 1) v (sumL W H (l.take k))) ∧ Hid (Below w.heap.size w wr) ∧ Hid (w.heap.size + 1 ≤ wr.heap.size)) (fun _ i _ => l.length - (intOf i).toNat)
  case atStart => exact ⟨0, Nat.zero_le _, rfl, HO3.out, HB3.out, HS3.out⟩
  case round =>
    obtain ⟨k, hk, rfl, HO, HB, HSZ⟩ := hrel
    clear HO3 HB3 HS3
    by_cases hlt : k < l.length
    · have t : decide (k < l.length) = true := by simpa using hlt
      obtain ⟨b, off, eA, hc⟩ := (HR.out.below HB.out).at_ hlt
      subst eA
      have HSK := Lib.hid (HS.out k hlt)
      have hz := HL.out _ (List.getElem_mem hlt)
      have hbw : b < wr.heap.size := World.block_lt_of_cell? wr ⟨b, _, none⟩ hc
      have HF := Lib.hid (four_any u3 (w.heap.size + 1) (sumL W H (l.take k)) l[k] hz wr HO.out (by have := HLN.out k hk; omega) HSZ.out)
      rw [← HSK.out] at HF
      clear HSK HO hz
      unfold eW at hc
      generalize l[k] = z at *
      go_wp2_with (fail)
      refine HF.out.mono ?_
      rintro e w4 ⟨v4, rfl, o4, b4⟩
      have HO4 := Lib.hid o4
      have HB4 : Hid (Below w.heap.size w w4) := HB.out.trans (b4.mono (Nat.le_succ _))
      have HS4 : Hid (w.heap.size + 1 ≤ w4.heap.size) := Nat.le_trans HSZ.out b4.size
      clear o4 b4 HF hc hbw
      go_wp2_with (fail)
      go_roundw
      case rel => exact ⟨k + 1, by omega, by go_num, HO4, HB4, HS4⟩
      case measure => simp [intOf]; omega
    · obtain rfl : k = l.length := by omega
      have t : decide (l.length < l.length) = false := by simp
      have hO := HO.out
      rw [List.take_length] at hO
      obtain ⟨A2, c2, rfl, hlc, hcm, hbs⟩ := BY.bs hO
      have HW := Lib.hid (And.intro hlc (And.intro hcm hbs))
      clear hO hlc hcm hbs HO HSZ
      go_wp2_with (fail)
      have hb5 : Below wr.heap.size wr (wr.alloc (.cells #[.slice A2 (sumL W H l).length c2] 69)) := (Below.refl _ _).alloc (Nat.le_refl _) _
      refine (crcs.sum_one wr.heap.size 0 A2 (sumL W H l) c2 1 (wr.alloc (.cells #[.slice A2 (sumL W H l).length c2] 69)) (by simp) HW.out.1 HW.out.2.1 (HW.out.2.2.below hb5) HA.out ((HT.out.below HB.out).below hb5)).mono ?_
      rintro e w6 ⟨rfl, hd⟩
      have HB6 : Hid (Below w.heap.size w w6) := crcs.below_drew (HB.out.trans (hb5.mono HB.out.size)) hd
      clear hd hb5 HW
      go_wp2_with (fail)
      go_ret
      exact ⟨rfl, HB6.out⟩
end Go.Proofs.YtboelbmpcbeifaaDoor
