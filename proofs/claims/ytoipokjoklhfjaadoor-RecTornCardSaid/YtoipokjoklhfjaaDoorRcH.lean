/-
  The fixed answer of layer 4.
-/
import Derived.Test.YtoipokjoklhfjaaDoorRcG
import Derived.Lib.SlBytesConst
namespace Go.Proofs.YtoipokjoklhfjaaDoor
open Go.RowKit numb

def aw : List Nat := recB 1 [97]
theorem aw_len : aw.length = 7 := by
  unfold aw
  rw [recB_length, uint_small (by simp)]
  rfl
theorem aw_take : aw.take 3 = [1, 1, 97] := by
  unfold aw recB headB
  rw [uint_small (by simp)]
  rfl
theorem aw_are : AreBytes aw := recB_are (by omega) (fun z hz => by simp at hz; omega)
theorem aw_next : nextS aw = ⟨0, 1, [97], 7⟩ := by
  have := next_rec (k := 1) [97] (by simp) []
  rw [List.append_nil, show (recB 1 [97]).length = 7 from aw_len] at this
  exact this
theorem short_one {z : Nat} (h : z < 128) : nextS [z] = ⟨16, 0, [], 0⟩ := by
  have hH : Head [z] z [] := ⟨by rw [uint_small h]; rfl, by omega⟩
  exact next_short hH (by simp)
theorem aw_all : allS (aw ++ [5]) = ([(1, [97])], 7, 16) := by
  have h := next_rec (k := 1) [97] (by simp) [5]
  rw [show recB 1 [97] = aw from rfl, aw_len] at h
  have hA : AreBytes (aw ++ [5]) := aw_are.append (fun z hz => by simp at hz; omega)
  rw [allS_go hA (by simp [aw_len]) (by rw [h]), h]
  simp only
  have hd : (aw ++ [5]).drop 7 = [5] := by rw [List.drop_append, List.drop_of_length_le (by rw [aw_len]; omega), aw_len]; rfl
  have h5 : nextS [5] = ⟨16, 0, [], 0⟩ := short_one (by omega)
  rw [hd, allS_stop (by simp) (by rw [h5]; simp), h5]
  rfl
theorem aw_bytes (p : Part) (h : p.l = [97]) : firstE [⟨1, p⟩] = 0 ∧ bytesL [⟨1, p⟩] = aw := by
  constructor
  · simp [firstE, rightR, rightI, h]
  · simp [bytesL, h, aw]
theorem aw_bad : firstE [⟨256, ⟨none, [], 0⟩⟩] = 11 := by simp [firstE, rightR, rightI]
theorem aw_text : (strOf [1, 1, 97]).toList = [1, 1, 97] := by
  rw [ByteArray.toList_eq]
  decide
theorem requal_yes (x y : Rc) (w : World) (hx : x.p.ok w) (hy : y.p.ok w) (h : x.k = y.k ∧ x.p.l = y.p.l) : Calls Tryd.prog 15 #[x.v, y.v] w fun e w' => e = .returned (.bool true) ∧ Below w.heap.size w w' := by
  have := requal_any x y w hx hy
  rwa [decide_eq_true h] at this
theorem requal_no (x y : Rc) (w : World) (hx : x.p.ok w) (hy : y.p.ok w) (h : ¬ (x.k = y.k ∧ x.p.l = y.p.l)) : Calls Tryd.prog 15 #[x.v, y.v] w fun e w' => e = .returned (.bool false) ∧ Below w.heap.size w w' := by
  have := requal_any x y w hx hy
  rwa [decide_eq_false h] at this
theorem one_row (w : World) (x : Rc) (T : TypeId) {g : Nat} (hg : g = w.heap.size) : RcRow (w.alloc (.cells #[.int .i64 x.k, x.p.v] T)) (some ⟨g, 0, none⟩) [x] := fun _ => by
  subst hg
  refine ⟨w.heap.size, 0, rfl, fun j hj => ?_⟩
  have hj0 : j = 0 := by simpa using hj
  subst hj0
  have b := blk2_new w [.int .i64 x.k, x.p.v] T
  exact ⟨b.cell2 0, b.cell2 1⟩
theorem a_part (w : World) {g : Nat} (hg : g = w.heap.size) : (⟨some ⟨g, 0, none⟩, [97], 1⟩ : Part).ok (w.alloc (.cells #[.int .u8 97] 5 (1, 2))) := by
  subst hg
  refine ⟨by simp, by simp [maxLen], fun _ => ⟨w.heap.size, 0, rfl, fun j hj => ?_⟩, fun z hz => by simp at hz; omega⟩
  have hj0 : j = 0 := by simpa using hj
  subst hj0
  exact (World.cell?_alloc_mark w #[.int .u8 97] 5 (1, 2) 0).trans rfl
theorem b_part (w : World) {z : Nat} (hz : z < 256) {g : Nat} (hg : g = w.heap.size) : (⟨some ⟨g, 0, none⟩, [z], 1⟩ : Part).ok (w.alloc (.cells #[.int .u8 (z : Nat)] 5)) := by
  subst hg
  refine ⟨by simp, by simp [maxLen], fun _ => ⟨w.heap.size, 0, rfl, fun j hj => ?_⟩, fun y hy => by simp at hy; omega⟩
  have hj0 : j = 0 := by simpa using hj
  subst hj0
  exact (blk2_new w [.int .u8 (z : Nat)] 5).cell2 0
set_option maxRecDepth 100000 in
set_option maxHeartbeats 4000000 in
theorem awake_any (w : World) (ht : TabAt w) : Calls Tryd.prog 9 #[] w fun e w' => e = .returned (.bool true) ∧ Below w.heap.size w w' := by
  have HT := Lib.hid ht
  clear ht
  have kc := fun (w : World) (C : Array Value) (n c : Nat) => Lib.run_convert_bytes_const (P := Tryd.prog) w 25 5 C n c Tryd.underlying25 Tryd.underlying5
  have B0 : Hid (Below w.heap.size w ((w.alloc (.cells #[.int .u8 97] 5 (1, 2))).alloc (.cells #[.int .i64 1, .slice (some ⟨w.heap.size, 0, none⟩) 1 1] 27))) := ((Below.refl _ _).alloc (Nat.le_refl _) _).alloc (by simp) _
  have P0 : Hid ((⟨some ⟨w.heap.size, 0, none⟩, [97], 1⟩ : Part).ok ((w.alloc (.cells #[.int .u8 97] 5 (1, 2))).alloc (.cells #[.int .i64 1, .slice (some ⟨w.heap.size, 0, none⟩) 1 1] 27))) := (a_part w rfl).alloc _
  have C1 := Lib.hid (bytes_any (some ⟨w.heap.size + 1, 0, none⟩) [⟨1, ⟨some ⟨w.heap.size, 0, none⟩, [97], 1⟩⟩] 1 _ (one_row (w.alloc (.cells #[.int .u8 97] 5 (1, 2))) ⟨1, ⟨some ⟨w.heap.size, 0, none⟩, [97], 1⟩⟩ 27 (by simp)) (fun x hx => by
    obtain rfl := List.mem_singleton.1 hx
    exact ⟨P0.out, by simp⟩) (by simp) (tab_below HT.out B0.out))
  go_enter Tryd.func9, Tryd.ntmps9
  go_wp2_with (fail)
  refine C1.out.mono ?_
  rintro e w1 ⟨v1, rfl, h1, -, hb1⟩
  obtain ⟨e1, e2⟩ := aw_bytes ⟨some ⟨w.heap.size, 0, none⟩, [97], 1⟩ rfl
  have own1 := h1 e1
  rw [e2] at own1
  rw [e1]
  obtain ⟨a1, c1, rfl, p1, -, -⟩ := own1.part aw_are
  have HP1 := Lib.hid p1
  have B1 : Hid (Below w.heap.size w w1) := B0.out.trans (hb1.mono B0.out.size)
  clear own1 h1 hb1 p1 e1 e2 C1 P0 B0
  rw [aw_len]
  have B2 : Hid (Below w.heap.size w (w1.alloc (.cells #[.int .i64 256, .slice none 0 0] 27))) := B1.out.alloc B1.out.size _
  have C2 := Lib.hid (bytes_any (some ⟨w1.heap.size, 0, none⟩) [⟨256, ⟨none, [], 0⟩⟩] 1 _ (one_row w1 ⟨256, ⟨none, [], 0⟩⟩ 27 rfl) (fun x hx => by
    obtain rfl := List.mem_singleton.1 hx
    exact ⟨part_nil _, by simp⟩) (by simp) (tab_below HT.out B2.out))
  go_wp2_with (fail)
  refine C2.out.mono ?_
  rintro e w2 ⟨v2, rfl, -, h2, hb2⟩
  rw [aw_bad] at h2 ⊢
  obtain rfl := h2 (by decide)
  have B3 : Hid (Below w.heap.size w w2) := B2.out.trans (hb2.mono B2.out.size)
  have HP2 : Hid ((⟨a1, aw, c1⟩ : Part).ok w2) := (HP1.out.below ((Below.refl _ _).alloc (Nat.le_refl _) _)).below hb2
  clear h2 hb2 C2 B2 B1 HP1
  have C3 := next_any ⟨a1, aw, c1⟩ w2 HP2.out (tab_below HT.out B3.out) (by simp only; rw [aw_len]; omega)
  simp only [aw_len] at C3
  have C3 := Lib.hid C3
  go_wp2_with (fail)
  refine C3.out.mono ?_
  rintro e w3 ⟨v3, rfl, own3, hb3⟩
  rw [aw_next] at own3 ⊢
  simp only at own3 ⊢
  obtain ⟨a3, c3, rfl, p3, -, -⟩ := own3.part (fun z hz => by simp at hz; omega)
  have B4 : Hid (Below w.heap.size w (w3.alloc (.cells #[.int .i64 1, .slice a3 1 c3] 27))) := (B3.out.trans (hb3.mono B3.out.size)).alloc (Nat.le_trans B3.out.size hb3.size) _
  have HX : Hid (Blk2 (w3.alloc (.cells #[.int .i64 1, .slice a3 1 c3] 27)) w3.heap.size [.int .i64 1, .slice a3 1 c3]) := blk2_new w3 _ _
  have HP3 : Hid ((⟨a3, [97], c3⟩ : Part).ok (w3.alloc (.cells #[.int .i64 1, .slice a3 1 c3] 27))) := p3.alloc _
  have HP4 : Hid ((⟨a1, aw, c1⟩ : Part).ok (w3.alloc (.cells #[.int .i64 1, .slice a3 1 c3] 27))) := (HP2.out.below hb3).alloc _
  obtain ⟨x5, hx5⟩ : ∃ x, x = w3.heap.size := ⟨_, rfl⟩
  rw [← hx5] at HX
  have hx5' := Lib.hid hx5
  have hbx : w.heap.size ≤ x5 := by rw [hx5]; exact Nat.le_trans B3.out.size hb3.size
  clear own3 hb3 p3 C3 HP2 B3
  simp only [List.length_cons, List.length_nil]
  go_wp2_with (fail)
  have hz4 : Hid ((w3.alloc (.cells #[.int .i64 1, .slice a3 1 c3] 27)).heap.size = x5 + 1) := by show _ = _; simp [hx5]
  rw [← hx5]
  generalize w3.alloc (.cells #[.int .i64 1, .slice a3 1 c3] 27) = w4 at *
  clear hx5 hx5'
  have B5 : Hid (Below w.heap.size w (w4.alloc (.cells #[.int .u8 0] 5))) := B4.out.alloc B4.out.size _
  have C4 := next_any ⟨some ⟨x5 + 1, 0, none⟩, [0], 1⟩ (w4.alloc (.cells #[.int .u8 0] 5)) (b_part w4 (z := 0) (by omega) hz4.out.symm) (tab_below HT.out B5.out) (by simp)
  simp only [List.length_cons, List.length_nil] at C4
  refine C4.mono ?_
  clear C4
  rintro e w5 ⟨v5, rfl, own5, hb5⟩
  rw [short_one (z := 0) (by omega)] at own5 ⊢
  simp only at own5 ⊢
  obtain ⟨a5, n5, c5, rfl⟩ := own5.val
  have hb45 : Below w4.heap.size w4 (w5.alloc (.cells #[.int .i64 0, .slice a5 n5 c5] 27)) := (((Below.refl _ _).alloc (Nat.le_refl _) _).trans (hb5.mono (by simp))).alloc (Nat.le_trans (by simp) hb5.size) _
  have B6 : Hid (Below w.heap.size w (w5.alloc (.cells #[.int .i64 0, .slice a5 n5 c5] 27))) := B4.out.trans (hb45.mono B4.out.size)
  have HX6 : Hid (Blk2 (w5.alloc (.cells #[.int .i64 0, .slice a5 n5 c5] 27)) x5 [.int .i64 1, .slice a3 1 c3]) := HX.out.trans' (hb45.block _ (by rw [hz4.out]; omega))
  have HP5 : Hid ((⟨a3, [97], c3⟩ : Part).ok (w5.alloc (.cells #[.int .i64 0, .slice a5 n5 c5] 27))) := HP3.out.below hb45
  have HP6 : Hid ((⟨a1, aw, c1⟩ : Part).ok (w5.alloc (.cells #[.int .i64 0, .slice a5 n5 c5] 27))) := HP4.out.below hb45
  clear own5 hb5 hb45 HX HP3 HP4 B4 B5 hz4
  obtain ⟨w6, hw6⟩ : ∃ w6, w6 = w5.alloc (.cells #[.int .i64 0, .slice a5 n5 c5] 27) := ⟨_, rfl⟩
  rw [← hw6] at B6 HX6 HP5 HP6
  have hown0 : Own (w6.alloc (.cells #[] 5)) w6.heap.size (.slice (some ⟨w6.heap.size, 0, none⟩) 0 0) [] := own_new w6
  obtain ⟨v7, w7, run7, own7, hb7, -⟩ := grow_row ((Below.refl _ _).alloc (Nat.le_refl _) _) hown0 a1 aw c1 ((HP6.out.alloc _).at_) (by rw [aw_len]; decide)
  rw [List.nil_append] at own7
  obtain ⟨a7, c7, rfl, -, -, -⟩ := own7.part aw_are
  have hp8 := b_part w7 (z := 5) (by omega) rfl
  obtain ⟨v8, w8, run8, own8, hb8, -⟩ := grow_row (hb7.alloc hb7.size _) (own7.below ((Below.refl _ _).alloc (Nat.le_refl _) (.cells #[.int .u8 ((5 : Nat) : Int)] 5))) (some ⟨w7.heap.size, 0, none⟩) [5] 1 hp8.at_ (by rw [aw_len]; decide)
  have hare8 : AreBytes (aw ++ [5]) := aw_are.append (fun z hz => by simp at hz; omega)
  obtain ⟨a8, c8, rfl, hp8', -, -⟩ := own8.part hare8
  rw [aw_len] at run7 run8
  have hl8 : (aw ++ [5]).length = 8 := by rw [List.length_append, aw_len]; rfl
  rw [hl8] at run8
  have B8 : Hid (Below w.heap.size w w8) := B6.out.trans (hb8.mono B6.out.size)
  have HX8 : Hid (Blk2 w8 x5 [.int .i64 1, .slice a3 1 c3]) := HX6.out.trans' (hb8.block _ (by have := World.block_lt_of_cell? w6 _ (HX6.out.cell2 0); exact this))
  have HP7 : Hid ((⟨a3, [97], c3⟩ : Part).ok w8) := HP5.out.below hb8
  have HP8 : Hid ((⟨a1, aw, c1⟩ : Part).ok w8) := HP6.out.below hb8
  have C5 := all_any ⟨a8, aw ++ [5], c8⟩ w8 hp8' (tab_below HT.out B8.out) (by simp only [hl8]; omega)
  simp only [hl8] at C5
  have C5 := Lib.hid C5
  rw [hw6, show (w5.alloc (.cells #[.int .i64 0, .slice a5 n5 c5] 27)).heap.size = w5.heap.size + 1 by simp] at run7
  clear hown0 own7 hb7 hp8 own8 hb8 hp8' hl8 hare8 HX6 HP5 HP6 B6
  subst hw6
  go_wp2_with (at_builtin; first | refine wpList_append_run rfl _ _ 25 25 25 rfl rfl _ _ _ _ rfl rfl run7 ?_ | refine wpList_append_run rfl _ _ 25 25 25 rfl rfl _ _ _ _ rfl rfl run8 ?_)
  refine C5.out.mono ?_
  rintro e w9 ⟨l9, v9, rfl, own9, -, hm9, hb9⟩
  rw [aw_all] at hm9 ⊢
  have hl9 : l9.length = 1 := by simpa using congrArg List.length hm9
  obtain ⟨a9, c9, rfl, -, -⟩ := own9.row
  rw [hl9]
  have B9 : Hid (Below w.heap.size w w9) := B8.out.trans (hb9.mono B8.out.size)
  have HX9 : Hid (Blk2 w9 x5 [.int .i64 1, .slice a3 1 c3]) := HX8.out.trans' (hb9.block _ (by have := World.block_lt_of_cell? w8 _ (HX8.out.cell2 0); exact this))
  have HP9 : Hid ((⟨a3, [97], c3⟩ : Part).ok w9) := HP7.out.below hb9
  have hp1 : (⟨a1, aw, c1⟩ : Part).ok w9 := HP8.out.below hb9
  have hcv := conv_str w9 a1 (aw.take 3) c1 (hp1.at_.take 3)
  rw [aw_take] at hcv
  have hc7 : (7 : Int) ≤ (c1 : Int) := by have := hp1.room; simp only [aw_len] at this; omega
  have hcm : (c1 : Int) ≤ 9223372036854775807 := by have := hp1.max; unfold maxLen at this; simp only at this; omega
  obtain ⟨g1, o1, ha1, -⟩ := hp1.at_ (by simp only [aw_len]; omega)
  simp only at ha1
  subst ha1
  have x0 : w9.cell? ⟨x5, 0, none⟩ = some (.int .i64 1) := HX9.out.cell2 0
  have x1 : w9.cell? ⟨x5, 1, none⟩ = some (.slice a3 1 c3) := HX9.out.cell2 1
  have hx5l : x5 < w9.heap.size := World.block_lt_of_cell? w9 _ x0
  have E1 := Lib.hid (requal_yes ⟨1, ⟨a3, [97], c3⟩⟩ ⟨1, ⟨some ⟨w9.heap.size, 0, none⟩, [97], 1⟩⟩ (w9.alloc (.cells #[.int .u8 97] 5 (1, 2))) (HP9.out.alloc _) (a_part w9 rfl) ⟨rfl, rfl⟩)
  have hs1 : sizeI 1 = 7 := by unfold sizeI; rw [if_neg (by omega)]; simp [uint_small]
  have E2 := Lib.hid (fun w => size_any 1 w (by omega) (by omega))
  rw [hs1] at E2
  clear hm9 hl9 own9 hb9 hp1 HX8 HP7 HP8 B8 C5 run7 run8 hs1
  simp only [List.length_cons, List.length_nil] at hcv ⊢
  have hts := aw_text
  go_wp2_with (fail)
  refine E1.out.mono ?_
  clear E1 hts hcv
  rintro e w10 ⟨rfl, hb10⟩
  have hb910 : Below w9.heap.size w9 w10 := ((Below.refl _ _).alloc (Nat.le_refl _) _).trans (hb10.mono (by simp))
  have B10 : Hid (Below w.heap.size w w10) := B9.out.trans (hb910.mono B9.out.size)
  have HX10 : Hid (Blk2 w10 x5 [.int .i64 1, .slice a3 1 c3]) := HX9.out.trans' (hb910.block _ hx5l)
  have HP10 : Hid ((⟨a3, [97], c3⟩ : Part).ok w10) := HP9.out.below hb910
  clear hb10 hb910 x0 x1 hx5l HX9 HP9 B9
  go_wp2_with (fail)
  refine (E2.out _).mono ?_
  rintro e w11 ⟨rfl, hb11⟩
  have B11 : Hid (Below w.heap.size w w11) := B10.out.trans (hb11.mono B10.out.size)
  have HX11 : Hid (Blk2 w11 x5 [.int .i64 1, .slice a3 1 c3]) := HX10.out.trans' (hb11.block _ (by have := World.block_lt_of_cell? w10 _ (HX10.out.cell2 0); exact this))
  have HP11 : Hid ((⟨a3, [97], c3⟩ : Part).ok w11) := HP10.out.below hb11
  have x0 : w11.cell? ⟨x5, 0, none⟩ = some (.int .i64 1) := HX11.out.cell2 0
  have x1 : w11.cell? ⟨x5, 1, none⟩ = some (.slice a3 1 c3) := HX11.out.cell2 1
  have E3 := Lib.hid (requal_no ⟨1, ⟨a3, [97], c3⟩⟩ ⟨0, ⟨none, [], 0⟩⟩ w11 HP11.out (part_nil _) (by simp))
  clear hb11 HX10 HP10 B10
  go_wp2_with (fail)
  refine E3.out.mono ?_
  rintro e w12 ⟨rfl, hb12⟩
  have B12 : Hid (Below w.heap.size w w12) := B11.out.trans (hb12.mono B11.out.size)
  clear hb12 E3
  go_wp2_with (fail)
  go_ret
  exact ⟨rfl, B12.out⟩
end Go.Proofs.YtoipokjoklhfjaaDoor
