/-
  The fixed answers.
-/
import Derived.Test.YtbopijlacdkpeaaCoK
namespace Go.Proofs.Ytbopijlacdkpeaa
open Go.RowKit numb

theorem out_int_laid (b : Nat) (v : Value) (l : List Nat) (ns : List Int) (cs : Array Value) (hcs : cs = (ns.map eI).toArray) (f : Nat × Nat) (n c : Nat) (hn : n = ns.length) (w : World) (g : Nat) (hg : g = w.heap.size) (h : OutAt w b v l) (hU : ∀ n ∈ ns, I64 n) (hc : ns.length ≤ 1099511627) (hsz : l.length + 10 * ns.length ≤ 1099511627776) :
    Calls Try.prog 9 #[.pointer (some ⟨b, 0, none⟩), .slice (some ⟨g, 0, none⟩) n c] (w.alloc (.cells cs 3 f)) fun e w' => e = .returned (.tuple #[]) ∧ ∃ v', OutAt w' b v' (l ++ ns.flatMap fun n => uint (zig n)) ∧ OutStep b v w v' w' := by
  subst hn hg
  refine (out_int_any b v l (some ⟨w.heap.size, 0, none⟩) ns c _ (h.alloc _) (row_laid eI w ns cs hcs _ f) (far_laid h _) hU hc hsz).mono ?_
  rintro e w' ⟨he, v', h1, h2⟩
  exact ⟨he, v', h1, (OutStep.below ((Below.refl _ _).alloc (Nat.le_refl _) _)).trans h2⟩
theorem out_bool_laid (b : Nat) (v : Value) (l : List Nat) (ns : List Bool) (cs : Array Value) (hcs : cs = (ns.map Value.bool).toArray) (f : Nat × Nat) (n c : Nat) (hn : n = ns.length) (w : World) (g : Nat) (hg : g = w.heap.size) (h : OutAt w b v l) (hc : ns.length ≤ 1099511627) (hsz : l.length + ns.length ≤ 1099511627776) :
    Calls Try.prog 10 #[.pointer (some ⟨b, 0, none⟩), .slice (some ⟨g, 0, none⟩) n c] (w.alloc (.cells cs 4 f)) fun e w' => e = .returned (.tuple #[]) ∧ ∃ v', OutAt w' b v' (l ++ ns.map bit) ∧ OutStep b v w v' w' := by
  subst hn hg
  refine (out_bool_any b v l (some ⟨w.heap.size, 0, none⟩) ns c _ (h.alloc _) (row_laid Value.bool w ns cs hcs _ f) (far_laid h _) hc hsz).mono ?_
  rintro e w' ⟨he, v', h1, h2⟩
  exact ⟨he, v', h1, (OutStep.below ((Below.refl _ _).alloc (Nat.le_refl _) _)).trans h2⟩
theorem out_uint_laid' (b : Nat) (v : Value) (l : List Nat) (ns : List Nat) (cs : Array Value) (hcs : cs = (ns.map eU).toArray) (f : Nat × Nat) (n c : Nat) (hn : n = ns.length) (w : World) (g : Nat) (hg : g = w.heap.size) (h : OutAt w b v l) (hU : ∀ n ∈ ns, U64 n) (hc : ns.length ≤ 1099511627) (hsz : l.length + 10 * ns.length ≤ 1099511627776) :
    Calls Try.prog 8 #[.pointer (some ⟨b, 0, none⟩), .slice (some ⟨g, 0, none⟩) n c] (w.alloc (.cells cs 27 f)) fun e w' => e = .returned (.tuple #[]) ∧ ∃ v', OutAt w' b v' (l ++ ns.flatMap uint) ∧ OutStep b v w v' w' := by
  subst hg
  exact out_uint_laid b v l ns cs hcs f n c hn w h hU hc hsz
/-- a new Out -/
theorem out_new (w : World) : OutAt (w.alloc (.cells #[.slice none 0 0] 26)) w.heap.size (.slice none 0 0) [] :=
  ⟨cell_of_row _ _ 0 _ _ _ (heap_alloc_new w _), frozen_new _ _ _ _, own_nil _ _, by simp [Value.ownBlock]⟩

theorem out_new' (w : World) (g : Nat) (hg : g = w.heap.size) : OutAt (w.alloc (.cells #[.slice none 0 0] 26)) g (.slice none 0 0) [] := by
  subst hg
  exact out_new w
theorem nil_own (k : Nat) : (Value.slice none 0 0).ownBlock ≠ some k := by simp [Value.ownBlock]
theorem uint_300 : [300, 0].flatMap uint = [172, 2, 0] := by
  simp only [List.flatMap_cons, List.flatMap_nil, uint_big (v := 300) (by omega), uint_small (v := 300 / 128) (by omega), uint_small (v := 0) (by omega)]
  rfl
theorem int_1 : ([(-1 : Int)].flatMap fun n => uint (zig n)) = [1] := by
  simp only [List.flatMap_cons, List.flatMap_nil, show zig (-1) = 1 from rfl, uint_small (v := 1) (by omega)]
  rfl
def ab : ByteArray := ⟨#[97, 98]⟩
theorem ab_size : ab.size = 2 := rfl
theorem ab_le : ab.size ≤ 1099511627 := by rw [ab_size]; omega
theorem ab_le2 : ([172, 2, 0] ++ [1] ++ [true].map bit).length + 10 + ab.size ≤ 1099511627776 := by rw [ab_size]; simp
theorem text_ab : text (natsOf ab) = [2, 97, 98] := by
  unfold text
  rw [show natsOf ab = [97, 98] from rfl, show [97, 98].length = 2 from rfl, uint_small (by omega)]
  rfl

def all8 : List Nat := [172, 2, 0, 1, 1, 2, 97, 98]
theorem ev_uint : St.uint ⟨all8, 0⟩ = (⟨[0, 1, 1, 2, 97, 98], 0⟩, 300) := by rfl
theorem ev_below : St.below ⟨[0, 1, 1, 2, 97, 98], 0⟩ 0 = (⟨[1, 1, 2, 97, 98], 0⟩, 0) := by rfl
theorem ev_int : St.int ⟨[1, 1, 2, 97, 98], 0⟩ = (⟨[1, 2, 97, 98], 0⟩, -1) := by rfl
theorem ev_bool : St.bool ⟨[1, 2, 97, 98], 0⟩ = (⟨[2, 97, 98], 0⟩, true) := by rfl
theorem ev_below2 : St.below ⟨[2, 97, 98], 0⟩ 2 = (⟨[97, 98], 0⟩, 2) := by rfl
theorem ev_text : St.text ⟨[2, 97, 98], 0⟩ 2 = (⟨[], 0⟩, [97, 98]) := by rfl
theorem ev_fin : St.fin ⟨[], 0⟩ = 0 := by rfl
theorem ev_bad : St.uint ⟨[128, 0], 0⟩ = (⟨[], 10⟩, 0) := by rfl
theorem all8_are : AreBytes all8 := by unfold AreBytes all8; decide
theorem bad_are : AreBytes [128, 0] := by unfold AreBytes; decide

set_option maxHeartbeats 1000000 in
theorem awake_any (w : World) :
    Calls Try.prog 7 #[] w fun e w' => e = .returned (.bool true) ∧ Below w.heap.size w w' := by
  go_enter Try.func7, Try.ntmps7
  go_wp2_with (fail)
  refine (out_uint_laid' w.heap.size _ [] [300, 0] _ rfl (0, 0) 2 2 rfl _ _ (by simp) (out_new w) (fun n hn => by simp at hn; unfold U64; omega) (by simp) (by simp)).mono ?_
  rintro e w1 ⟨rfl, v1, o1, s1⟩
  rw [uint_300] at o1
  have O1 := Lib.hid o1
  have S1 := Lib.hid s1
  clear o1 s1
  go_wp2_with (fail)
  refine (out_int_laid w.heap.size v1 _ [-1] _ rfl (0, 0) 1 1 rfl _ _ rfl O1.out (fun n hn => by simp at hn; unfold I64; omega) (by simp) (by simp)).mono ?_
  rintro e w2 ⟨rfl, v2, o2, s2⟩
  rw [int_1] at o2
  have O2 := Lib.hid o2
  have S2 := Lib.hid (S1.out.trans s2)
  clear o2 s2 O1 S1
  go_wp2_with (fail)
  refine (out_bool_laid w.heap.size v2 _ [true] _ rfl (0, 0) 1 1 rfl _ _ rfl O2.out (by simp) (by simp)).mono ?_
  rintro e w3 ⟨rfl, v3, o3, s3⟩
  have O3 := Lib.hid o3
  have S3 := Lib.hid (S2.out.trans s3)
  clear o3 s3 O2 S2
  go_wp2_with (fail)
  refine (out_text_any w.heap.size v3 _ ab _ O3.out ab_le ab_le2).mono ?_
  rintro e w4 ⟨rfl, v4, o4, s4⟩
  rw [text_ab] at o4
  have O4 : Hid (OutAt w4 w.heap.size v4 all8) := o4
  have B4 : Hid (Below w.heap.size w w4) := ((Below.refl _ _).alloc (Nat.le_refl _) _).trans ((S3.out.trans s4).to_below (by simp) (Nat.le_refl _) (fun g hg => by simp [Value.ownBlock] at hg))
  clear o4 s4 O3 S3
  go_wp2_with (fail)
  refine (out_bytes_any w.heap.size v4 _ w4 O4.out all8_are (by simp [all8])).mono ?_
  rintro e w5 ⟨v5, rfl, own5, hb5⟩
  obtain ⟨a5, c5, rfl, hp5, _, _⟩ := own5.part all8_are
  have hat5 := hp5.at_
  simp only at hat5
  have O5 := Lib.hid (O4.out.below hb5)
  have B5 := Lib.hid (B4.out.trans (hb5.mono B4.out.size))
  clear own5 hb5 O4 B4 hp5
  go_wp2_with (fail)
  refine (newin_any a5 all8 c5 w5 hat5 all8_are (by simp [all8])).mono ?_
  rintro e w6 ⟨bi, rfl, hbi, in6, hb6⟩
  have O6 := Lib.hid (O5.out.below hb6)
  have B6 := Lib.hid (B5.out.trans (hb6.mono B5.out.size))
  have I6 := Lib.hid in6
  have hwi : w.heap.size ≤ bi := Nat.le_trans B5.out.size hbi
  have hlo := Lib.hid hbi
  clear in6 hb6 O5 B5 hat5 hbi
  simp only [In]
  go_wp2_with (fail)
  refine (newin_any (some ⟨w6.heap.size, 0, none⟩) [128, 0] 2 _ (row_laid e8 w6 [128, 0] _ rfl _ (0, 0)) bad_are (by simp)).mono ?_
  rintro e w7 ⟨bj, rfl, hbj, in7, hb7⟩
  have hb7' : Below w6.heap.size w6 w7 := ((Below.refl _ _).alloc (Nat.le_refl _) _).trans (hb7.mono (by simp))
  obtain ⟨lj, hl1, hl2, in7⟩ : ∃ lj, w6.heap.size ≤ lj ∧ lj ≤ bj ∧ InAt w7 lj bj ⟨[128, 0], 0⟩ := ⟨_, by simp, hbj, in7⟩
  have hbj6 : w6.heap.size ≤ bj := Nat.le_trans hl1 hl2
  have hib : bi < w6.heap.size := I6.out.lt
  have O7 := Lib.hid (O6.out.below hb7')
  have B7 := Lib.hid (B6.out.trans (hb7'.mono B6.out.size))
  have I7 := Lib.hid (I6.out.below hlo.out hb7')
  have J7 := Lib.hid in7
  have hbj' := Lib.hid hl2
  have B6s := Lib.hid B6.out.size
  have hlt : Hid (bi < w6.heap.size ∧ w6.heap.size ≤ bj) := ⟨hib, hbj6⟩
  have hsz6 := Lib.hid hl1
  clear in7 hb7 hb7' hbj hl1 hl2 O6 B6 I6 hib hbj6
  simp only [In]
  go_wp2_with (fail)
  refine (out_bytes_any w.heap.size v4 _ w7 O7.out all8_are (by simp [all8])).mono ?_
  rintro e w8 ⟨v8, rfl, own8, hb8⟩
  obtain ⟨a8, c8, rfl, hp8, _, _⟩ := own8.part all8_are
  have hcv := conv_str w8 a8 all8 c8 hp8.at_
  rw [show all8.length = 8 from rfl] at hcv ⊢
  have B8 := Lib.hid (B7.out.trans (hb8.mono B7.out.size))
  have I8 := Lib.hid (I7.out.below hlo.out hb8)
  have J8 := Lib.hid (J7.out.below hbj'.out hb8)
  have es : strOf all8 = ⟨#[172, 2, 0, 1, 1, 2, 97, 98]⟩ := rfl
  rw [es] at hcv
  clear own8 hb8 O7 B7 I7 J7 hp8 es
  go_wp2_with (fail)
  refine (in_uint_any _ bi _ w8 I8.out).mono ?_
  rintro e w9 ⟨rfl, p1, p2⟩
  rw [ev_uint] at p1 ⊢
  have B9 := Lib.hid (B8.out.trans (p2.to_below B8.out.size hwi))
  have J9 := Lib.hid (J8.out.other hbj'.out p2 (.inl (Nat.lt_of_lt_of_le hlt.out.1 hsz6.out)))
  have I9 := Lib.hid p1
  clear p1 p2 B8 I8 J8
  simp only
  go_wp2_with (fail)
  refine (in_below_any _ bi _ 0 w9 I9.out (by unfold I64; omega)).mono ?_
  rintro e w10 ⟨rfl, p1, p2⟩
  rw [ev_below] at p1 ⊢
  have B10 := Lib.hid (B9.out.trans (p2.to_below B9.out.size hwi))
  have J10 := Lib.hid (J9.out.other hbj'.out p2 (.inl (Nat.lt_of_lt_of_le hlt.out.1 hsz6.out)))
  have I10 := Lib.hid p1
  clear p1 p2 B9 I9 J9
  simp only
  go_wp2_with (fail)
  refine (in_int_any _ bi _ w10 I10.out (by unfold U64; decide)).mono ?_
  rintro e w11 ⟨rfl, p1, p2⟩
  rw [ev_int] at p1 ⊢
  have B11 := Lib.hid (B10.out.trans (p2.to_below B10.out.size hwi))
  have J11 := Lib.hid (J10.out.other hbj'.out p2 (.inl (Nat.lt_of_lt_of_le hlt.out.1 hsz6.out)))
  have I11 := Lib.hid p1
  clear p1 p2 B10 I10 J10
  simp only
  go_wp2_with (fail)
  refine (in_bool_any _ bi _ w11 I11.out).mono ?_
  rintro e w12 ⟨rfl, p1, p2⟩
  rw [ev_bool] at p1 ⊢
  have B12 := Lib.hid (B11.out.trans (p2.to_below B11.out.size hwi))
  have J12 := Lib.hid (J11.out.other hbj'.out p2 (.inl (Nat.lt_of_lt_of_le hlt.out.1 hsz6.out)))
  have I12 := Lib.hid p1
  clear p1 p2 B11 I11 J11
  simp only
  go_wp2_with (fail)
  refine (in_text_any _ bi _ 2 w12 I12.out (by unfold I64; omega) (by rw [ev_below2]; unfold I64; simp)).mono ?_
  rintro e w13 ⟨rfl, p1, p2⟩
  rw [ev_text] at p1 ⊢
  have B13 := Lib.hid (B12.out.trans (p2.to_below B12.out.size hwi))
  have J13 := Lib.hid (J12.out.other hbj'.out p2 (.inl (Nat.lt_of_lt_of_le hlt.out.1 hsz6.out)))
  have I13 := Lib.hid p1
  clear p1 p2 B12 I12 J12
  simp only
  rw [show strOf [97, 98] = ⟨#[97, 98]⟩ from rfl]
  go_wp2_with (fail)
  refine (in_end_any _ bi _ w13 I13.out).mono ?_
  rintro e w14 ⟨rfl, rfl⟩
  rw [ev_fin]
  go_wp2_with (fail)
  refine (in_uint_any _ bj _ w13 J13.out).mono ?_
  rintro e w14 ⟨rfl, p1, p2⟩
  rw [ev_bad] at p1 ⊢
  have B14 := Lib.hid (B13.out.trans (p2.to_below B13.out.size (Nat.le_trans B6s.out hlt.out.2)))
  have J14 := Lib.hid p1
  clear p1 p2 B13 I13 J13
  simp only
  go_wp2_with (fail)
  refine (in_err_any _ bj _ w14 J14.out).mono ?_
  rintro e w15 ⟨rfl, rfl⟩
  simp only
  go_wp2_with (fail)
  go_ret
  exact ⟨rfl, B14.out⟩
end Go.Proofs.Ytbopijlacdkpeaa
