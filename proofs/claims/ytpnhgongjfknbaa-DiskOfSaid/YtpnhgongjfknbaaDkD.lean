/-
  The contracts of a disk's names, of bytes told anew, of Read, List, Size.
-/
import Derived.Test.YtpnhgongjfknbaaDkC
import Derived.Test.YtpnhgongjfknbaaDkIter
import Derived.BigQuiet
import Derived.Lib.SliceRun
namespace Go.Proofs.Ytpnhgongjfknbaa
open Go.RowKit omap

/-- a slice of the call's own is a row -/
theorem row_of_own {α : Type} {enc : α → Value} {w : World} {base : Nat} {T : TypeId} {v : Value} {l : List α} (h : w.ownsRow base T 1 v l.length (l.map enc)) :
    ∃ a c, v = .slice a l.length c ∧ l.length ≤ c ∧ c ≤ maxLen ∧ Row enc w a l ∧ ∀ x, a = some x → base ≤ x.block := by
  rcases h.2 with ⟨rfl, h0⟩ | ⟨g, cap, cur, rfl, hg, hgg, hlc, hcm, hcs, htake⟩
  · exact ⟨none, 0, by rw [h0], by omega, by simp [maxLen], Row.none_ h0, fun x hx => by cases hx⟩
  · refine ⟨some ⟨g, 0, none⟩, cap, rfl, hlc, hcm, fun _ => ⟨g, 0, rfl, fun j hj => ?_⟩, fun x hx => by cases hx; exact hg⟩
    have := World.ownsRow.cells h (g := g) rfl j (enc l[j]) (by simp [hj])
    have hadd : (⟨g, 0, none⟩ : Addr).add j = ⟨g, 0 + j, none⟩ := by unfold Addr.add; split <;> simp_all
    rw [hadd] at this
    exact this
abbrev eS : Nm → Value := encStr
theorem names_any (b m : Nat) (p : Pw) (cap used : Nat) (es : Es) (w : World) (h : Raw w b m p cap used es) :
    Calls Try.prog 41 #[.pointer (some ⟨b, 0, none⟩)] w fun e w' => ∃ a c, e = .returned (.slice a es.length c) ∧ es.length ≤ c ∧ c ≤ maxLen ∧ Row eS w' a (es.map (·.1)) ∧ (∀ x, a = some x → w.heap.size ≤ x.block) ∧ Below w.heap.size w w' := by
  obtain ⟨_, _, _, _, _, c5⟩ := h.cells
  have hlen : (bl es).length = es.length := mapv_length _ _
  have hfew := h.map.few
  have H := Lib.hid h
  have hsz : Maps.size (mapOf (bl es)) = es.length := by rw [size_mapOf, hlen]
  have hK := callsIn_wide.1 (sorted_keys_of m (bl es).length (mapOf (bl es)) ptrElem w h.map.own (by rw [hsz]; unfold maxLen; omega) (by rw [hsz]; omega))
  clear h
  go_enter Try.func41, Try.ntmps41
  go_wp2_with (fail)
  refine (callsIn_wide.1 (maps_keys (some m) w)).mono ?_
  rintro e w1 ⟨rfl, rfl⟩
  go_wp2_with (fail)
  refine hK.mono ?_
  rintro e w2 ⟨v, ss, rfl, hp, hrow, _, hb⟩
  rw [sorted_keys H.out.map.rises hp] at hrow
  have hn : ss.length = ((bl es).map (·.1)).length := by rw [hp.length_eq, strKeys_mapOf]
  rw [hn] at hrow
  obtain ⟨a, c, rfl, h1, h2, h3, h5⟩ := row_of_own hrow
  have H5 : Hid (∀ x, a = some x → w.heap.size ≤ x.block) := fun x hx => Nat.le_trans (by simp) (h5 x hx)
  have he : (bl es).map (·.1) = es.map (·.1) := by
    unfold bl mapv
    rw [List.map_map]
    rfl
  rw [he] at h1 h3
  rw [he, List.length_map]
  rw [List.length_map] at h1
  have HB := Lib.hid (((Below.refl w.heap.size w).alloc (Nat.le_refl _) _).trans (hb.mono (by simp)))
  have H1 := Lib.hid h1
  have H3 := Lib.hid h3
  clear hrow hn he hp hb hK h1 h3 h5
  go_wp2_with (fail)
  go_ret
  exact ⟨a, c, rfl, H1.out, h2, H3.out, H5.out, HB.out⟩
theorem list_down (b m : Nat) (p : Pw) (cap used : Nat) (es : Es) (w : World) (h : Raw w b m p cap used es) (hd : p.down = true) :
    Calls Try.prog 19 #[.pointer (some ⟨b, 0, none⟩)] w fun e w' => e = .returned (.slice none 0 0) ∧ w = w' := by
  obtain ⟨_, _, c2, _⟩ := h.cells
  rw [hd] at c2
  clear h hd
  go_enter Try.func19, Try.ntmps19
  go_wp2_with (fail)
  go_ret
  exact ⟨rfl, rfl⟩
theorem list_any (b m : Nat) (p : Pw) (cap used : Nat) (es : Es) (w : World) (h : Raw w b m p cap used es) (hd : p.down = false) :
    Calls Try.prog 19 #[.pointer (some ⟨b, 0, none⟩)] w fun e w' => ∃ a c, e = .returned (.slice a es.length c) ∧ es.length ≤ c ∧ c ≤ maxLen ∧ Row eS w' a (es.map (·.1)) ∧ (∀ x, a = some x → w.heap.size ≤ x.block) ∧ Below w.heap.size w w' := by
  obtain ⟨_, _, c2, _⟩ := h.cells
  rw [hd] at c2
  have H := Lib.hid h
  clear h hd
  go_enter Try.func19, Try.ntmps19
  go_wp2_with (fail)
  refine (names_any b m p cap used es w H.out).mono ?_
  rintro e w1 ⟨a, c, rfl, h1, h2, h3, h5, h4⟩
  have H5 := Lib.hid h5
  have H1 := Lib.hid h1
  have H3 := Lib.hid h3
  have H4 := Lib.hid h4
  clear h1 h3 h4 h5
  go_wp2_with (fail)
  go_ret
  exact ⟨a, c, rfl, H1.out, h2, H3.out, H5.out, H4.out⟩

/-! ### Bytes told anew -/
set_option maxHeartbeats 1000000 in
theorem clone_any (a : Option Addr) (l : List Nat) (c : Nat) (w : World) (hl : Bs w a l) (hsz : l.length ≤ 1099511627776) (hn : a = none → c = 0) :
    Calls Try.prog 44 #[.slice a l.length c] w fun e w' => ∃ v', e = .returned v' ∧ Own w' w.heap.size v' l ∧ Below w.heap.size w w' := by
  have q : ∀ (w : World) (a : Option Addr) (n c : Nat), (binOp .eql 35 (.slice a n c) (.slice none 0 0)).run Try.prog w = .ok (.bool a.isNone) w := fun w a n c => Lib.run_eql_slice_nil w _ _ a n c 0 0 Try.underlying35
  cases a with
  | none =>
    have h0 : l.length = 0 := by
      rcases Nat.eq_zero_or_pos l.length with h | h
      · exact h
      · obtain ⟨_, _, e, _⟩ := hl h
        cases e
    obtain rfl : l = [] := List.eq_nil_of_length_eq_zero h0
    obtain rfl := hn rfl
    clear hl hsz hn h0
    show Calls _ _ #[.slice none 0 0] _ _
    go_enter Try.func44, Try.ntmps44
    go_wp2_with (fail)
    go_ret
    exact ⟨_, rfl, own_nil _ _, Below.refl _ _⟩
  | some x =>
    have hb0 := (Below.refl w.heap.size w).alloc (Nat.le_refl _) (.cells #[] 5)
    obtain ⟨v', w1, run, own, hg, _⟩ := app_row (w.alloc (.cells #[] 5)) w.heap.size _ [] (own_new w) (some x) l c (hl.below hb0) (by simpa using hsz) (by simp)
    have hb1 := hb0.grown hg (by simp) (fun k hk => by simp [Value.ownBlock] at hk; omega)
    obtain ⟨a', n', c', rfl⟩ := own.val
    have H1 := Lib.hid hb1
    have H2 := Lib.hid own
    clear hl hsz hn hb0 own hg hb1
    simp only [List.nil_append] at H2
    go_enter Try.func44, Try.ntmps44
    go_wp2_with (at_builtin; refine wpList_append_run rfl _ _ 35 35 35 rfl rfl _ _ _ _ rfl rfl run ?_)
    go_ret
    exact ⟨_, rfl, H2.out, H1.out⟩
end Go.Proofs.Ytpnhgongjfknbaa
