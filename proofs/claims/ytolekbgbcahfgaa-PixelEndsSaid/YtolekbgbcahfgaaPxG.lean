/-
  Layer 9: slices of pixels of the call's own; regions that write one block whole.
-/
import Derived.Test.YtolekbgbcahfgaaPxOpen
namespace Go.Proofs.Ytolekbgbcahfgaa
open Go.RowKit pxm

def ep (p : P4) : List Value := [.int .u32 (p.num : Nat)]
theorem ep_len (p : P4) : (ep p).length = 1 := rfl
theorem ep_plain (p : P4) : ∀ u ∈ ep p, u.oneCell' = true := by
  intro u hu
  simp only [ep, List.mem_singleton] at hu
  subst hu
  rfl
abbrev POwn (w : World) (base : Nat) (v : Value) (l : List P4) : Prop := SOwn 24 1 ep w base v l
theorem info_px : (Try.prog.info? 24).map (fun i => (i.zero, i.size, i.bytes)) = some (some (.int .u32 0), 1, 4) := by kernel_rfl
theorem POwn.prow {w : World} {base : Nat} {v : Value} {l : List P4} (h : POwn w base v l) : ∃ A c, v = .slice A l.length c ∧ l.length ≤ c ∧ c ≤ maxLen ∧ Row eP w A l := by
  obtain ⟨A, c, h1, h2, h3, h4⟩ := h.row ep_len
  refine ⟨A, c, h1, h2, h3, fun hn => ?_⟩
  obtain ⟨b, off, e, hc⟩ := h4 hn
  refine ⟨b, off, e, fun j hj => ?_⟩
  have := hc j hj 0 _ rfl
  rw [Nat.mul_one, Nat.add_zero] at this
  exact this
theorem srow_of {w : World} {A : Option Addr} {l : List P4} (h : Row eP w A l) : SRow 1 ep w A l := fun hn => by
  obtain ⟨b, off, e, hc⟩ := h hn
  refine ⟨b, off, e, fun j hj i v hi => ?_⟩
  have : i = 0 := by
    have := (List.getElem?_eq_some_iff.1 hi).1
    rw [ep_len] at this
    omega
  subst this
  have hv : v = eP l[j] := (Option.some.inj hi).symm
  rw [hv, Nat.mul_one, Nat.add_zero]
  exact hc j hj
/-- append of one pixel that was built as a row -/
theorem app_px {w : World} {base : Nat} {v : Value} {l : List P4} (h : POwn w base v l) (d : P4) (hn : l.length ≤ 900000000) (hbase : base ≤ w.heap.size) :
    ∃ v' w', (Builtin.append_ #[39, 39] 39 #[v, .slice (some ⟨w.heap.size, 0, none⟩) 1 1]).run Try.prog (w.alloc (.cells #[.int .u32 (d.num : Nat)] 24)) = .ok v' w' ∧ POwn w' base v' (l ++ [d]) ∧
      (w.alloc (.cells #[.int .u32 (d.num : Nat)] 24)).grownBy w' v.ownBlock :=
  let ⟨v', w', h1, h2, h3, _⟩ := SOwn.app (P := Try.prog) (xs := [d]) (c := 1) (g := w.heap.size) (o := 0) Try.underlying39 info_px rfl (by decide) (by decide) ep_len ep_plain
    (h.below ((Below.refl _ _).alloc (Nat.le_refl _) (.cells #[.int .u32 (d.num : Nat)] 24))) (fun _ => srow_new (enc := ep) ep_len w [d] _ rfl) (by simp; omega) (by simp; omega)
  ⟨v', w', h1, h2, h3⟩
theorem grown_of_below {w w' : World} (h : Below w.heap.size w w') (row : Option Nat) : w.grownBy w' row := ⟨h.os, h.tape, h.output, h.size, fun k hk _ => h.block k hk⟩
theorem below_grown {W w w' : World} {g : Nat} (h : Below W.heap.size W w) (hg : w.grownBy w' (some g)) (hW : W.heap.size ≤ g) : Below W.heap.size W w' := h.grown hg h.size (fun j hj => by cases hj; exact hW)
theorem Blk.far {w w' : World} {g k : Nat} {cs : List Value} (h : Blk w k cs) (hg : w.grownBy w' (some g)) (hne : k ≠ g) : Blk w' k cs := h.stays (hg.block k h.inside (fun e => hne (Option.some.inj e)))
theorem POwn.far {w w' : World} {base g : Nat} {v : Value} {l : List P4} (h : POwn w base v l) (hg : w.grownBy w' (some g)) (hlt : g < base) : POwn w' base v l :=
  SOwn.stays h fun j hj => hg.block j (SOwn.block h hj).2 (fun e => by have := (SOwn.block h hj).1; have := Option.some.inj e; omega)
theorem JC.putAll {B : Nat} {old : List (Nat × List Value)} {g : Nat} {zs cs : List Value} {iL iS : Bool} {w : World} (h : JC B old g zs cs iL iS w) (hl : zs.length = cs.length) (eS : iS = false) (eL : iL = true) :
    JC B old g zs cs iL true (putBlk g w 0 cs) ∧ Below B w (putBlk g w 0 cs) := by
  subst eS
  have hb : Below B w (putBlk g w 0 cs) := putBlk_below h.2.1 cs 0 (Below.refl _ _)
  exact ⟨⟨⟨h.1.1.putBlk cs h.1.2.2, Nat.le_trans h.1.2.1 hb.size, h.1.2.2⟩, h.2.1, putBlk_all hl h.2.2.1, fun _ => eL⟩, hb⟩
theorem putBlk_size (g : Nat) : ∀ (l : List Value) (i : Nat) (w : World), (putBlk g w i l).heap.size = w.heap.size
  | [], _, _ => rfl
  | v :: l, i, w => by
    show (putBlk g (w.setCell ⟨g, i, none⟩ v) (i + 1) l).heap.size = _
    rw [putBlk_size g l (i + 1)]
    simp [World.setCell]
theorem putBlk_grown (g : Nat) (l : List Value) (w : World) : w.grownBy (putBlk g w 0 l) (some g) := by
  have h : ∀ (l : List Value) (i : Nat) (w : World), (putBlk g w i l).os = w.os ∧ (putBlk g w i l).tape = w.tape ∧ (putBlk g w i l).output = w.output ∧ ∀ k, k ≠ g → (putBlk g w i l).heap[k]? = w.heap[k]? := by
    intro l
    induction l with
    | nil => exact fun i w => ⟨rfl, rfl, rfl, fun _ _ => rfl⟩
    | cons v l ih =>
      intro i w
      obtain ⟨h1, h2, h3, h4⟩ := ih (i + 1) (w.setCell ⟨g, i, none⟩ v)
      exact ⟨h1, h2, h3, fun k hk => (h4 k hk).trans (heap_setCell_other _ _ _ _ hk)⟩
  obtain ⟨h1, h2, h3, h4⟩ := h l 0 w
  exact ⟨h1, h2, h3, Nat.le_of_eq (putBlk_size g l 0 w).symm, fun k _ hne => h4 k (fun e => hne (by rw [e]))⟩
theorem rightl1 (n : Nat) (hn : n < 4294967296) (w : World) : Calls Try.prog 17 #[.slice (some ⟨w.heap.size, 0, none⟩) 1 1] (w.alloc (.cells #[.int .u32 (n : Nat)] 23)) fun e w' => e = .returned (.bool (rightL [n])) ∧ Below (w.alloc (.cells #[.int .u32 (n : Nat)] 23)).heap.size (w.alloc (.cells #[.int .u32 (n : Nat)] 23)) w' := by
  have hr : Row eW (w.alloc (.cells #[.int .u32 (n : Nat)] 23)) (some ⟨w.heap.size, 0, none⟩) [n] := row_new (enc := eW) w [n] 23
  generalize w.alloc (.cells #[.int .u32 (n : Nat)] 23) = W at *
  have hl : [n].length ≤ maxLen := by unfold maxLen; simp
  exact rightl_any (some ⟨w.heap.size, 0, none⟩) [n] 1 W (fun z hz => by rw [List.mem_singleton.1 hz]; exact hn) hr hl
theorem rightl2 (n m : Nat) (hn : n < 4294967296) (hm : m < 4294967296) (w : World) : Calls Try.prog 17 #[.slice (some ⟨w.heap.size, 0, none⟩) 2 2] (w.alloc (.cells #[.int .u32 (n : Nat), .int .u32 (m : Nat)] 23)) fun e w' => e = .returned (.bool (rightL [n, m])) ∧ Below (w.alloc (.cells #[.int .u32 (n : Nat), .int .u32 (m : Nat)] 23)).heap.size (w.alloc (.cells #[.int .u32 (n : Nat), .int .u32 (m : Nat)] 23)) w' := by
  have hr : Row eW (w.alloc (.cells #[.int .u32 (n : Nat), .int .u32 (m : Nat)] 23)) (some ⟨w.heap.size, 0, none⟩) [n, m] := row_new (enc := eW) w [n, m] 23
  generalize w.alloc (.cells #[.int .u32 (n : Nat), .int .u32 (m : Nat)] 23) = W at *
  have hl : [n, m].length ≤ maxLen := by unfold maxLen; simp
  exact rightl_any (some ⟨w.heap.size, 0, none⟩) [n, m] 2 W (fun z hz => by simp only [List.mem_cons, List.not_mem_nil, or_false] at hz; rcases hz with rfl | rfl <;> assumption) hr hl
def px (l : List Nat) : List P4 := l.map frm
theorem px_len (l : List Nat) : (px l).length = l.length := List.length_map _
theorem px_right {l : List Nat} (h : rightL l = true) : ∀ d ∈ px l, d.Right := fun d hd => by
  obtain ⟨n, hn, rfl⟩ := List.mem_map.1 hd
  exact (rightL_yes h).1 n hn
theorem px_take {l : List Nat} {k : Nat} (hk : k < l.length) : (px l).take (k + 1) = (px l).take k ++ [frm l[k]] := by
  have h : k < (px l).length := by rw [px_len]; exact hk
  rw [List.take_succ_eq_append_getElem h]
  simp only [px, List.getElem_map]
end Go.Proofs.Ytolekbgbcahfgaa
