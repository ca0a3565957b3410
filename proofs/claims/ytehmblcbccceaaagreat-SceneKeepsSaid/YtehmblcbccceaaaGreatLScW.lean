import Derived.Test.YtehmblcbccceaaaGreatLScV
import Derived.BigQuiet
namespace Go.Proofs.YtehmblcbccceaaaGreat
open Go.RowKit pxm imm trm Go.Maps
section
variable {w w' : World} {g b m : Nat} {s : Sh} {Z : ZZ} {x : PSc}
theorem SceneAt.look_ok (h : SceneAt w g b m s Z x) {i : Int} (hi : I64 i) : ∃ A c,∀ W,Below w.heap.size w W → (Instr.lookup tPlaces (.map (some m)) (.int .i64 i) true).run Tryz.prog W = .ok (.tuple #[.agg (plcs (ndAt x i) A c (wsAt x i)).toArray,.bool (has x.t i)]) W ∧ NdOff Z.3 (SFoot b m s x.t) W (ndAt x i) A := by
  by_cases hh : has x.t i = true
  · obtain ⟨A,c,hl⟩ := h.look_b hi hh
    have e1 : ndAt x i = x.nd i := if_pos hh
    have e2 : wsAt x i = x.ws i := if_pos hh
    rw [e1,e2,hh]
    exact ⟨A,c,fun W hb => ⟨(hl W hb).2.1,(hl W hb).2.2⟩⟩
  · have e1 : ndAt x i = Nd.zero := if_neg hh
    have e2 : wsAt x i = Mp.o := if_neg hh
    rw [e1,e2,show has x.t i = false from by simpa using hh]
    exact ⟨none,0,fun W hb => ⟨((h.below hb).look_none hi hh).2,row_none rfl _,fun a e => (nomatch e),fun a e => (nomatch e)⟩⟩
set_option maxHeartbeats 2000000 in
set_option maxRecDepth 100000 in
theorem world_any (h : SceneAt w g b m s Z x) (i : Int) (hi : I64 i) :
    Calls Tryz.prog 41 #[.pointer (some ⟨g,0,none⟩),.int .i64 i] w fun e w' => e = .returned (.tuple #[.agg (wsAt x i).cs.toArray,.bool (has x.t i)]) ∧ Below w.heap.size w w' := by
  have hb0 : Below w.heap.size w (w.alloc (.cells #[.int .i64 0,.int .i64 0,.int .i64 0,.int .i64 0,.int .i64 0,.int .i64 0] 68)) := (Below.refl _ _).alloc (Nat.le_refl _) _
  have HB0 := Lib.hid hb0
  have HZ0 : Hid (Blk (w.alloc (.cells #[.int .i64 0,.int .i64 0,.int .i64 0,.int .i64 0,.int .i64 0,.int .i64 0] 68)) w.heap.size [.int .i64 0,.int .i64 0,.int .i64 0,.int .i64 0,.int .i64 0,.int .i64 0]) := blk_new w [.int .i64 0,.int .i64 0,.int .i64 0,.int .i64 0,.int .i64 0,.int .i64 0] _
  have HS0 : Hid (SceneAt (w.alloc (.cells #[.int .i64 0,.int .i64 0,.int .i64 0,.int .i64 0,.int .i64 0,.int .i64 0] 68)) g b m s Z x) := h.below hb0
  obtain ⟨A,c,hl⟩ := h.look_ok hi
  have HL := Lib.hid hl
  have HSI : Hid (∀ k,SFoot b m s x.t k → k < w.heap.size) := h.inside
  have HOE : Hid (∀ k,Z.3 k → k < w.heap.size) := fun k hk => (h.old k hk).1
  have HSZ : Hid ((w.alloc (.cells #[.int .i64 0,.int .i64 0,.int .i64 0,.int .i64 0,.int .i64 0,.int .i64 0] 68)).heap.size = w.heap.size + 1) := by show _ = _; simp
  obtain ⟨hh,hhe⟩ : ∃ hh,has x.t i = hh := ⟨_,rfl⟩
  rw [hhe] at HL ⊢
  obtain ⟨n,hn⟩ : ∃ n,ndAt x i = n := ⟨_,rfl⟩
  obtain ⟨u,hu⟩ : ∃ u,wsAt x i = u := ⟨_,rfl⟩
  rw [hn,hu] at HL
  rw [hu]
  clear hb0 hl h hhe hn hu
  go_enter Tryz.func41,Tryz.ntmps41
  go_upto_region 1 with (fail)
  generalize (w.alloc (.cells #[.int .i64 0,.int .i64 0,.int .i64 0,.int .i64 0,.int .i64 0,.int .i64 0] 68)) = w0 at *
  obtain ⟨⟨-,-,-,-,-,c5⟩,i0⟩ := HS0.out.top
  have hlk := (HL.out w0 HB0.out).1
  have HZ2 : Hid (Blk (w0.alloc (.cells #[.int .i64 0,.int .i64 0,.int .i64 0,.int .i64 0,.int .i64 0,.int .i64 0,.int .i64 0,.bool false,.bool false,.int .i64 0,.int .i64 0,.int .i64 0,.int .i64 0,.int .i64 0,.int .i64 0,.int .i64 0,.int .u32 0,.int .i64 0,.int .i64 0,.slice none 0 0,.int .i64 0,.int .i64 0,.int .i64 0,.int .i64 0,.int .i64 0,.int .i64 0] 128)) w0.heap.size [.int .i64 0,.int .i64 0,.int .i64 0,.int .i64 0,.int .i64 0,.int .i64 0,.int .i64 0,.bool false,.bool false,.int .i64 0,.int .i64 0,.int .i64 0,.int .i64 0,.int .i64 0,.int .i64 0,.int .i64 0,.int .u32 0,.int .i64 0,.int .i64 0,.slice none 0 0,.int .i64 0,.int .i64 0,.int .i64 0,.int .i64 0,.int .i64 0,.int .i64 0]) := blk_new w0 [.int .i64 0,.int .i64 0,.int .i64 0,.int .i64 0,.int .i64 0,.int .i64 0,.int .i64 0,.bool false,.bool false,.int .i64 0,.int .i64 0,.int .i64 0,.int .i64 0,.int .i64 0,.int .i64 0,.int .i64 0,.int .u32 0,.int .i64 0,.int .i64 0,.slice none 0 0,.int .i64 0,.int .i64 0,.int .i64 0,.int .i64 0,.int .i64 0,.int .i64 0] _
  have HBa : Hid (Below w0.heap.size w0 (w0.alloc (.cells #[.int .i64 0,.int .i64 0,.int .i64 0,.int .i64 0,.int .i64 0,.int .i64 0,.int .i64 0,.bool false,.bool false,.int .i64 0,.int .i64 0,.int .i64 0,.int .i64 0,.int .i64 0,.int .i64 0,.int .i64 0,.int .u32 0,.int .i64 0,.int .i64 0,.slice none 0 0,.int .i64 0,.int .i64 0,.int .i64 0,.int .i64 0,.int .i64 0,.int .i64 0] 128))) := (Below.refl _ _).alloc (Nat.le_refl _) _
  go_upto_region 2 with (first | (with_reducible show wpList _ _ _ (Oper.mk _ (Op.store _ _ _) _ _ _ _ :: _) _ _; first | (refine wpl_stow 128 _ _ rfl rfl rfl _ 0 rfl (plcs n A c u) rfl ([.int .i64 0,.int .i64 0,.int .i64 0,.int .i64 0,.int .i64 0,.int .i64 0,.int .i64 0,.bool false,.bool false,.int .i64 0,.int .i64 0,.int .i64 0,.int .i64 0,.int .i64 0,.int .i64 0,.int .i64 0,.int .u32 0,.int .i64 0,.int .i64 0,.slice none 0 0,.int .i64 0,.int .i64 0,.int .i64 0,.int .i64 0,.int .i64 0,.int .i64 0]) HZ2.out (plcs n A c u) rfl (Nat.le_of_ble_eq_true rfl) (by kernel_rfl) (plcs_one _ _ _ _) ?_; intro w3 HW3 HK3)))
  have HB3 : Hid (Below w0.heap.size w0 w3) := HW3.out.below HBa.out (Nat.le_refl _)
  have HZ3 : Hid (Blk w3 w.heap.size [.int .i64 0,.int .i64 0,.int .i64 0,.int .i64 0,.int .i64 0,.int .i64 0]) := HZ0.out.below' HB3.out
  have HN0 := Lib.hid (HL.out w3 (HB0.out.trans (HB3.out.mono HB0.out.size))).2
  clear hlk HL c5 i0 HZ2 HBa HW3 HZ0
  have HNE : Hid (w.heap.size ≠ w0.heap.size) := by show _ ≠ _; have := HSZ.out; omega
  go_wp2_with (first | (with_reducible show wpList _ _ _ (Oper.mk _ (Op.load _ _) _ _ _ _ :: _) _ _; first | (refine wpl_take 68 _ rfl rfl _ 20 rfl (plcs n A c u) HK3.out (u.cs) rfl _ Tryz.underlying68 rfl (by kernel_rfl) ?_)) | (with_reducible show wpList _ _ _ (Oper.mk _ (Op.store _ _ _) _ _ _ _ :: _) _ _; first | (refine wpl_stow 68 _ _ rfl rfl rfl _ 0 rfl (u.cs) rfl ([.int .i64 0,.int .i64 0,.int .i64 0,.int .i64 0,.int .i64 0,.int .i64 0]) HZ3.out (u.cs) rfl (Nat.le_of_ble_eq_true rfl) (by kernel_rfl) (Mp.one1 _) ?_; intro w4 HW4 HK4)))
  exact blk_ret2 rfl rfl rfl HK4.out Tryz.underlying68 rfl (by kernel_rfl) ⟨rfl,HW4.out.below (HB0.out.trans (HB3.out.mono HB0.out.size)) (Nat.le_refl _)⟩
set_option maxHeartbeats 2000000 in
set_option maxRecDepth 100000 in
theorem node_any (h : SceneAt w g b m s Z x) (hfx : ∀ j,Fit (x.nd j)) (i : Int) (hi : I64 i) :
    Calls Tryz.prog 27 #[.pointer (some ⟨g,0,none⟩),.int .i64 i] w fun e w' => ∃ A c,e = .returned (.tuple #[.agg ((ndAt x i).cs A c).toArray,.bool (has x.t i)]) ∧ Below w.heap.size w w' ∧ NdOff Z.3 (SFoot b m s x.t) w' (ndAt x i) A ∧ ∀ a,A = some a → (ndAt x i).lk.l ≠ [] → w.heap.size ≤ a.block ∧ ∀ j,w'.frozen? ⟨a.block,j,none⟩ = false := by
  have HFN : Hid ((ndAt x i).lk.l.length ≤ 300) := by
    show _ ≤ _
    unfold ndAt
    split
    · exact (hfx i).len
    · exact Nat.zero_le _
  clear hfx
  have hb0 : Below w.heap.size w (w.alloc (.cells #[.int .i64 0,.int .i64 0,.int .i64 0,.int .i64 0,.int .i64 0,.int .i64 0,.int .i64 0,.bool false,.bool false,.int .i64 0,.int .i64 0,.int .i64 0,.int .i64 0,.int .i64 0,.int .i64 0,.int .i64 0,.int .u32 0,.int .i64 0,.int .i64 0,.slice none 0 0] 72)) := (Below.refl _ _).alloc (Nat.le_refl _) _
  have HB0 := Lib.hid hb0
  have HZ0 : Hid (Blk (w.alloc (.cells #[.int .i64 0,.int .i64 0,.int .i64 0,.int .i64 0,.int .i64 0,.int .i64 0,.int .i64 0,.bool false,.bool false,.int .i64 0,.int .i64 0,.int .i64 0,.int .i64 0,.int .i64 0,.int .i64 0,.int .i64 0,.int .u32 0,.int .i64 0,.int .i64 0,.slice none 0 0] 72)) w.heap.size [.int .i64 0,.int .i64 0,.int .i64 0,.int .i64 0,.int .i64 0,.int .i64 0,.int .i64 0,.bool false,.bool false,.int .i64 0,.int .i64 0,.int .i64 0,.int .i64 0,.int .i64 0,.int .i64 0,.int .i64 0,.int .u32 0,.int .i64 0,.int .i64 0,.slice none 0 0]) := blk_new w [.int .i64 0,.int .i64 0,.int .i64 0,.int .i64 0,.int .i64 0,.int .i64 0,.int .i64 0,.bool false,.bool false,.int .i64 0,.int .i64 0,.int .i64 0,.int .i64 0,.int .i64 0,.int .i64 0,.int .i64 0,.int .u32 0,.int .i64 0,.int .i64 0,.slice none 0 0] _
  have HS0 : Hid (SceneAt (w.alloc (.cells #[.int .i64 0,.int .i64 0,.int .i64 0,.int .i64 0,.int .i64 0,.int .i64 0,.int .i64 0,.bool false,.bool false,.int .i64 0,.int .i64 0,.int .i64 0,.int .i64 0,.int .i64 0,.int .i64 0,.int .i64 0,.int .u32 0,.int .i64 0,.int .i64 0,.slice none 0 0] 72)) g b m s Z x) := h.below hb0
  obtain ⟨A,c,hl⟩ := h.look_ok hi
  have HL := Lib.hid hl
  have HSI : Hid (∀ k,SFoot b m s x.t k → k < w.heap.size) := h.inside
  have HOE : Hid (∀ k,Z.3 k → k < w.heap.size) := fun k hk => (h.old k hk).1
  have HSZ : Hid ((w.alloc (.cells #[.int .i64 0,.int .i64 0,.int .i64 0,.int .i64 0,.int .i64 0,.int .i64 0,.int .i64 0,.bool false,.bool false,.int .i64 0,.int .i64 0,.int .i64 0,.int .i64 0,.int .i64 0,.int .i64 0,.int .i64 0,.int .u32 0,.int .i64 0,.int .i64 0,.slice none 0 0] 72)).heap.size = w.heap.size + 1) := by show _ = _; simp
  obtain ⟨hh,hhe⟩ : ∃ hh,has x.t i = hh := ⟨_,rfl⟩
  rw [hhe] at HL ⊢
  obtain ⟨n,hn⟩ : ∃ n,ndAt x i = n := ⟨_,rfl⟩
  obtain ⟨u,hu⟩ : ∃ u,wsAt x i = u := ⟨_,rfl⟩
  rw [hn,hu] at HL
  rw [hn] at HFN ⊢
  clear hb0 hl h hhe hn hu
  go_enter Tryz.func27,Tryz.ntmps27
  go_upto_region 1 with (fail)
  generalize (w.alloc (.cells #[.int .i64 0,.int .i64 0,.int .i64 0,.int .i64 0,.int .i64 0,.int .i64 0,.int .i64 0,.bool false,.bool false,.int .i64 0,.int .i64 0,.int .i64 0,.int .i64 0,.int .i64 0,.int .i64 0,.int .i64 0,.int .u32 0,.int .i64 0,.int .i64 0,.slice none 0 0] 72)) = w0 at *
  obtain ⟨⟨-,-,-,-,-,c5⟩,i0⟩ := HS0.out.top
  have hlk := (HL.out w0 HB0.out).1
  have HZ2 : Hid (Blk (w0.alloc (.cells #[.int .i64 0,.int .i64 0,.int .i64 0,.int .i64 0,.int .i64 0,.int .i64 0,.int .i64 0,.bool false,.bool false,.int .i64 0,.int .i64 0,.int .i64 0,.int .i64 0,.int .i64 0,.int .i64 0,.int .i64 0,.int .u32 0,.int .i64 0,.int .i64 0,.slice none 0 0,.int .i64 0,.int .i64 0,.int .i64 0,.int .i64 0,.int .i64 0,.int .i64 0] 128)) w0.heap.size [.int .i64 0,.int .i64 0,.int .i64 0,.int .i64 0,.int .i64 0,.int .i64 0,.int .i64 0,.bool false,.bool false,.int .i64 0,.int .i64 0,.int .i64 0,.int .i64 0,.int .i64 0,.int .i64 0,.int .i64 0,.int .u32 0,.int .i64 0,.int .i64 0,.slice none 0 0,.int .i64 0,.int .i64 0,.int .i64 0,.int .i64 0,.int .i64 0,.int .i64 0]) := blk_new w0 [.int .i64 0,.int .i64 0,.int .i64 0,.int .i64 0,.int .i64 0,.int .i64 0,.int .i64 0,.bool false,.bool false,.int .i64 0,.int .i64 0,.int .i64 0,.int .i64 0,.int .i64 0,.int .i64 0,.int .i64 0,.int .u32 0,.int .i64 0,.int .i64 0,.slice none 0 0,.int .i64 0,.int .i64 0,.int .i64 0,.int .i64 0,.int .i64 0,.int .i64 0] _
  have HBa : Hid (Below w0.heap.size w0 (w0.alloc (.cells #[.int .i64 0,.int .i64 0,.int .i64 0,.int .i64 0,.int .i64 0,.int .i64 0,.int .i64 0,.bool false,.bool false,.int .i64 0,.int .i64 0,.int .i64 0,.int .i64 0,.int .i64 0,.int .i64 0,.int .i64 0,.int .u32 0,.int .i64 0,.int .i64 0,.slice none 0 0,.int .i64 0,.int .i64 0,.int .i64 0,.int .i64 0,.int .i64 0,.int .i64 0] 128))) := (Below.refl _ _).alloc (Nat.le_refl _) _
  go_upto_region 2 with (first | (with_reducible show wpList _ _ _ (Oper.mk _ (Op.store _ _ _) _ _ _ _ :: _) _ _; first | (refine wpl_stow 128 _ _ rfl rfl rfl _ 0 rfl (plcs n A c u) rfl ([.int .i64 0,.int .i64 0,.int .i64 0,.int .i64 0,.int .i64 0,.int .i64 0,.int .i64 0,.bool false,.bool false,.int .i64 0,.int .i64 0,.int .i64 0,.int .i64 0,.int .i64 0,.int .i64 0,.int .i64 0,.int .u32 0,.int .i64 0,.int .i64 0,.slice none 0 0,.int .i64 0,.int .i64 0,.int .i64 0,.int .i64 0,.int .i64 0,.int .i64 0]) HZ2.out (plcs n A c u) rfl (Nat.le_of_ble_eq_true rfl) (by kernel_rfl) (plcs_one _ _ _ _) ?_; intro w3 HW3 HK3)))
  have HB3 : Hid (Below w0.heap.size w0 w3) := HW3.out.below HBa.out (Nat.le_refl _)
  have HZ3 : Hid (Blk w3 w.heap.size [.int .i64 0,.int .i64 0,.int .i64 0,.int .i64 0,.int .i64 0,.int .i64 0,.int .i64 0,.bool false,.bool false,.int .i64 0,.int .i64 0,.int .i64 0,.int .i64 0,.int .i64 0,.int .i64 0,.int .i64 0,.int .u32 0,.int .i64 0,.int .i64 0,.slice none 0 0]) := HZ0.out.below' HB3.out
  have HN0 := Lib.hid (HL.out w3 (HB0.out.trans (HB3.out.mono HB0.out.size))).2
  clear hlk HL c5 i0 HZ2 HBa HW3 HZ0
  have HCP := Lib.hid (copy_nd n A c (by have := HFN.out; omega) w3 HN0.out.1 Z.3 (SFoot b m s x.t) (fun k hk => by have := HOE.out k hk; have := HB0.out.size; have := HB3.out.size; omega) (fun k hk => by have := HSI.out k hk; have := HB0.out.size; have := HB3.out.size; omega))
  unfold CopyN at HCP
  go_wp2_with (first | (with_reducible show wpList _ _ _ (Oper.mk _ (Op.load _ _) _ _ _ _ :: _) _ _; first | (refine wpl_take 72 _ rfl rfl _ 0 rfl (plcs n A c u) HK3.out (n.cs A c) rfl _ Tryz.underlying72 rfl (by kernel_rfl) ?_)))
  refine HCP.out.mono ?_
  rintro e w4 ⟨A4,c4,rfl,hn4,hb4,hg4⟩
  have HZ4 := Lib.hid (HZ3.out.below' hb4)
  have HB4 := Lib.hid hb4
  have HN4 := Lib.hid (And.intro hn4 hg4)
  clear hn4 hb4 hg4 HCP HZ3
  go_wp2_with (first | (with_reducible show wpList _ _ _ (Oper.mk _ (Op.store _ _ _) _ _ _ _ :: _) _ _; first | (refine wpl_stow 72 _ _ rfl rfl rfl _ 0 rfl (n.cs A4 c4) rfl ([.int .i64 0,.int .i64 0,.int .i64 0,.int .i64 0,.int .i64 0,.int .i64 0,.int .i64 0,.bool false,.bool false,.int .i64 0,.int .i64 0,.int .i64 0,.int .i64 0,.int .i64 0,.int .i64 0,.int .i64 0,.int .u32 0,.int .i64 0,.int .i64 0,.slice none 0 0]) HZ4.out (n.cs A4 c4) rfl (Nat.le_of_ble_eq_true rfl) (by kernel_rfl) (Nd.one _ _ _) ?_; intro w5 HW5 HK5)))
  have hlow : w.heap.size < w3.heap.size := by have := HSZ.out; have := HB3.out.size; omega
  have hfar : ∀ a,A4 = some a → n.lk.l ≠ [] → a.block ≠ w.heap.size := fun a ea hne e => by have := HN4.out.2 a ea hne; omega
  exact blk_ret2 rfl rfl rfl HK5.out Tryz.underlying72 rfl (by kernel_rfl) ⟨A4,c4,rfl,HW5.out.below ((HB0.out.trans (HB3.out.mono HB0.out.size)).trans (HB4.out.mono (by omega))) (Nat.le_refl _),⟨Row.stays HN4.out.1.1 fun a ea hne => HW5.out.far (hfar a ea hne),HN4.out.1.2,HN4.out.1.3⟩,fun a ea hne => ⟨by have := HN4.out.2 a ea hne; omega,fun j => (World.frozen?_of_block (a := ⟨a.block,j,none⟩) (HW5.out.far (hfar a ea hne))).trans ((HN4.out.2 a ea hne).2 j)⟩⟩
end
end Go.Proofs.YtehmblcbccceaaaGreat
