/-
  The contract of a disk's put: a name, a file.
-/
import Derived.Test.YtpnhgongjfknbaaDkD
import Derived.Test.YtpnhgongjfknbaaRegs
namespace Go.Proofs.Ytpnhgongjfknbaa
open Go.RowKit omap

theorem sclone_any (s : ByteArray) (w : World) (hs : s.size ≤ 281474976710656) : Calls Try.prog 61 #[.string s] w fun e w' => e = .returned (.string s) ∧ Below w.heap.size w w' := by
  go_enter Try.func61, Try.ntmps61
  go_wp2_with (fail)
  refine (slite_clone s w hs).mono ?_
  rintro e w1 ⟨rfl, hb⟩
  have H := Lib.hid hb
  clear hb
  go_wp2_with (fail)
  go_ret
  exact ⟨rfl, H.out⟩
def tn (S : List Nat) (w w' : World) : Prop := Turn S S w w'
theorem tn_refl (S : List Nat) (w : World) : tn S w w := Turn.refl S w
theorem tn_trans (S : List Nat) (a b c : World) (h : tn S a b) (k : tn S b c) : tn S a c := Turn.trans h k
def putJ (m : Nat) (l : L) (s : ByteArray) (g : Nat) (L : Nat → Bool) (w : World) : Prop := MapAt w m (bif L 7 then put lt s.data.toList g l else l)
theorem putJ_upd {m : Nat} {l : L} {s : ByteArray} {g : Nat} {L : Nat → Bool} {w : World} {i : Nat} (h : putJ m l s g L w) (hi : Nat.beq 7 i = false) : putJ m l s g (regs.upd L i) w := by
  unfold putJ at h ⊢
  unfold regs.upd
  rw [hi]
  exact h
set_option maxRecDepth 100000 in
set_option maxHeartbeats 1000000 in
theorem put_any (b m : Nat) (l : L) (s : ByteArray) (g : Nat) (w : World) (c5 : w.cell? ⟨b, 5, none⟩ = some (.map (some m))) (hbm : b ≠ m) (h : MapAt w m l) (hs : s.size ≤ 1000) (hn : (put lt s.data.toList g l).length ≤ 1073741824) :
    Calls Try.prog 57 #[.pointer (some ⟨b, 0, none⟩), .string s, .pointer (some ⟨g, 0, none⟩)] w fun e w' => e = .returned (.tuple #[]) ∧ MapAt w' m (put lt s.data.toList g l) ∧ Turn [m] [m] w w' := by
  have H := Lib.hid h
  have HN := Lib.hid hn
  have HC := Lib.hid c5
  have HB := Lib.hid (World.block_lt_of_cell? w _ c5)
  have HBM : Hid (b ∉ [m]) := by show ¬ _; simp [hbm]
  have hs2 : Hid (s.size ≤ 281474976710656) := by show _ ≤ _; omega
  have hs3 : Hid (s.size ≤ maxLen) := by show _ ≤ _; unfold maxLen; omega
  clear h hn hs c5 hbm
  go_enter Try.func57, Try.ntmps57
  go_wp2_with (fail)
  refine regs.wp_region_put (tn [m]) (putJ m l s g) [6, 7, 8, 9, 10, 11, 12] (by kernel_rfl) (by kernel_rfl) (fun _ => tn_refl [m] _) (tn_trans [m]) (fun i => (match i with
    | 0 => regs.Say.val _ (.pointer (some ⟨b, 0, none⟩))
    | 1 => regs.Say.val _ (.pointer (some ⟨b, 0, none⟩))
    | 2 => regs.Say.val _ (.pointer (some ⟨b, 5, none⟩))
    | 3 => regs.Say.val _ (.map (some m))
    | 4 => regs.Say.val _ (.string s)
    | 5 => regs.Say.val _ (.string s)
    | 6 => regs.Say.val _ (.pointer (some ⟨g, 0, none⟩))
    | 7 => regs.Say.any _
    | _ => regs.Say.any _ : regs.Say (tn [m])).p) (fun _ => regs.Say.mono _) (by kernel_rfl) (Turn.below ((Below.refl _ _).drew)) (H.out.stays rfl) ⟨?_, ?_, ?_, ?_, ?_, ?_, ?_, ?_, trivial⟩ ?_
  · refine regs.StepOK.plain rfl fun L a w1 hh => ?_
    have h0 : a.tmps[0]?.getD undef = .pointer (some ⟨b, 0, none⟩) := by rw [← Array.getD_eq_getD_getElem?]; exact hh.old 0 rfl
    have hJ := Lib.hid hh.st
    clear hh
    go_simp
    exact ⟨_, rfl, tn_refl [m] _, rfl, putJ_upd hJ.out (by decide)⟩
  · refine regs.StepOK.plain rfl fun L a w1 hh => ?_
    have h6 : a.tmps[6]?.getD undef = .pointer (some ⟨b, 0, none⟩) := by rw [← Array.getD_eq_getD_getElem?]; exact hh.dep 0 6 (by kernel_rfl) (by kernel_rfl)
    have hJ := Lib.hid hh.st
    clear hh
    go_simp
    exact ⟨_, rfl, tn_refl [m] _, rfl, putJ_upd hJ.out (by decide)⟩
  · refine regs.StepOK.plain rfl fun L a w1 hh => ?_
    have h7 : a.tmps[7]?.getD undef = .pointer (some ⟨b, 0, none⟩) := by rw [← Array.getD_eq_getD_getElem?]; exact hh.dep 1 7 (by kernel_rfl) (by kernel_rfl)
    have hJ := Lib.hid hh.st
    clear hh
    go_simp
    exact ⟨_, rfl, tn_refl [m] _, rfl, putJ_upd hJ.out (by decide)⟩
  · refine regs.StepOK.plain rfl fun L a w1 hh => ?_
    have h8 : a.tmps[8]?.getD undef = .pointer (some ⟨b, 5, none⟩) := by rw [← Array.getD_eq_getD_getElem?]; exact hh.dep 2 8 (by kernel_rfl) (by kernel_rfl)
    have c5 := ((hh.rel).far b HB.out HBM.out).2
    have c5 : w1.cell? ⟨b, 5, none⟩ = some (.map (some m)) := (World.cell?_of_block c5).trans HC.out
    have hJ := Lib.hid hh.st
    clear hh
    go_simp
    exact ⟨_, rfl, tn_refl [m] _, rfl, putJ_upd hJ.out (by decide)⟩
  · refine regs.StepOK.plain rfl fun L a w1 hh => ?_
    have h1 : a.tmps[1]?.getD undef = .string s := by rw [← Array.getD_eq_getD_getElem?]; exact hh.old 1 rfl
    have hJ := Lib.hid hh.st
    clear hh
    go_simp
    exact ⟨_, rfl, tn_refl [m] _, rfl, putJ_upd hJ.out (by decide)⟩
  · refine regs.StepOK.plain rfl fun L a w1 hh => ?_
    have h10 : a.tmps[10]?.getD undef = .string s := by rw [← Array.getD_eq_getD_getElem?]; exact hh.dep 4 10 (by kernel_rfl) (by kernel_rfl)
    have hJ := Lib.hid hh.st
    clear hh
    go_simp
    refine (sclone_any s w1 hs2.out).mono ?_
    rintro e w2 ⟨rfl, hb2⟩
    exact ⟨_, rfl, Turn.below hb2, rfl, putJ_upd (MapAt.stays hJ.out (hb2.block m (MapAt.inside hJ.out))) (by decide)⟩
  · refine regs.StepOK.plain rfl fun L a w1 hh => ?_
    have h2 : a.tmps[2]?.getD undef = .pointer (some ⟨g, 0, none⟩) := by rw [← Array.getD_eq_getD_getElem?]; exact hh.old 2 rfl
    have hJ := Lib.hid hh.st
    clear hh
    go_simp
    exact ⟨_, rfl, tn_refl [m] _, rfl, putJ_upd hJ.out (by decide)⟩
  · refine regs.StepOK.plain rfl fun L a w1 hh => ?_
    have h9 : a.tmps[9]?.getD undef = .map (some m) := by rw [← Array.getD_eq_getD_getElem?]; exact hh.dep 3 9 (by kernel_rfl) (by kernel_rfl)
    have h11 : a.tmps[11]?.getD undef = .string s := by rw [← Array.getD_eq_getD_getElem?]; exact hh.dep 5 11 (by kernel_rfl) (by kernel_rfl)
    have h12 : a.tmps[12]?.getD undef = .pointer (some ⟨g, 0, none⟩) := by rw [← Array.getD_eq_getD_getElem?]; exact hh.dep 6 12 (by kernel_rfl) (by kernel_rfl)
    have hun := hh.un
    have hJ : MapAt w1 m (bif L 7 then put lt s.data.toList g l else l) := hh.st
    rw [hun] at hJ
    obtain ⟨w2, hrun, hm2, hg2⟩ := hJ.store hs3.out g HN.out
    have HM2 := Lib.hid hm2
    have HG2 := Lib.hid hg2
    clear hh hJ hun hm2 hg2
    go_simp
    exact ⟨Turn.grown HG2.out (fun k hk => List.mem_singleton.2 (Option.some.inj hk).symm), ⟨undef, trivial⟩, HM2.out⟩
  intro L w1 val hL hJ hb hf
  have h7 : L 7 = true := hL 7 (by decide)
  have hJ : MapAt w1 m (bif L 7 then put lt s.data.toList g l else l) := hJ
  rw [h7] at hJ
  have HJ := Lib.hid hJ
  have HT : Hid (tn [m] w w1) := hb
  clear hf hJ hb hL h7
  simp only [regs.putAll, List.map_cons, List.map_nil]
  go_simp
  go_end0
  exact ⟨rfl, HJ.out, HT.out⟩
end Go.Proofs.Ytpnhgongjfknbaa
