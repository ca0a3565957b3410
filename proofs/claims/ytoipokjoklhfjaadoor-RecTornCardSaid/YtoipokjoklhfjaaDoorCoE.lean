/-
  The contracts of an In: bytes that are read.
-/
import Derived.Test.YtoipokjoklhfjaaDoorCoB
import Derived.Test.YtoipokjoklhfjaaDoorCoC
namespace Go.Proofs.YtoipokjoklhfjaaDoor
open Go.RowKit numb

/-- what an In stands for: its bytes that are left, its error -/
structure St where
  l : List Nat
  e : Nat
def In (b : Nat) : Value := .pointer (some ⟨b, 0, none⟩)
/-- where a slice lies: nowhere, or in a block from lo on, below b -/
def Lies (lo b : Nat) (A : Option Addr) (c : Nat) : Prop := (A = none ∧ c = 0) ∨ ∃ g off, A = some ⟨g, off, none⟩ ∧ lo ≤ g ∧ g < b
/-- an In at block b, whose bytes lie from block lo on, below b -/
def InAt (w : World) (lo b : Nat) (s : St) : Prop :=
  ∃ a c, w.cell? ⟨b, 0, none⟩ = some (.slice a s.l.length c) ∧ w.cell? ⟨b, 1, none⟩ = some (.int .i64 (s.e : Nat)) ∧ w.frozen? ⟨b, 0, none⟩ = false ∧ w.frozen? ⟨b, 1, none⟩ = false ∧
    s.l.length ≤ c ∧ c ≤ maxLen ∧ Bs w a s.l ∧ AreBytes s.l ∧ Lies lo b a c ∧ (s.e ≠ 0 → s.l = []) ∧ s.e < 256
/-- a step of an In: its own block alone is turned -/
structure InStep (b : Nat) (w w' : World) : Prop where
  os : w'.os = w.os
  tape : w'.tape = w.tape
  output : w'.output = w.output
  size : w.heap.size ≤ w'.heap.size
  far : ∀ k, k < w.heap.size → k ≠ b → w'.heap[k]? = w.heap[k]?
theorem InStep.refl (b : Nat) (w : World) : InStep b w w := ⟨rfl, rfl, rfl, Nat.le_refl _, fun _ _ _ => rfl⟩
theorem InStep.trans {b : Nat} {w w' w'' : World} (h : InStep b w w') (k : InStep b w' w'') : InStep b w w'' :=
  ⟨k.os.trans h.os, k.tape.trans h.tape, k.output.trans h.output, Nat.le_trans h.size k.size, fun j hj hb => (k.far j (Nat.lt_of_lt_of_le hj h.size) hb).trans (h.far j hj hb)⟩
theorem InStep.below {b : Nat} {w w' : World} (hb : Below w.heap.size w w') : InStep b w w' := ⟨hb.os, hb.tape, hb.output, hb.size, fun k hk _ => hb.block k hk⟩
theorem InStep.to_below {b : Nat} {w w' : World} {B : Nat} (h : InStep b w w') (hB : B ≤ w.heap.size) (hb : B ≤ b) : Below B w w' := ⟨h.os, h.tape, h.output, h.size, fun k hk => h.far k (by omega) (by omega)⟩
theorem InStep.put (b : Nat) (o : Nat) (w : World) (v : Value) : InStep b w (w.setCell ⟨b, o, none⟩ v) := ⟨rfl, rfl, rfl, by simp [World.setCell], fun k _ hb => heap_setCell_other _ _ _ _ hb⟩

theorem InAt.lt {w : World} {lo b : Nat} {s : St} (h : InAt w lo b s) : b < w.heap.size := by
  obtain ⟨a, c, h0, _⟩ := h
  exact World.block_lt_of_cell? w _ h0
theorem InAt.are {w : World} {lo b : Nat} {s : St} (h : InAt w lo b s) : AreBytes s.l := by
  obtain ⟨a, c, _, _, _, _, _, _, _, h, _⟩ := h
  exact h
/-- it stays while the blocks from lo to b stay -/
theorem InAt.stays {w w' : World} {lo b : Nat} {s : St} (h : InAt w lo b s) (hk : ∀ k, k < w.heap.size → lo ≤ k → k ≤ b → w'.heap[k]? = w.heap[k]?) (hlo : lo ≤ b) : InAt w' lo b s := by
  have hlt := h.lt
  obtain ⟨a, c, h0, h1, h2, h3, h4, h5, h6, h7, h8, h9⟩ := h
  have hb := hk b hlt hlo (Nat.le_refl _)
  refine ⟨a, c, (World.cell?_of_block (a := ⟨b, 0, none⟩) hb).trans h0, (World.cell?_of_block (a := ⟨b, 1, none⟩) hb).trans h1, (World.frozen?_of_block (a := ⟨b, 0, none⟩) hb).trans h2, (World.frozen?_of_block (a := ⟨b, 1, none⟩) hb).trans h3, h4, h5, fun hn => ?_, h7, h8, h9⟩
  obtain ⟨g, off, e, hc⟩ := h6 hn
  refine ⟨g, off, e, fun j hj => ?_⟩
  rcases h8 with ⟨ha, _⟩ | ⟨g', off', ha, hg1, hg2⟩
  · rw [ha] at e; cases e
  · rw [ha] at e
    simp only [Option.some.injEq, Addr.mk.injEq, and_true] at e
    obtain ⟨rfl, rfl⟩ := e
    exact (World.cell?_of_block (a := ⟨g', off' + j, none⟩) (hk g' (by omega) hg1 (by omega))).trans (hc j hj)
theorem InAt.below {w w' : World} {lo b : Nat} {s : St} (h : InAt w lo b s) (hlo : lo ≤ b) (hb : Below w.heap.size w w') : InAt w' lo b s := h.stays (fun k hk _ _ => hb.block k hk) hlo
theorem InAt.other {w w' : World} {lo b b' : Nat} {s : St} (h : InAt w lo b s) (hlo : lo ≤ b) (hs : InStep b' w w') (hb : b' < lo ∨ b < b') : InAt w' lo b s := h.stays (fun k hk h1 h2 => hs.far k hk (by omega)) hlo
theorem InAt.out {w w' : World} {lo b b' : Nat} {v v' : Value} {s : St} (h : InAt w lo b s) (hlo : lo ≤ b) (hs : OutStep b' v w v' w') (hb : b' < lo ∨ b < b') (hv : ∀ g, v.ownBlock = some g → g < lo ∨ b < g) : InAt w' lo b s :=
  h.stays (fun k hk h1 h2 => (hs.far k hk (by omega) (fun e => by have := hv k e; omega)).2) hlo

theorem cell_other (w : World) (b o : Nat) (v : Value) (b' o' : Nat) (h : b' ≠ b ∨ o' ≠ o) : (w.setCell ⟨b, o, none⟩ v).cell? ⟨b', o', none⟩ = w.cell? ⟨b', o', none⟩ := by
  apply World.cell?_setCell_other
  intro e
  simp only [Addr.mk.injEq, and_true] at e
  omega
/-- a new slice in its first cell -/
theorem in_put {w : World} {lo b : Nat} {s : St} (h : InAt w lo b s) {A : Option Addr} {n c : Nat} {l : List Nat} (hn : n = l.length) (hlc : l.length ≤ c) (hcm : c ≤ maxLen) (hb : Bs w A l) (hw : AreBytes l) (hA : Lies lo b A c) (he : s.e ≠ 0 → l = []) :
    InAt (w.setCell ⟨b, 0, none⟩ (.slice A n c)) lo b ⟨l, s.e⟩ ∧ InStep b w (w.setCell ⟨b, 0, none⟩ (.slice A n c)) := by
  subst hn
  obtain ⟨a0, c0, h0, h1, h2, h3, h4, h5, h6, h7, h8, h9, h10⟩ := h
  refine ⟨⟨A, c, World.cell?_setCell_same' _ _ _ (by rw [h0]; rfl), ?_, ?_, ?_, hlc, hcm, fun hn => ?_, hw, hA, he, h10⟩, InStep.put _ _ _ _⟩
  · rw [cell_other _ _ _ _ _ _ (.inr (by omega))]
    exact h1
  · rw [World.frozen?_setCell]; exact h2
  · rw [World.frozen?_setCell]; exact h3
  · obtain ⟨g, off, e, hc⟩ := hb hn
    refine ⟨g, off, e, fun j hj => ?_⟩
    rcases hA with ⟨ha, _⟩ | ⟨g', off', ha, hg1, hg2⟩
    · rw [ha] at e; cases e
    · rw [ha] at e
      simp only [Option.some.injEq, Addr.mk.injEq, and_true] at e
      obtain ⟨rfl, rfl⟩ := e
      rw [cell_other _ _ _ _ _ _ (.inl (by omega))]
      exact hc j hj
/-- an error in its second cell -/
theorem in_err {w : World} {lo b : Nat} {s : St} (h : InAt w lo b s) (hl : s.l = []) {e : Nat} (he : e < 256) :
    InAt (w.setCell ⟨b, 1, none⟩ (.int .i64 (e : Nat))) lo b ⟨[], e⟩ ∧ InStep b w (w.setCell ⟨b, 1, none⟩ (.int .i64 (e : Nat))) := by
  obtain ⟨a0, c0, h0, h1, h2, h3, h4, h5, h6, h7, h8, h9, h10⟩ := h
  rw [hl] at h0 h4
  refine ⟨⟨a0, c0, ?_, World.cell?_setCell_same' _ _ _ (by rw [h1]; rfl), ?_, ?_, h4, h5, fun hn => by simp at hn, AreBytes.nil, h8, fun _ => rfl, he⟩, InStep.put _ _ _ _⟩
  · rw [cell_other _ _ _ _ _ _ (.inr (by omega))]
    exact h0
  · rw [World.frozen?_setCell]; exact h2
  · rw [World.frozen?_setCell]; exact h3

def St.fail (s : St) (e : Nat) : St := ⟨[], if s.e = 0 then e else s.e⟩
set_option maxHeartbeats 1000000 in
theorem in_fail_any (lo b : Nat) (s : St) (e : Nat) (w : World) (h : InAt w lo b s) (he : e < 256) :
    Calls Tryd.prog 38 #[In b, .int .i64 (e : Nat)] w fun r w' => r = .returned (.tuple #[]) ∧ InAt w' lo b (s.fail e) ∧ InStep b w w' := by
  obtain ⟨a0, c0, h0, h1, h2, h3, _⟩ := id h
  obtain ⟨p1, p2⟩ := in_put h (A := none) (n := 0) (c := 0) (l := []) rfl (Nat.le_refl _) (by simp [maxLen]) (fun hn => by simp at hn) AreBytes.nil (.inl ⟨rfl, rfl⟩) (fun _ => rfl)
  by_cases hs : s.e = 0
  · have hf : s.fail e = ⟨[], e⟩ := by unfold St.fail; rw [if_pos hs]
    have hst : Hid (InAt ((w.setCell ⟨b, 1, none⟩ (.int .i64 (e : Nat))).setCell ⟨b, 0, none⟩ (.slice none 0 0)) lo b (s.fail e) ∧ InStep b w ((w.setCell ⟨b, 1, none⟩ (.int .i64 (e : Nat))).setCell ⟨b, 0, none⟩ (.slice none 0 0))) := by
      rw [hf]
      refine ⟨⟨none, 0, World.cell?_setCell_same' _ _ _ ?_, ?_, ?_, ?_, Nat.le_refl _, by simp [maxLen], fun hn => by simp at hn, AreBytes.nil, .inl ⟨rfl, rfl⟩, fun _ => rfl, he⟩, (InStep.put _ _ _ _).trans (InStep.put _ _ _ _)⟩
      · rw [cell_other _ _ _ _ _ _ (.inr (by omega)), h0]
        rfl
      · rw [cell_other _ _ _ _ _ _ (.inr (by omega))]
        exact World.cell?_setCell_same' _ _ _ (by rw [h1]; rfl)
      · rw [World.frozen?_setCell, World.frozen?_setCell]; exact h2
      · rw [World.frozen?_setCell, World.frozen?_setCell]; exact h3
    rw [hs] at h1
    clear h p1 p2 hf
    unfold In
    go_enter Tryd.func38, Tryd.ntmps38
    go_wp2_with (fail)
    go_end0
    exact ⟨rfl, hst.out⟩
  · have hf : s.fail e = ⟨[], s.e⟩ := by unfold St.fail; rw [if_neg hs]
    have t : ((s.e : Int) == 0) = false := by simp; omega
    rw [hf]
    have hst := Lib.hid (And.intro p1 p2)
    clear h p1 p2 hf
    unfold In
    go_enter Tryd.func38, Tryd.ntmps38
    go_wp2_with (fail)
    go_end0
    exact ⟨rfl, hst.out⟩
end Go.Proofs.YtoipokjoklhfjaaDoor
