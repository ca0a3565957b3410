/-
  The contracts of an Out: bytes that grow.
-/
import Derived.Test.YtoipokjoklhfjaaDoorCoA
namespace Go.Proofs.YtoipokjoklhfjaaDoor
open Go.RowKit numb

/-- an Out at block b: its slice is v, its bytes are l -/
structure OutAt (w : World) (b : Nat) (v : Value) (l : List Nat) : Prop where
  cell : w.cell? ⟨b, 0, none⟩ = some v
  frz : w.frozen? ⟨b, 0, none⟩ = false
  own : Own w 0 v l
  apart : v.ownBlock ≠ some b
/-- a step of an Out at block b, whose slice was v, and is v': what is far from both stays -/
structure OutStep (b : Nat) (v : Value) (w : World) (v' : Value) (w' : World) : Prop where
  os : w'.os = w.os
  tape : w'.tape = w.tape
  output : w'.output = w.output
  size : w.heap.size ≤ w'.heap.size
  far : ∀ k, k < w.heap.size → k ≠ b → v.ownBlock ≠ some k → v'.ownBlock ≠ some k ∧ w'.heap[k]? = w.heap[k]?
theorem OutAt.lt {w : World} {b : Nat} {v : Value} {l : List Nat} (h : OutAt w b v l) : b < w.heap.size := World.block_lt_of_cell? w _ h.cell
theorem OutStep.trans {b : Nat} {v v' v'' : Value} {w w' w'' : World} (h : OutStep b v w v' w') (k : OutStep b v' w' v'' w'') : OutStep b v w v'' w'' :=
  ⟨k.os.trans h.os, k.tape.trans h.tape, k.output.trans h.output, Nat.le_trans h.size k.size, fun j hj hb hv => by
    obtain ⟨h1, h2⟩ := h.far j hj hb hv
    obtain ⟨k1, k2⟩ := k.far j (Nat.lt_of_lt_of_le hj h.size) hb h1
    exact ⟨k1, k2.trans h2⟩⟩
theorem OutStep.below {b : Nat} {v : Value} {w w' : World} (hb : Below w.heap.size w w') : OutStep b v w v w' := ⟨hb.os, hb.tape, hb.output, hb.size, fun k hk _ hv => ⟨hv, hb.block k hk⟩⟩
theorem OutStep.refl (b : Nat) (v : Value) (w : World) : OutStep b v w v w := .below (Below.refl _ _)
/-- an Out of the call's own turns nothing that was there ahead of it -/
theorem OutStep.to_below {b : Nat} {v v' : Value} {w w' : World} {B : Nat} (h : OutStep b v w v' w') (hB : B ≤ w.heap.size) (hb : B ≤ b) (hv : ∀ g, v.ownBlock = some g → B ≤ g) : Below B w w' :=
  ⟨h.os, h.tape, h.output, h.size, fun k hk => (h.far k (by omega) (by omega) (fun e => by have := hv k e; omega)).2⟩
theorem OutAt.below {w w' : World} {b : Nat} {v : Value} {l : List Nat} (h : OutAt w b v l) (hb : Below w.heap.size w w') : OutAt w' b v l :=
  ⟨(hb.cell (p := ⟨b, 0, none⟩) h.lt).trans h.cell, (hb.frozen (p := ⟨b, 0, none⟩) h.lt).trans h.frz, h.own.below hb, h.apart⟩
theorem OutAt.alloc {w : World} {b : Nat} {v : Value} {l : List Nat} (h : OutAt w b v l) (o : Obj) : OutAt (w.alloc o) b v l := h.below ((Below.refl _ _).alloc (Nat.le_refl _) o)
/-- another Out's step -/
theorem OutAt.step {w w' : World} {b b' : Nat} {v u u' : Value} {l : List Nat} (h : OutAt w b v l) (hs : OutStep b' u w u' w') (hb : b ≠ b') (hu : u.ownBlock ≠ some b) (hv : v.ownBlock ≠ some b') (huv : ∀ g, v.ownBlock = some g → u.ownBlock ≠ some g) :
    OutAt w' b v l ∧ u'.ownBlock ≠ some b ∧ ∀ g, v.ownBlock = some g → u'.ownBlock ≠ some g := by
  obtain ⟨f1, f2⟩ := hs.far b h.lt hb hu
  have hg : ∀ g, v.ownBlock = some g → u'.ownBlock ≠ some g ∧ w'.heap[g]? = w.heap[g]? := fun g hg => hs.far g (h.own.block hg).2 (fun e => hv (by rw [hg, e])) (huv g hg)
  exact ⟨⟨(World.cell?_of_block f2).trans h.cell, (World.frozen?_of_block f2).trans h.frz, h.own.stays fun g hgg => (hg g hgg).2, h.apart⟩, f1, fun g hgg => (hg g hgg).1⟩

/-- what is behind an append, and the store of its slice -/
theorem OutAt.stored {w w1 : World} {b : Nat} {v v' : Value} {l l' : List Nat} (h : OutAt w b v l) (own : Own w1 0 v' l') (hg : w.grownBy w1 v.ownBlock) (hn : ∀ g, v'.ownBlock = some g → v.ownBlock = some g ∨ w.heap.size ≤ g) :
    OutAt (w1.setCell ⟨b, 0, none⟩ v') b v' l' ∧ OutStep b v w v' (w1.setCell ⟨b, 0, none⟩ v') := by
  have hlt := h.lt
  have hb1 : w1.heap[b]? = w.heap[b]? := hg.block b hlt (fun e => h.apart e.symm)
  have hap : v'.ownBlock ≠ some b := fun e => by
    rcases hn b e with h1 | h1
    · exact h.apart h1
    · omega
  refine ⟨⟨World.cell?_setCell_same' _ _ _ (by rw [(World.cell?_of_block (a := ⟨b, 0, none⟩) hb1).trans h.cell]; rfl), ?_, own.stays fun g hgg => ?_, hap⟩, hg.os, hg.tape, hg.output, ?_, fun k hk hkb hkv => ⟨fun e => ?_, ?_⟩⟩
  · rw [World.frozen?_setCell]
    exact (World.frozen?_of_block (a := ⟨b, 0, none⟩) hb1).trans h.frz
  · exact heap_setCell_other _ _ _ _ (fun e => hap (by rw [hgg]; exact congrArg some e))
  · have := hg.size
    simpa [World.setCell] using this
  · rcases hn k e with h1 | h1
    · exact hkv h1
    · omega
  · rw [heap_setCell_other _ _ _ _ hkb]
    exact hg.block k hk (fun e => hkv e.symm)
theorem out_size {w : World} {b : Nat} {v : Value} {l : List Nat} (_ : OutAt w b v l) : (0 : Nat) ≤ w.heap.size := Nat.zero_le _

theorem Own.val {w : World} {base : Nat} {v : Value} {l : List Nat} (h : Own w base v l) : ∃ a n c, v = .slice a n c := by
  rcases h.2 with ⟨rfl, h0⟩ | ⟨g, cap, cur, rfl, _⟩
  · exact ⟨none, 0, 0, rfl⟩
  · exact ⟨_, _, _, rfl⟩
/-- a row of values that no Out's step turns -/
def Far (b : Nat) (v : Value) (A : Option Addr) (n : Nat) : Prop := 0 < n → ∀ x, A = some x → x.block ≠ b ∧ v.ownBlock ≠ some x.block
theorem Row.step {α : Type} {enc : α → Value} {w w' : World} {A : Option Addr} {l : List α} {b : Nat} {v v' : Value} (h : Row enc w A l) (hf : Far b v A l.length) (hs : OutStep b v w v' w') : Row enc w' A l ∧ Far b v' A l.length := by
  refine ⟨fun hn => ?_, fun hn x hx => ?_⟩
  · obtain ⟨g, off, e, hc⟩ := h hn
    obtain ⟨h1, h2⟩ := hf hn _ e
    refine ⟨g, off, e, fun j hj => ?_⟩
    have hk := World.block_lt_of_cell? w _ (hc j hj)
    exact (World.cell?_of_block (a := ⟨g, off + j, none⟩) (hs.far g hk h1 h2).2).trans (hc j hj)
  · obtain ⟨g, off, e, hc⟩ := h hn
    obtain ⟨h1, h2⟩ := hf hn _ hx
    rw [hx] at e
    obtain rfl := Option.some.inj e
    have hk := World.block_lt_of_cell? w _ (hc 0 hn)
    exact ⟨h1, (hs.far g hk h1 h2).1⟩

set_option maxHeartbeats 1000000 in
theorem out_raw_any (b : Nat) (v : Value) (l : List Nat) (A : Option Addr) (m : List Nat) (c : Nat) (w : World) (h : OutAt w b v l) (hm : Bs w A m) (hsz : l.length + m.length ≤ 1099511627776) :
    Calls Tryd.prog 34 #[.pointer (some ⟨b, 0, none⟩), .slice A m.length c] w fun e w' => e = .returned (.tuple #[]) ∧ ∃ v', OutAt w' b v' (l ++ m) ∧ OutStep b v w v' w' := by
  obtain ⟨v', w1, run, own, hg, hn⟩ := app_row w 0 v l h.own A m c hm hsz (Nat.zero_le _)
  obtain ⟨a', n', c', rfl⟩ := own.val
  have hst := Lib.hid (h.stored own hg hn)
  have hc := h.cell
  have hfr := h.frz
  have hb1 : w1.heap[b]? = w.heap[b]? := hg.block b h.lt (fun e => h.apart e.symm)
  have hc1 : w1.cell? ⟨b, 0, none⟩ = some v := (World.cell?_of_block (a := ⟨b, 0, none⟩) hb1).trans h.cell
  have hfr1 : w1.frozen? ⟨b, 0, none⟩ = false := (World.frozen?_of_block (a := ⟨b, 0, none⟩) hb1).trans h.frz
  clear own hg hn hb1 hm hsz h
  go_enter Tryd.func34, Tryd.ntmps34
  go_wp2_with (at_builtin; refine wpList_append_run rfl _ _ 25 25 25 rfl rfl _ _ _ _ rfl rfl run ?_)
  go_end0
  exact ⟨rfl, _, hst.out⟩

set_option maxHeartbeats 1000000 in
theorem out_bytes_any (b : Nat) (v : Value) (l : List Nat) (w : World) (h : OutAt w b v l) (hl : AreBytes l) (hsz : l.length ≤ 1099511627776) :
    Calls Tryd.prog 35 #[.pointer (some ⟨b, 0, none⟩)] w fun e w' => ∃ v', e = .returned v' ∧ Own w' w.heap.size v' l ∧ Below w.heap.size w w' := by
  obtain ⟨a, c, rfl, hp, _⟩ := h.own.part hl
  have hc := h.cell
  have ha := hp.at_
  simp only at ha
  clear h hl hp
  go_enter Tryd.func35, Tryd.ntmps35
  go_wp2_with (fail)
  refine (fresh_any a l c w ha hsz).mono ?_
  rintro e w' ⟨v', rfl, own, hb⟩
  obtain ⟨a', n', c', rfl⟩ := own.val
  go_wp2_with (fail)
  go_ret
  exact ⟨_, rfl, own, hb⟩

theorem pre_length (ns : List Nat) : ∀ k, (∀ n ∈ ns, U64 n) → k ≤ ns.length → ((ns.take k).flatMap uint).length ≤ 10 * k := by
  intro k hU
  induction k with
  | zero => simp
  | succ k ih =>
    intro hk
    have := ih (by omega)
    have hle := uint_length_le (v := ns[k]) (k := 10) (by omega) (Nat.lt_of_lt_of_le (hU ns[k] (List.getElem_mem (by omega))).lt (by decide))
    rw [List.take_succ_eq_append_getElem (by omega), List.flatMap_append, List.length_append]
    simp only [List.flatMap_cons, List.flatMap_nil, List.append_nil]
    omega
/-- one byte, laid in a new block, and appended -/
theorem out_one {w : World} {b : Nat} {v : Value} {l : List Nat} (h : OutAt w b v l) (z : Nat) (hsz : l.length + 1 ≤ 1099511627776) :
    ∃ a n c w1, (Builtin.append_ #[25, 25] 25 #[v, .slice (some ⟨w.heap.size, 0, none⟩) 1 1]).run Tryd.prog (w.alloc (.cells #[.int .u8 (z : Nat)] 5)) = .ok (.slice a n c) w1 ∧
      w1.cell? ⟨b, 0, none⟩ = some v ∧ w1.frozen? ⟨b, 0, none⟩ = false ∧
      Hid (OutAt (w1.setCell ⟨b, 0, none⟩ (.slice a n c)) b (.slice a n c) (l ++ [z]) ∧ OutStep b v w (.slice a n c) (w1.setCell ⟨b, 0, none⟩ (.slice a n c))) := by
  have h0 := h.alloc (.cells #[.int .u8 (z : Nat)] 5)
  have hrow : Bs (w.alloc (.cells #[.int .u8 (z : Nat)] 5)) (some ⟨w.heap.size, 0, none⟩) [z] := fun _ => ⟨_, 0, rfl, fun j hj => by
    have : j = 0 := by simpa using hj
    subst this
    exact cell_of_row _ _ 0 _ _ _ (heap_alloc_new w _)⟩
  obtain ⟨v', w1, run, own, hg, hn⟩ := app_row _ 0 v l h0.own (some ⟨w.heap.size, 0, none⟩) [z] 1 hrow (by simpa using hsz) (Nat.zero_le _)
  obtain ⟨a', n', c', rfl⟩ := own.val
  obtain ⟨s1, s2⟩ := h0.stored own hg hn
  have hb1 := hg.block b h0.lt (fun e => h.apart e.symm)
  exact ⟨a', n', c', w1, run, (World.cell?_of_block (a := ⟨b, 0, none⟩) hb1).trans h0.cell, (World.frozen?_of_block (a := ⟨b, 0, none⟩) hb1).trans h0.frz, s1, (OutStep.below ((Below.refl _ _).alloc (Nat.le_refl _) _)).trans s2⟩
theorem or128 (m : Nat) : bits .or .u8 ((m : Int) % 256) 128 = ((m % 128 + 128 : Nat) : Int) := by
  have h : ∀ x, x < 256 → x ||| 128 = x % 128 + 128 := by decide +kernel
  have := u8_or_nat (m % 256) 128 (by omega) (by omega)
  rw [h _ (by omega), show m % 256 % 128 = m % 128 by omega] at this
  simpa using this

set_option maxHeartbeats 2000000 in
theorem out_uint_any (b : Nat) (v : Value) (l : List Nat) (A : Option Addr) (ns : List Nat) (c : Nat) (w : World) (h : OutAt w b v l) (hr : Row eU w A ns) (hf : Far b v A ns.length) (hU : ∀ n ∈ ns, U64 n) (hc : ns.length ≤ 1099511627) (hsz : l.length + 10 * ns.length ≤ 1099511627776) :
    Calls Tryd.prog 33 #[.pointer (some ⟨b, 0, none⟩), .slice A ns.length c] w fun e w' => e = .returned (.tuple #[]) ∧ ∃ v', OutAt w' b v' (l ++ ns.flatMap uint) ∧ OutStep b v w v' w' := by
  go_enter Tryd.func33, Tryd.ntmps33
  go_wp2
  go_loopw [5, 8] (fun _ i wr => ∃ (k : Nat) (v' : Value), k ≤ ns.length ∧ i = .int .i64 k ∧ Hid (OutAt wr b v' (l ++ (ns.take k).flatMap uint)) ∧ Hid (OutStep b v w v' wr)) (fun _ i _ => ns.length - (intOf i).toNat)
  case atStart => exact ⟨0, v, Nat.zero_le _, rfl, by simpa [Hid] using h, OutStep.refl _ _ _⟩
  case round =>
    obtain ⟨k, v1, hk, rfl, ho, hs⟩ := hrel
    obtain ⟨hr1, hf1⟩ := hr.step hf hs.out
    by_cases hlt : k < ns.length
    · obtain ⟨g, off, rfl, hcell⟩ := hr1 (by omega)
      have ck : wr.cell? ⟨g, off + k, none⟩ = some (Value.int .u64 (ns[k] : Nat)) := hcell k hlt
      have hn := hU ns[k] (List.getElem_mem hlt)
      have hUU := Lib.hid hU
      clear hcell hr hf hU h
      go_wp2_with (fail)
      go_loopw [5] (fun x wi => ∃ (m : Nat) (v2 : Value) (p : List Nat), x = .int .u64 m ∧ U64 m ∧ Hid (p ++ uint m = uint ns[k]) ∧ Hid (OutAt wi b v2 (l ++ (ns.take k).flatMap uint ++ p)) ∧ Hid (OutStep b v w v2 wi)) (fun x _ => (intOf x).toNat)
      case atStart => exact ⟨ns[k], v1, [], rfl, hn, by simp [Hid], by simpa [Hid] using ho.out, hs⟩
      case round =>
        obtain ⟨m, v2, p, rfl, hm, hp, ho2, hs2⟩ := hrel
        have hU2 := hm
        have hm := hm.lt
        have hc := ho2.out.cell
        have hlen : (p ++ uint m).length = (uint ns[k]).length := by rw [hp.out]
        have hpos := uint_pos m
        have hle := uint_length_le (v := ns[k]) (k := 10) (by omega) (Nat.lt_of_lt_of_le hn.lt (by decide))
        have hpre := pre_length ns k (fun n hn => hUU.out n hn) hk
        rw [List.length_append] at hlen
        by_cases hbig : 128 ≤ m
        · have t1 : decide ((127 : Int) < (m : Int)) = true := by simp; omega
          obtain ⟨z, hz⟩ : ∃ z, z = m % 128 + 128 := ⟨_, rfl⟩
          have e1 : bits .or .u8 ((m : Int) % 256) 128 = (z : Int) := by rw [hz]; exact or128 m
          obtain ⟨a1, n1, c1, w1, run, hc1, hf1, hst⟩ := out_one ho2.out z (by rw [List.length_append, List.length_append]; omega)
          have HZ := Lib.hid (uint_big hbig)
          have HZ2 := Lib.hid hz
          clear hz hpre hle hlen hpos
          go_wp2_with (at_builtin; refine wpList_append_run rfl _ _ 25 25 25 rfl rfl _ _ _ _ rfl rfl run ?_)
          go_roundw
          case rel => exact ⟨m / 128, _, p ++ [z], by go_num, by unfold U64; omega, by
            rw [← hp.out, HZ.out, HZ2.out]
            simp [Hid], by
            have := hst.out.1
            simpa [Hid] using this, hs2.out.trans hst.out.2⟩
          case measure => simp [intOf]; omega
        · have t1 : decide ((127 : Int) < (m : Int)) = false := by simp; omega
          obtain ⟨z, hz⟩ : ∃ z, z = m := ⟨_, rfl⟩
          have e1 : (m : Int) % 256 = (z : Int) := by omega
          obtain ⟨a1, n1, c1, w1, run, hc1, hf1, hst⟩ := out_one ho2.out z (by rw [List.length_append, List.length_append]; omega)
          have HZ := Lib.hid (uint_small (v := m) (by omega))
          have HZ2 := Lib.hid hz
          clear hz hbig hpre hle hlen hpos
          go_wp2_with (at_builtin; refine wpList_append_run rfl _ _ 25 25 25 rfl rfl _ _ _ _ rfl rfl run ?_)
          go_roundw
          case rel => exact ⟨k + 1, _, by omega, by go_num, by
            have h1 := hst.out.1
            have e : (ns.take (k + 1)).flatMap uint = (ns.take k).flatMap uint ++ (p ++ [z]) := by
              rw [List.take_succ_eq_append_getElem hlt, List.flatMap_append, List.flatMap_cons, List.flatMap_nil, List.append_nil, ← hp.out, HZ.out, HZ2.out]
            rw [e, ← List.append_assoc, ← List.append_assoc]
            exact h1, hs2.out.trans hst.out.2⟩
          case measure => simp [intOf]; omega
    · have hk' : k = ns.length := by omega
      subst hk'
      have ho' : Hid (OutAt wr b v1 (l ++ ns.flatMap uint)) := by
        have := ho.out
        rw [List.take_length] at this
        exact this
      clear hr hf hr1 hf1 h hU ho
      go_wp2_with (fail)
      go_end0
      exact ⟨rfl, v1, ho'.out, hs.out⟩
end Go.Proofs.YtoipokjoklhfjaaDoor
