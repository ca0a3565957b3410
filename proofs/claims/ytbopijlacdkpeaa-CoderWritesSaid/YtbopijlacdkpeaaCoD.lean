/-
  The contracts of an Out: numbers with a sign, bools, texts; rows laid by the caller.
-/
import Derived.Test.YtbopijlacdkpeaaCoC
namespace Go.Proofs.Ytbopijlacdkpeaa
open Go.RowKit numb

/-- a row laid in a new block -/
theorem row_laid {α : Type} (enc : α → Value) (w : World) (l : List α) (cs : Array Value) (hcs : cs = (l.map enc).toArray) (t : TypeId) (f : Nat × Nat) : Row enc (w.alloc (.cells cs t f)) (some ⟨w.heap.size, 0, none⟩) l := fun _ => by
  refine ⟨_, 0, rfl, fun j hj => ?_⟩
  rw [Nat.zero_add, cell_of_row _ _ j cs t f (heap_alloc_new w _), hcs]
  simp [hj]
theorem far_laid {w : World} {b : Nat} {v : Value} {l : List Nat} (h : OutAt w b v l) (n : Nat) : Far b v (some ⟨w.heap.size, 0, none⟩) n := fun _ x hx => by
  obtain rfl := Option.some.inj hx
  refine ⟨fun e => ?_, fun e => ?_⟩
  · have := h.lt
    simp only at e
    omega
  · have := (h.own.block e).2
    simp only at this
    omega

theorem out_uint_laid (b : Nat) (v : Value) (l : List Nat) (ns : List Nat) (cs : Array Value) (hcs : cs = (ns.map eU).toArray) (f : Nat × Nat) (n c : Nat) (hn : n = ns.length) (w : World) (h : OutAt w b v l) (hU : ∀ n ∈ ns, U64 n) (hc : ns.length ≤ 1099511627) (hsz : l.length + 10 * ns.length ≤ 1099511627776) :
    Calls Try.prog 8 #[.pointer (some ⟨b, 0, none⟩), .slice (some ⟨w.heap.size, 0, none⟩) n c] (w.alloc (.cells cs 27 f)) fun e w' => e = .returned (.tuple #[]) ∧ ∃ v', OutAt w' b v' (l ++ ns.flatMap uint) ∧ OutStep b v w v' w' := by
  subst hn
  refine (out_uint_any b v l (some ⟨w.heap.size, 0, none⟩) ns c _ (h.alloc _) (row_laid eU w ns cs hcs _ f) (far_laid h _) hU hc hsz).mono ?_
  rintro e w' ⟨he, v', h1, h2⟩
  exact ⟨he, v', h1, (OutStep.below ((Below.refl _ _).alloc (Nat.le_refl _) _)).trans h2⟩
/-- one number -/
theorem out_uint_one (b : Nat) (v : Value) (l : List Nat) (z : Nat) (w : World) (h : OutAt w b v l) (hz : U64 z) (hsz : l.length + 10 ≤ 1099511627776) :
    Calls Try.prog 8 #[.pointer (some ⟨b, 0, none⟩), .slice (some ⟨w.heap.size, 0, none⟩) 1 1] (w.alloc (.cells #[.int .u64 (z : Nat)] 27)) fun e w' => e = .returned (.tuple #[]) ∧ ∃ v', OutAt w' b v' (l ++ uint z) ∧ OutStep b v w v' w' := by
  have := out_uint_laid b v l [z] _ rfl (0, 0) 1 1 rfl w h (by simpa using hz) (by simp) (by simpa using hsz)
  rw [show [z].flatMap uint = uint z by simp] at this
  exact this

theorem zig_U64 {n : Int} (h : I64 n) : U64 (zig n) := zig_lt h.1 h.2
theorem pre_length_int (ns : List Int) : ∀ k, (∀ n ∈ ns, I64 n) → k ≤ ns.length → ((ns.take k).flatMap fun n => uint (zig n)).length ≤ 10 * k := by
  intro k hU hk
  have := pre_length (ns.map zig) k (fun z hz => by
    simp only [List.mem_map] at hz
    obtain ⟨n, hn, rfl⟩ := hz
    exact zig_U64 (hU n hn)) (by simpa using hk)
  rw [← List.map_take, List.flatMap_map] at this
  exact this

set_option maxHeartbeats 2000000 in
theorem out_int_any (b : Nat) (v : Value) (l : List Nat) (A : Option Addr) (ns : List Int) (c : Nat) (w : World) (h : OutAt w b v l) (hr : Row eI w A ns) (hf : Far b v A ns.length) (hU : ∀ n ∈ ns, I64 n) (hc : ns.length ≤ 1099511627) (hsz : l.length + 10 * ns.length ≤ 1099511627776) :
    Calls Try.prog 9 #[.pointer (some ⟨b, 0, none⟩), .slice A ns.length c] w fun e w' => e = .returned (.tuple #[]) ∧ ∃ v', OutAt w' b v' (l ++ ns.flatMap fun n => uint (zig n)) ∧ OutStep b v w v' w' := by
  go_enter Try.func9, Try.ntmps9
  go_wp2
  go_loopw [5, 8] (fun _ i wr => ∃ (k : Nat) (v' : Value), k ≤ ns.length ∧ i = .int .i64 k ∧ Hid (OutAt wr b v' (l ++ (ns.take k).flatMap fun n => uint (zig n))) ∧ Hid (OutStep b v w v' wr)) (fun _ i _ => ns.length - (intOf i).toNat)
  case atStart => exact ⟨0, v, Nat.zero_le _, rfl, by simpa [Hid] using h, OutStep.refl _ _ _⟩
  case round =>
    obtain ⟨k, v1, hk, rfl, ho, hs⟩ := hrel
    obtain ⟨hr1, hf1⟩ := hr.step hf hs.out
    by_cases hlt : k < ns.length
    · obtain ⟨g, off, rfl, hcell⟩ := hr1 (by omega)
      have ck : wr.cell? ⟨g, off + k, none⟩ = some (Value.int .i64 ns[k]) := hcell k hlt
      have hn := hU ns[k] (List.getElem_mem hlt)
      have hpre := pre_length_int ns k hU hk
      have E := Lib.hid (List.take_succ_eq_append_getElem hlt)
      clear hcell hr hf hU h hf1
      generalize ns[k] = n at *
      go_wp2_with (fail)
      refine (unsigned_any n wr hn.1 hn.2).mono ?_
      rintro e w' ⟨rfl, rfl⟩
      go_wp2_with (fail)
      refine (out_uint_one b v1 _ (zig n) wr ho.out (zig_U64 hn) (by rw [List.length_append]; omega)).mono ?_
      rintro e w2 ⟨rfl, v2, ho2, hs2⟩
      have HO := Lib.hid ho2
      have HS := Lib.hid hs2
      clear ho2 hs2
      go_wp2_with (fail)
      go_roundw
      case rel => exact ⟨k + 1, v2, by omega, by go_num, by
        have := HO.out
        rw [E.out, List.flatMap_append, List.flatMap_cons, List.flatMap_nil, List.append_nil, ← List.append_assoc]
        exact this, hs.out.trans HS.out⟩
      case measure => simp [intOf]; omega
    · have hk' : k = ns.length := by omega
      subst hk'
      have ho' : Hid (OutAt wr b v1 (l ++ ns.flatMap fun n => uint (zig n))) := by
        have := ho.out
        rw [List.take_length] at this
        exact this
      clear hr hf hr1 hf1 h hU ho
      go_wp2_with (fail)
      go_end0
      exact ⟨rfl, v1, ho'.out, hs.out⟩

def bit (x : Bool) : Nat := if x then 1 else 0
theorem out_raw_one (b : Nat) (v : Value) (l : List Nat) (z : Nat) (w : World) (h : OutAt w b v l) (hsz : l.length + 1 ≤ 1099511627776) :
    Calls Try.prog 11 #[.pointer (some ⟨b, 0, none⟩), .slice (some ⟨w.heap.size, 0, none⟩) 1 1] (w.alloc (.cells #[.int .u8 (z : Nat)] 5)) fun e w' => e = .returned (.tuple #[]) ∧ ∃ v', OutAt w' b v' (l ++ [z]) ∧ OutStep b v w v' w' := by
  refine (out_raw_any b v l (some ⟨w.heap.size, 0, none⟩) [z] 1 _ (h.alloc _) (row_laid e8 w [z] _ rfl _ _) (by simpa using hsz)).mono ?_
  rintro e w' ⟨he, v', h1, h2⟩
  exact ⟨he, v', h1, (OutStep.below ((Below.refl _ _).alloc (Nat.le_refl _) _)).trans h2⟩
set_option maxHeartbeats 2000000 in
theorem out_bool_any (b : Nat) (v : Value) (l : List Nat) (A : Option Addr) (ns : List Bool) (c : Nat) (w : World) (h : OutAt w b v l) (hr : Row Value.bool w A ns) (hf : Far b v A ns.length) (hc : ns.length ≤ 1099511627) (hsz : l.length + ns.length ≤ 1099511627776) :
    Calls Try.prog 10 #[.pointer (some ⟨b, 0, none⟩), .slice A ns.length c] w fun e w' => e = .returned (.tuple #[]) ∧ ∃ v', OutAt w' b v' (l ++ ns.map bit) ∧ OutStep b v w v' w' := by
  go_enter Try.func10, Try.ntmps10
  go_wp2
  go_loopw [5, 8] (fun _ i wr => ∃ (k : Nat) (v' : Value), k ≤ ns.length ∧ i = .int .i64 k ∧ Hid (OutAt wr b v' (l ++ (ns.take k).map bit)) ∧ Hid (OutStep b v w v' wr)) (fun _ i _ => ns.length - (intOf i).toNat)
  case atStart => exact ⟨0, v, Nat.zero_le _, rfl, by simpa [Hid] using h, OutStep.refl _ _ _⟩
  case round =>
    obtain ⟨k, v1, hk, rfl, ho, hs⟩ := hrel
    obtain ⟨hr1, hf1⟩ := hr.step hf hs.out
    by_cases hlt : k < ns.length
    · obtain ⟨g, off, rfl, hcell⟩ := hr1 (by omega)
      have ck : wr.cell? ⟨g, off + k, none⟩ = some (Value.bool ns[k]) := hcell k hlt
      have E := Lib.hid (List.take_succ_eq_append_getElem hlt)
      have hsz' : (l ++ (ns.take k).map bit).length + 1 ≤ 1099511627776 := by simp; omega
      clear hcell hr hf h hf1
      generalize ns[k] = x at *
      cases x
      · go_wp2_with (fail)
        refine (out_raw_one b v1 _ 0 wr ho.out hsz').mono ?_
        rintro e w2 ⟨rfl, v2, ho2, hs2⟩
        have HO := Lib.hid ho2
        have HS := Lib.hid hs2
        clear ho2 hs2
        go_wp2_with (fail)
        go_roundw
        case rel => exact ⟨k + 1, v2, by omega, by go_num, by
          have := HO.out
          rw [E.out, List.map_append, List.map_cons, List.map_nil, ← List.append_assoc]
          exact this, hs.out.trans HS.out⟩
        case measure => simp [intOf]; omega
      · go_wp2_with (fail)
        refine (out_raw_one b v1 _ 1 wr ho.out hsz').mono ?_
        rintro e w2 ⟨rfl, v2, ho2, hs2⟩
        have HO := Lib.hid ho2
        have HS := Lib.hid hs2
        clear ho2 hs2
        go_wp2_with (fail)
        go_roundw
        case rel => exact ⟨k + 1, v2, by omega, by go_num, by
          have := HO.out
          rw [E.out, List.map_append, List.map_cons, List.map_nil, ← List.append_assoc]
          exact this, hs.out.trans HS.out⟩
        case measure => simp [intOf]; omega
    · have hk' : k = ns.length := by omega
      subst hk'
      have ho' : Hid (OutAt wr b v1 (l ++ ns.map bit)) := by
        have := ho.out
        rw [List.take_length] at this
        exact this
      clear hr hf hr1 hf1 h ho
      go_wp2_with (fail)
      go_end0
      exact ⟨rfl, v1, ho'.out, hs.out⟩

/-- a text's bytes -/
def text (l : List Nat) : List Nat := uint l.length ++ l
set_option maxHeartbeats 2000000 in
theorem out_text_any (b : Nat) (v : Value) (l : List Nat) (s : ByteArray) (w : World) (h : OutAt w b v l) (hs : s.size ≤ 1099511627) (hsz : l.length + 10 + s.size ≤ 1099511627776) :
    Calls Try.prog 12 #[.pointer (some ⟨b, 0, none⟩), .string s] w fun e w' => e = .returned (.tuple #[]) ∧ ∃ v', OutAt w' b v' (l ++ text (natsOf s)) ∧ OutStep b v w v' w' := by
  have hu : U64 s.size := by unfold U64; omega
  have hlen := uint_length_le (v := s.size) (k := 10) (by omega) (Nat.lt_of_lt_of_le hu.lt (by decide))
  go_enter Try.func12, Try.ntmps12
  go_wp2_with (fail)
  refine (out_uint_one b v l s.size w h hu (by omega)).mono ?_
  rintro e w1 ⟨rfl, v1, ho, hs1⟩
  obtain ⟨v', w2, run, own, hg, hn⟩ := app_text w1 0 v1 _ ho.own s (by rw [List.length_append]; omega) (Nat.zero_le _)
  obtain ⟨a', n', c', rfl⟩ := own.val
  have hst := Lib.hid (ho.stored own hg hn)
  have hc := ho.cell
  have hb1 := hg.block b ho.lt (fun e => ho.apart e.symm)
  have hc1 : w2.cell? ⟨b, 0, none⟩ = some v1 := (World.cell?_of_block (a := ⟨b, 0, none⟩) hb1).trans ho.cell
  have hfr1 : w2.frozen? ⟨b, 0, none⟩ = false := (World.frozen?_of_block (a := ⟨b, 0, none⟩) hb1).trans ho.frz
  have HS := Lib.hid hs1
  clear own hg hn hb1 h ho hs1
  go_wp2_with (at_builtin; refine wpList_append_run rfl _ _ 24 9 24 rfl rfl _ _ _ _ rfl rfl run ?_)
  go_end0
  refine ⟨rfl, _, ?_, HS.out.trans hst.out.2⟩
  unfold text
  rw [natsOf_length, ← List.append_assoc]
  exact hst.out.1
end Go.Proofs.Ytbopijlacdkpeaa
