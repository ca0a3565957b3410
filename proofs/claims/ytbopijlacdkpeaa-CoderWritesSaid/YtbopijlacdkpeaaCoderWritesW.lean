/-
  The walk of the law CoderWrites.
-/
import Derived.Test.YtbopijlacdkpeaaCoOpen2
import Derived.Test.YtbopijlacdkpeaaCoderManyW
import Derived.Deep.DeepCutAuto
import Derived.Deep.CutBlock
namespace Go.Proofs.Ytbopijlacdkpeaa
open Go.RowKit numb

/-- an Item's bytes -/
def itL (x : It) : List Nat := if x.kind = 1 then uint x.n else if x.kind = 2 then uint (zig x.i) else if x.kind = 3 then [bit x.b] else if x.kind = 4 then natsOf x.s else if x.kind = 5 then text (natsOf x.s) else []
theorem uint10 {v : Nat} (h : U64 v) : (uint v).length ≤ 10 := uint_length_le (v := v) (k := 10) (by omega) (Nat.lt_of_lt_of_le h.lt (by decide))
theorem textL_are (l : List Nat) (h : AreBytes l) : AreBytes (text l) := AreBytes.append (uint_bytes _) h
theorem itL_are (x : It) : AreBytes (itL x) := by
  unfold itL
  split
  · exact uint_bytes _
  · split
    · exact uint_bytes _
    · split
      · exact bit_are [x.b]
      · split
        · exact natsOf_are _
        · split
          · exact textL_are _ (natsOf_are _)
          · exact AreBytes.nil
theorem itL_le {x : It} (hn : U64 x.n) (hi : I64 x.i) (hs : x.s.size ≤ 500) : (itL x).length ≤ 520 := by
  unfold itL
  split
  · have := uint10 hn; omega
  · split
    · have := uint10 (zig_U64 hi); omega
    · split
      · simp
      · split
        · rw [natsOf_length]; omega
        · split
          · unfold text
            rw [List.length_append, natsOf_length]
            have := uint10 (v := x.s.size) (by unfold U64; omega)
            omega
          · simp
def flat (l : List It) : List Nat := l.flatMap itL
theorem flat_are' (l : List It) : AreBytes (flat l) := fun z hz => by
  simp only [flat, List.mem_flatMap] at hz
  obtain ⟨x, _, hz⟩ := hz
  exact itL_are x z hz
theorem flat_le (l : List It) (hu : ∀ x ∈ l, I64 x.kind ∧ U64 x.n ∧ I64 x.i) : ∀ k, k ≤ l.length → (∀ x ∈ l.take k, x.s.size ≤ 500) → (flat (l.take k)).length ≤ 520 * k := by
  intro k
  induction k with
  | zero => simp [flat]
  | succ k ih =>
    intro hk hs
    have hm : ∀ x ∈ l.take k, x ∈ l.take (k + 1) := fun x hx => by
      rw [List.take_succ_eq_append_getElem (by omega)]
      exact List.mem_append_left _ hx
    have h1 := ih (by omega) (fun x hx => hs x (hm x hx))
    have hx := hu l[k] (List.getElem_mem (by omega))
    have h2 := itL_le hx.2.1 hx.2.2 (hs l[k] (by rw [List.take_succ_eq_append_getElem (by omega)]; exact List.mem_append_right _ (List.mem_singleton.2 rfl)))
    unfold flat at h1 ⊢
    rw [List.take_succ_eq_append_getElem (by omega), List.flatMap_append, List.length_append, List.flatMap_cons, List.flatMap_nil, List.append_nil]
    omega
theorem flat_snoc {l : List It} {k : Nat} (hk : k < l.length) : flat (l.take (k + 1)) = flat (l.take k) ++ itL l[k] := by
  unfold flat
  rw [List.take_succ_eq_append_getElem hk, List.flatMap_append, List.flatMap_cons, List.flatMap_nil, List.append_nil]
theorem flat_drop {l : List It} {k : Nat} (hk : k < l.length) : flat (l.drop k) = itL l[k] ++ flat (l.drop (k + 1)) := by
  unfold flat
  rw [List.drop_eq_getElem_cons hk, List.flatMap_cons]

/-! ### What was written is read back -/
theorem back_uint {v : Nat} (h : U64 v) (r : List Nat) : St.uint ⟨uint v ++ r, 0⟩ = (⟨r, 0⟩, v) := by
  have := read_uint h.lt r
  unfold St.uint
  rw [if_neg (fun h => h rfl), this]
  rfl
theorem back_int {n : Int} (h : I64 n) (r : List Nat) : St.int ⟨uint (zig n) ++ r, 0⟩ = (⟨r, 0⟩, n) := by
  unfold St.int
  rw [back_uint (zig_U64 h) r, zag_zig]
theorem back_raw (s : ByteArray) (r : List Nat) : St.raw ⟨natsOf s ++ r, 0⟩ (s.size : Nat) = (⟨r, 0⟩, natsOf s) := by
  have hl := natsOf_length s
  unfold St.raw
  rw [if_neg (fun h => h rfl), if_neg (by omega), if_neg (by simp only [List.length_append]; omega), Int.toNat_natCast, ← hl]
  simp only [List.drop_left, List.take_left]
theorem back_bool (x : Bool) (r : List Nat) : St.bool ⟨[bit x] ++ r, 0⟩ = (⟨r, 0⟩, x) := by
  have hr : St.raw ⟨[bit x] ++ r, 0⟩ 1 = (⟨r, 0⟩, [bit x]) := by
    unfold St.raw
    rw [if_neg (fun h => h rfl), if_neg (by omega), if_neg (by simp only [List.length_append, List.length_cons, List.length_nil]; omega)]
    rfl
  obtain ⟨_, _, h⟩ := raw1_some (s := ⟨[bit x] ++ r, 0⟩) (z := bit x) (r := []) (by rw [hr])
  rw [h, hr]
  cases x <;> rfl
theorem back_below {s : ByteArray} (h : s.size ≤ 500) (r : List Nat) : St.below ⟨text (natsOf s) ++ r, 0⟩ (s.size : Nat) = (⟨natsOf s ++ r, 0⟩, s.size) := by
  have e : St.uint ⟨text (natsOf s) ++ r, 0⟩ = (⟨natsOf s ++ r, 0⟩, s.size) := by
    unfold text
    rw [natsOf_length, List.append_assoc]
    exact back_uint (by unfold U64; omega) _
  unfold St.below
  rw [e, if_neg (fun h => by have := h.2; simp only at this; omega)]
theorem back_text {s : ByteArray} (h : s.size ≤ 500) (r : List Nat) : St.text ⟨text (natsOf s) ++ r, 0⟩ (s.size : Nat) = (⟨r, 0⟩, natsOf s) := by
  unfold St.text
  rw [back_below h r]
  exact back_raw s r

/-! ### Memory -/
/-- an Item in memory, at block b -/
structure ItAt (w : World) (b : Nat) (x : It) : Prop where
  x0 : w.cell? ⟨b, 0, none⟩ = some (.int .i64 x.kind)
  x1 : w.cell? ⟨b, 1, none⟩ = some (.int .u64 (x.n : Nat))
  x2 : w.cell? ⟨b, 2, none⟩ = some (.int .i64 x.i)
  x3 : w.cell? ⟨b, 3, none⟩ = some (.bool x.b)
  x4 : w.cell? ⟨b, 4, none⟩ = some (.string x.s)
theorem ItAt.lt {w : World} {b : Nat} {x : It} (h : ItAt w b x) : b < w.heap.size := World.block_lt_of_cell? w _ h.x0
theorem ItAt.stays {w w' : World} {b : Nat} {x : It} (h : ItAt w b x) (hb : w'.heap[b]? = w.heap[b]?) : ItAt w' b x :=
  ⟨(World.cell?_of_block (a := ⟨b, 0, none⟩) hb).trans h.x0, (World.cell?_of_block (a := ⟨b, 1, none⟩) hb).trans h.x1, (World.cell?_of_block (a := ⟨b, 2, none⟩) hb).trans h.x2, (World.cell?_of_block (a := ⟨b, 3, none⟩) hb).trans h.x3, (World.cell?_of_block (a := ⟨b, 4, none⟩) hb).trans h.x4⟩
theorem ItAt.below {w w' : World} {b : Nat} {x : It} (h : ItAt w b x) (hb : Below w.heap.size w w') : ItAt w' b x := h.stays (hb.block b h.lt)
theorem ItAt.step {w w' : World} {b bo : Nat} {x : It} {v v' : Value} (h : ItAt w b x) (hs : OutStep bo v w v' w') (h1 : b ≠ bo) (h2 : v.ownBlock ≠ some b) : ItAt w' b x := h.stays (hs.far b h.lt h1 h2).2
theorem ItAt.new (w : World) (x : It) (t : TypeId) : ItAt (w.alloc (.cells #[.int .i64 x.kind, .int .u64 (x.n : Nat), .int .i64 x.i, .bool x.b, .string x.s] t)) w.heap.size x :=
  ⟨cell_of_row _ _ 0 _ _ _ (heap_alloc_new w _), cell_of_row _ _ 1 _ _ _ (heap_alloc_new w _), cell_of_row _ _ 2 _ _ _ (heap_alloc_new w _), cell_of_row _ _ 3 _ _ _ (heap_alloc_new w _), cell_of_row _ _ 4 _ _ _ (heap_alloc_new w _)⟩
theorem InStep.drew (b : Nat) (w : World) : InStep b w w.drew := ⟨rfl, rfl, rfl, Nat.le_refl _, fun _ _ _ => rfl⟩
theorem InStep.it {bi b : Nat} {w w' : World} {x : It} (h : InStep bi w w') (hi : ItAt w b x) (hne : b ≠ bi) : ItAt w' b x := hi.stays (h.far b hi.lt hne)
/-- the In, ahead of the call and behind it -/
def Jw (lo bi : Nat) (s s2 : St) (ci : Nat) (L : Nat → Bool) (w : World) : Prop := InAt w lo bi (bif L ci then s2 else s)
/-- a slice of these bytes, not in the In's block -/
def sayIn (bi : Nat) (xs : List Nat) : regs.Say (InStep bi) := ⟨fun v w => ∃ a c, v = .slice a xs.length c ∧ Bs w a xs ∧ ∀ x, a = some x → x.block ≠ bi, fun _ w _ h hb => by
  obtain ⟨a, c, h1, h2, h3⟩ := h
  exact ⟨a, c, h1, h2.instep hb h3, h3⟩⟩
/-- an In of the call's own -/
structure RW (w0 w : World) (lo bi : Nat) (s : St) : Prop where
  i : InAt w lo bi s
  lo_le : lo ≤ bi
  new : w0.heap.size ≤ lo
  below : Below w0.heap.size w0 w
theorem RW.on {w0 w w' : World} {lo bi : Nat} {s : St} (h : RW w0 w lo bi s) (hb : Below w.heap.size w w') : RW w0 w' lo bi s := ⟨h.i.below h.lo_le hb, h.lo_le, h.new, h.below.trans (hb.mono h.below.size)⟩
theorem RW.next {w0 w w' : World} {lo bi : Nat} {s s2 : St} (h : RW w0 w lo bi s) (hi : InAt w' lo bi s2) (hr : InStep bi w w') : RW w0 w' lo bi s2 := ⟨hi, h.lo_le, h.new, h.below.trans (hr.to_below h.below.size (Nat.le_trans h.new h.lo_le))⟩

theorem bytes_conv (w : World) (g : Nat) (hg : g = w.heap.size) (s : ByteArray) :
    ∃ c w2, (convert 9 24 (.string s)).run Try.prog w = .ok (.slice (some ⟨g, 0, none⟩) s.size c) w2 ∧ Below w.heap.size w w2 ∧ Bs w2 (some ⟨g, 0, none⟩) (natsOf s) := by
  subst hg
  have h := run_bytes_of_string (P := Try.prog) w 9 24 5 s Try.underlying9 Try.underlying24 Try.underlying5
  refine ⟨_, _, h, ((Below.refl _ _).drew).alloc (Nat.le_refl _) _, fun _ => ⟨_, 0, rfl, fun j hj => ?_⟩⟩
  rw [Nat.zero_add]
  have hj' : j < s.size := by rw [natsOf_length] at hj; exact hj
  refine (cell_of_row _ _ j _ _ _ (heap_alloc_new w.drew _)).trans ?_
  unfold bytesRow
  rw [Array.getElem?_append_left (by simp; exact hj')]
  have := natsOf_at s hj'
  simp only [this]
  simp [e8]
  exact ⟨s[j], Array.getElem?_eq_getElem hj', rfl⟩

/-! ### The document's bytes of an Item -/
theorem kinds5 (k : Int) : k = 1 ∨ k = 2 ∨ k = 3 ∨ k = 4 ∨ k = 5 ∨ (k ≠ 1 ∧ k ≠ 2 ∧ k ≠ 3 ∧ k ≠ 4 ∧ k ≠ 5) := by omega
set_option maxHeartbeats 2000000 in
theorem item_any (kd : Int) (nn : Nat) (ii : Int) (bb : Bool) (ss : ByteArray) (w : World) (hU : U64 nn) (hI : I64 ii) (hs : ss.size ≤ 500) :
    Calls Try.prog 13 #[.agg #[.int .i64 kd, .int .u64 (nn : Nat), .int .i64 ii, .bool bb, .string ss]] w fun e w' => e = .returned (.string (strOf (itL ⟨kd, nn, ii, bb, ss⟩))) ∧ Below w.heap.size w w' := by
  have hb0 : ∀ o, Below w.heap.size w (w.alloc o) := fun o => (Below.refl _ _).alloc (Nat.le_refl _) o
  rcases kinds5 kd with hk | hk | hk | hk | hk | hk
  · have t11 : (kd == 1) = true := by simp; omega
    have hE : itL ⟨kd, nn, ii, bb, ss⟩ = uint nn := by rw [hk]; rfl
    rw [hE]
    clear hk hE
    go_enter Try.func13, Try.ntmps13
    go_wp2_with (fail)
    refine (ref_uint nn _ hU).mono ?_
    rintro e w1 ⟨rfl, hb⟩
    have HB := Lib.hid ((hb0 _).trans (hb.mono (hb0 _).size))
    clear hb hb0
    go_wp2_with (fail)
    go_ret
    exact ⟨rfl, HB.out⟩
  · have t11 : (kd == 1) = false := by simp; omega
    have t12 : (kd == 2) = true := by simp; omega
    have hE : itL ⟨kd, nn, ii, bb, ss⟩ = uint (zig ii) := by rw [hk]; rfl
    rw [hE]
    clear hk hE
    go_enter Try.func13, Try.ntmps13
    go_wp2_with (fail)
    refine (ref_int ii _ hI).mono ?_
    rintro e w1 ⟨rfl, hb⟩
    have HB := Lib.hid ((hb0 _).trans (hb.mono (hb0 _).size))
    clear hb hb0
    go_wp2_with (fail)
    go_ret
    exact ⟨rfl, HB.out⟩
  · have t11 : (kd == 1) = false := by simp; omega
    have t12 : (kd == 2) = false := by simp; omega
    have t13 : (kd == 3) = true := by simp; omega
    have hE : itL ⟨kd, nn, ii, bb, ss⟩ = [bit bb] := by rw [hk]; rfl
    rw [hE]
    clear hk hE
    go_enter Try.func13, Try.ntmps13
    go_wp2_with (fail)
    refine (ref_bool bb _).mono ?_
    rintro e w1 ⟨rfl, rfl⟩
    have HB := Lib.hid hb0
    clear hb0
    go_wp2_with (fail)
    go_ret
    exact ⟨rfl, HB.out _⟩
  · have t11 : (kd == 1) = false := by simp; omega
    have t12 : (kd == 2) = false := by simp; omega
    have t13 : (kd == 3) = false := by simp; omega
    have t14 : (kd == 4) = true := by simp; omega
    have hE : itL ⟨kd, nn, ii, bb, ss⟩ = natsOf ss := by rw [hk]; rfl
    rw [hE, strOf_natsOf]
    have HB := Lib.hid hb0
    clear hk hE hb0
    go_enter Try.func13, Try.ntmps13
    go_wp2_with (fail)
    go_ret
    exact ⟨rfl, HB.out _⟩
  · have t11 : (kd == 1) = false := by simp; omega
    have t12 : (kd == 2) = false := by simp; omega
    have t13 : (kd == 3) = false := by simp; omega
    have t14 : (kd == 4) = false := by simp; omega
    have t15 : (kd == 5) = true := by simp; omega
    have hE : itL ⟨kd, nn, ii, bb, ss⟩ = text (natsOf ss) := by rw [hk]; rfl
    rw [hE]
    clear hk hE
    go_enter Try.func13, Try.ntmps13
    go_wp2_with (fail)
    refine (ref_text ss _ (by omega)).mono ?_
    rintro e w1 ⟨rfl, hb⟩
    have HB := Lib.hid ((hb0 _).trans (hb.mono (hb0 _).size))
    clear hb hb0
    go_wp2_with (fail)
    go_ret
    exact ⟨rfl, HB.out⟩
  · have t11 : (kd == 1) = false := by simp; omega
    have t12 : (kd == 2) = false := by simp; omega
    have t13 : (kd == 3) = false := by simp; omega
    have t14 : (kd == 4) = false := by simp; omega
    have t15 : (kd == 5) = false := by simp; omega
    have hE : itL ⟨kd, nn, ii, bb, ss⟩ = [] := by unfold itL; simp only; rw [if_neg hk.1, if_neg hk.2.1, if_neg hk.2.2.1, if_neg hk.2.2.2.1, if_neg hk.2.2.2.2]
    rw [hE]
    have HB := Lib.hid hb0
    clear hk hE hb0
    go_enter Try.func13, Try.ntmps13
    go_wp2_with (fail)
    go_ret
    exact ⟨rfl, HB.out _⟩

set_option maxHeartbeats 1000000 in
theorem writes_long (A : Option Addr) (l : List It) (c : Nat) (w : World) (h : 60 < l.length) :
    Calls Try.prog 3 #[.slice A l.length c] w fun e w' => e = .returned (.bool true) ∧ Below w.heap.size w w' := by
  have t : decide ((60 : Int) < (l.length : Int)) = true := by simp; omega
  clear h
  go_enter Try.func3, Try.ntmps3
  go_wp2_with (fail)
  refine (awake_any w).mono ?_
  rintro e w' ⟨rfl, hb⟩
  go_wp2_with (fail)
  go_ret
  exact ⟨rfl, hb⟩

set_option maxRecDepth 100000 in
set_option maxHeartbeats 1500000 in
theorem writes_walk (A : Option Addr) (l : List It) (c : Nat) (w : World) (hl : ItRow w A l) (hu : ∀ x ∈ l, I64 x.kind ∧ U64 x.n ∧ I64 x.i) (h2 : l.length ≤ 60) :
    Calls Try.prog 3 #[.slice A l.length c] w fun e w' => e = .returned (.bool true) ∧ Below w.heap.size w w' := by
  have t2 : decide ((60 : Int) < (l.length : Int)) = false := by simp; omega
  have HL := Lib.hid hl
  have HU := Lib.hid hu
  have M0 : Hid (Mine w (w.alloc (.cells #[.slice none 0 0] 26)) w.heap.size (.slice none 0 0) []) := ⟨out_new w, Nat.le_refl _, fun g hg => absurd hg (nil_own g), (Below.refl _ _).alloc (Nat.le_refl _) _⟩
  clear hl hu
  go_enter Try.func3, Try.ntmps3
  go_wp2_with (fail)
  go_loopw [4, 17] (fun s4 i wr => ∃ (k : Nat) (v : Value), k ≤ l.length ∧ i = .int .i64 k ∧ s4 = .string (strOf (flat (l.take k))) ∧ Hid (Mine w wr w.heap.size v (flat (l.take k))) ∧ Hid (∀ x ∈ l.take k, x.s.size ≤ 500)) (fun _ i _ => l.length - (intOf i).toNat)
  case atStart => exact ⟨0, _, Nat.zero_le _, rfl, rfl, M0.out, fun x hx => by simp at hx⟩
  case round =>
    obtain ⟨k, v1, hk, rfl, rfl, mk, hsm⟩ := hrel
    clear M0
    by_cases hlt : k < l.length
    · obtain ⟨g, off, rfl, hcell⟩ := (HL.out.below mk.out.below) (by omega)
      obtain ⟨ck0, ck1, ck2, ck3, ck4⟩ := hcell k hlt
      obtain ⟨_, hUn, hIi⟩ := HU.out l[k] (List.getElem_mem hlt)
      have hfl := flat_le l HU.out k hk hsm.out
      have hfa := flat_are' (l.take k)
      have hfs := Lib.hid (flat_snoc hlt)
      have hsn : Hid (l[k].s.size ≤ 500 → ∀ x ∈ l.take (k + 1), x.s.size ≤ 500) := fun h0 x hx => by
        rw [List.take_succ_eq_append_getElem hlt] at hx
        rcases List.mem_append.1 hx with hx | hx
        · exact hsm.out x hx
        · rw [List.mem_singleton.1 hx]; exact h0
      have hUn := Lib.hid hUn
      have hIi := Lib.hid hIi
      clear hcell
      generalize l[k] = x at *
      obtain ⟨kd, nn, ii, bb, ss⟩ := x
      simp only at ck0 ck1 ck2 ck3 ck4 hUn hIi hsn
      by_cases hbig : 500 < ss.size
      · have tb : decide ((500 : Int) < (ss.size : Int)) = true := by simp; omega
        clear hbig hfl hfa
        go_wp2_with (fail)
        refine (awake_any _).mono ?_
        rintro e w5 ⟨rfl, hb⟩
        have B5 := Lib.hid ((mk.out.on ((Below.refl _ _).alloc (Nat.le_refl _) _)).on hb).below
        clear hb
        go_wp2_with (fail)
        go_ret
        exact ⟨rfl, B5.out⟩
      · have tb : decide ((500 : Int) < (ss.size : Int)) = false := by simp; omega
        have hss : Hid (ss.size ≤ 500) := by show _ ≤ _; omega
        have HIT : Hid (ItAt (wr.alloc (.cells #[.int .i64 kd, .int .u64 (nn : Nat), .int .i64 ii, .bool bb, .string ss] 29)) wr.heap.size ⟨kd, nn, ii, bb, ss⟩) := ItAt.new wr ⟨kd, nn, ii, bb, ss⟩ _
        have MA : Hid (Mine w (wr.alloc (.cells #[.int .i64 kd, .int .u64 (nn : Nat), .int .i64 ii, .bool bb, .string ss] 29)) w.heap.size v1 (flat (l.take k))) := mk.out.on ((Below.refl _ _).alloc (Nat.le_refl _) _)
        have HNE : Hid (wr.heap.size ≠ w.heap.size ∧ v1.ownBlock ≠ some wr.heap.size) := ⟨fun e => by have := mk.out.at_.lt; omega, fun e => by have := (mk.out.at_.own.block e).2; omega⟩
        have HLk : Hid ((flat (l.take k)).length + 10 + 500 ≤ 1099511627776) := by show _ ≤ _; omega
        have HFL := Lib.hid hfl
        have HFA := Lib.hid hfa
        clear hbig hfl hfa
        generalize flat (l.take k) = Lk at *
        go_upto_block 2 with (fail)
        go_cut [28] (fun _ wx => Hid (ItAt wx wr.heap.size ⟨kd, nn, ii, bb, ss⟩ ∧ ∃ v2, Mine w wx w.heap.size v2 (Lk ++ itL ⟨kd, nn, ii, bb, ss⟩)))
        case first =>
          clear ck0 ck1 ck2 ck3 ck4
          rcases kinds5 kd with hk | hk | hk | hk | hk | hk
          · have t11 : (kd == 1) = true := by simp; omega
            have hE : itL ⟨kd, nn, ii, bb, ss⟩ = uint nn := by rw [hk]; rfl
            have HE := Lib.hid hE
            clear hk hE
            obtain ⟨x0, x1, x2, x3, x4⟩ := HIT.out
            go_wp2_with (fail)
            refine (out_uint_laid' w.heap.size v1 Lk [nn] _ rfl (0, 0) 1 1 rfl _ _ (by simp) MA.out.at_ (fun n hn => by simp at hn; subst hn; exact hUn.out) (by simp) (by simp; have := HLk.out; omega)).mono ?_
            rintro e w2 ⟨rfl, v2, o2, s2⟩
            rw [show [nn].flatMap uint = uint nn by simp] at o2
            have M2 : Hid (ItAt w2 wr.heap.size ⟨kd, nn, ii, bb, ss⟩ ∧ ∃ v2, Mine w w2 w.heap.size v2 (Lk ++ itL ⟨kd, nn, ii, bb, ss⟩)) := by
              rw [HE.out]
              exact ⟨HIT.out.step s2 HNE.out.1 HNE.out.2, v2, MA.out.step o2 s2⟩
            clear o2 s2
            go_wp2_with (fail)
            go_meet
            exact M2.out
          · have t11 : (kd == 1) = false := by simp; omega
            have t12 : (kd == 2) = true := by simp; omega
            have hE : itL ⟨kd, nn, ii, bb, ss⟩ = uint (zig ii) := by rw [hk]; rfl
            have HE := Lib.hid hE
            clear hk hE
            obtain ⟨x0, x1, x2, x3, x4⟩ := HIT.out
            go_wp2_with (fail)
            refine (out_int_laid w.heap.size v1 Lk [ii] _ rfl (0, 0) 1 1 rfl _ _ (by simp) MA.out.at_ (fun n hn => by simp at hn; subst hn; exact hIi.out) (by simp) (by simp; have := HLk.out; omega)).mono ?_
            rintro e w2 ⟨rfl, v2, o2, s2⟩
            rw [show ([ii].flatMap fun n => uint (zig n)) = uint (zig ii) by simp] at o2
            have M2 : Hid (ItAt w2 wr.heap.size ⟨kd, nn, ii, bb, ss⟩ ∧ ∃ v2, Mine w w2 w.heap.size v2 (Lk ++ itL ⟨kd, nn, ii, bb, ss⟩)) := by
              rw [HE.out]
              exact ⟨HIT.out.step s2 HNE.out.1 HNE.out.2, v2, MA.out.step o2 s2⟩
            clear o2 s2
            go_wp2_with (fail)
            go_meet
            exact M2.out
          · have t11 : (kd == 1) = false := by simp; omega
            have t12 : (kd == 2) = false := by simp; omega
            have t13 : (kd == 3) = true := by simp; omega
            have hE : itL ⟨kd, nn, ii, bb, ss⟩ = [bit bb] := by rw [hk]; rfl
            have HE := Lib.hid hE
            clear hk hE
            obtain ⟨x0, x1, x2, x3, x4⟩ := HIT.out
            go_wp2_with (fail)
            refine (out_bool_laid w.heap.size v1 Lk [bb] _ rfl (0, 0) 1 1 rfl _ _ (by simp) MA.out.at_ (by simp) (by simp; have := HLk.out; omega)).mono ?_
            rintro e w2 ⟨rfl, v2, o2, s2⟩
            have M2 : Hid (ItAt w2 wr.heap.size ⟨kd, nn, ii, bb, ss⟩ ∧ ∃ v2, Mine w w2 w.heap.size v2 (Lk ++ itL ⟨kd, nn, ii, bb, ss⟩)) := by
              rw [HE.out]
              exact ⟨HIT.out.step s2 HNE.out.1 HNE.out.2, v2, MA.out.step o2 s2⟩
            clear o2 s2
            go_wp2_with (fail)
            go_meet
            exact M2.out
          · have t11 : (kd == 1) = false := by simp; omega
            have t12 : (kd == 2) = false := by simp; omega
            have t13 : (kd == 3) = false := by simp; omega
            have t14 : (kd == 4) = true := by simp; omega
            have hE : itL ⟨kd, nn, ii, bb, ss⟩ = natsOf ss := by rw [hk]; rfl
            have HE := Lib.hid hE
            clear hk hE
            obtain ⟨cc, wb, hconv, hbw, hbs⟩ := bytes_conv (wr.alloc (.cells #[.int .i64 kd, .int .u64 (nn : Nat), .int .i64 ii, .bool bb, .string ss] 29)) (wr.heap.size + 1) (by simp) ss
            have MB := Lib.hid (MA.out.on hbw)
            have HITB := Lib.hid (HIT.out.below hbw)
            have HBS := Lib.hid hbs
            have hnl := natsOf_length ss
            clear hbw hbs
            obtain ⟨x0, x1, x2, x3, x4⟩ := HIT.out
            go_wp2_with (fail)
            have hcl := out_raw_any w.heap.size v1 Lk _ (natsOf ss) cc wb MB.out.at_ HBS.out (by rw [hnl]; have := HLk.out; have := hss.out; omega)
            rw [hnl] at hcl
            refine hcl.mono ?_
            rintro e w2 ⟨rfl, v2, o2, s2⟩
            have M2 : Hid (ItAt w2 wr.heap.size ⟨kd, nn, ii, bb, ss⟩ ∧ ∃ v2, Mine w w2 w.heap.size v2 (Lk ++ itL ⟨kd, nn, ii, bb, ss⟩)) := by
              rw [HE.out]
              exact ⟨HITB.out.step s2 HNE.out.1 HNE.out.2, v2, MB.out.step o2 s2⟩
            clear o2 s2
            go_wp2_with (fail)
            go_meet
            exact M2.out
          · have t11 : (kd == 1) = false := by simp; omega
            have t12 : (kd == 2) = false := by simp; omega
            have t13 : (kd == 3) = false := by simp; omega
            have t14 : (kd == 4) = false := by simp; omega
            have t15 : (kd == 5) = true := by simp; omega
            have hE : itL ⟨kd, nn, ii, bb, ss⟩ = text (natsOf ss) := by rw [hk]; rfl
            have HE := Lib.hid hE
            clear hk hE
            obtain ⟨x0, x1, x2, x3, x4⟩ := HIT.out
            go_wp2_with (fail)
            refine (out_text_any w.heap.size v1 Lk ss _ MA.out.at_ (by have := hss.out; omega) (by have := HLk.out; have := hss.out; omega)).mono ?_
            rintro e w2 ⟨rfl, v2, o2, s2⟩
            have M2 : Hid (ItAt w2 wr.heap.size ⟨kd, nn, ii, bb, ss⟩ ∧ ∃ v2, Mine w w2 w.heap.size v2 (Lk ++ itL ⟨kd, nn, ii, bb, ss⟩)) := by
              rw [HE.out]
              exact ⟨HIT.out.step s2 HNE.out.1 HNE.out.2, v2, MA.out.step o2 s2⟩
            clear o2 s2
            go_wp2_with (fail)
            go_meet
            exact M2.out
          · have t11 : (kd == 1) = false := by simp; omega
            have t12 : (kd == 2) = false := by simp; omega
            have t13 : (kd == 3) = false := by simp; omega
            have t14 : (kd == 4) = false := by simp; omega
            have t15 : (kd == 5) = false := by simp; omega
            have hE : itL ⟨kd, nn, ii, bb, ss⟩ = [] := by unfold itL; simp only; rw [if_neg hk.1, if_neg hk.2.1, if_neg hk.2.2.1, if_neg hk.2.2.2.1, if_neg hk.2.2.2.2]
            have HE := Lib.hid hE
            clear hk hE
            have M2 : Hid (ItAt (wr.alloc (.cells #[.int .i64 kd, .int .u64 (nn : Nat), .int .i64 ii, .bool bb, .string ss] 29)) wr.heap.size ⟨kd, nn, ii, bb, ss⟩ ∧ ∃ v2, Mine w (wr.alloc (.cells #[.int .i64 kd, .int .u64 (nn : Nat), .int .i64 ii, .bool bb, .string ss] 29)) w.heap.size v2 (Lk ++ itL ⟨kd, nn, ii, bb, ss⟩)) := by
              rw [HE.out, List.append_nil]
              exact ⟨HIT.out, v1, MA.out⟩
            go_wp2_with (fail)
            go_meet
            exact M2.out
        case rest =>
          obtain ⟨hit, v2, m2⟩ := hcut
          have HM := Lib.hid m2
          obtain ⟨x0, x1, x2, x3, x4⟩ := hit
          simp only at x0 x1 x2 x3 x4
          clear m2 ck0 ck1 ck2 ck3 ck4 HIT MA
          go_wp2_with (fail)
          refine (item_any kd nn ii bb ss _ hUn.out hIi.out hss.out).mono ?_
          rintro e w5 ⟨rfl, hb5⟩
          have HM5 := Lib.hid (HM.out.on hb5)
          have hAL := itL_are ⟨kd, nn, ii, bb, ss⟩
          have hcat := strOf_append HFA.out hAL
          have hsz : (strOf Lk).size ≤ 1000000 := by rw [strOf_size]; have := HFL.out; omega
          have hsz2 : (strOf (itL ⟨kd, nn, ii, bb, ss⟩)).size ≤ 1000000 := by rw [strOf_size]; have := itL_le (x := ⟨kd, nn, ii, bb, ss⟩) hUn.out hIi.out hss.out; omega
          have HC := Lib.hid hcat
          generalize itL ⟨kd, nn, ii, bb, ss⟩ = Lx at *
          clear hb5 x0 x1 x2 x3 x4 HM hAL hcat
          go_wp2_with (fail)
          go_roundw
          case rel => exact ⟨k + 1, v2, by omega, by go_num, by rw [HC.out, hfs.out], by rw [hfs.out]; exact HM5.out, hsn.out hss.out⟩
          case measure => simp [intOf]; omega
    · have hk' : k = l.length := by omega
      subst hk'
      rw [List.take_length] at mk hsm ⊢
      have hfl := flat_le l HU.out l.length (Nat.le_refl _) (by rw [List.take_length]; exact hsm.out)
      rw [List.take_length] at hfl
      have hfa := flat_are' l
      obtain ⟨lb, hlb⟩ : ∃ lb, lb = flat l := ⟨_, rfl⟩
      rw [← hlb] at mk hfl hfa ⊢
      have HLB := Lib.hid hlb
      have HFA := Lib.hid hfa
      have HSZ : Hid (lb.length ≤ 1099511627776) := by show _ ≤ _; omega
      clear hlb hfa hfl
      go_wp2_with (fail)
      refine (out_bytes_any _ _ _ wr mk.out.at_ HFA.out HSZ.out).mono ?_
      rintro e w3 ⟨v3, rfl, own3, hb3⟩
      obtain ⟨a3, c3, rfl, hp3, _, _⟩ := own3.part HFA.out
      have hc3 := conv_str w3 a3 lb c3 hp3.at_
      have M3 := Lib.hid (mk.out.on hb3)
      clear own3 hb3 hp3 mk
      generalize strOf lb = t at *
      go_wp2_with (fail)
      refine (out_bytes_any _ _ _ w3 M3.out.at_ HFA.out HSZ.out).mono ?_
      rintro e w4 ⟨v4, rfl, own4, hb4⟩
      obtain ⟨a4, c4, rfl, hp4, _, _⟩ := own4.part HFA.out
      have hat4 := hp4.at_
      simp only at hat4
      have M4 := Lib.hid (M3.out.on hb4)
      clear own4 hb4 hp4 M3 hc3
      go_wp2_with (fail)
      refine (newin_any a4 lb c4 w4 hat4 HFA.out HSZ.out).mono ?_
      rintro e wn ⟨bi, rfl, hbi, i1, hb1⟩
      obtain ⟨lo, hlo⟩ : ∃ lo, lo = w4.heap.size := ⟨_, rfl⟩
      rw [← hlo] at i1 hbi
      have RW0 : Hid (RW w wn lo bi ⟨flat l, 0⟩) := by
        rw [← HLB.out]
        exact ⟨i1, hbi, by rw [hlo]; exact M4.out.below.size, (M4.out.on hb1).below⟩
      clear i1 hbi hlo hb1 hat4 M4
      simp only [In]
      go_wp2_with (fail)
      go_loopw [72] (fun i wr => ∃ k : Nat, k ≤ l.length ∧ i = .int .i64 k ∧ Hid (RW w wr lo bi ⟨flat (l.drop k), 0⟩)) (fun i _ => l.length - (intOf i).toNat)
      case atStart => exact ⟨0, Nat.zero_le _, rfl, by simpa [Hid] using RW0.out⟩
      case round =>
        obtain ⟨k, hk, rfl, rw_⟩ := hrel
        clear RW0
        by_cases hlt : k < l.length
        · obtain ⟨g, off, rfl, hcell⟩ := (HL.out.below rw_.out.below) (by omega)
          obtain ⟨ck0, ck1, ck2, ck3, ck4⟩ := hcell k hlt
          obtain ⟨_, hUn, hIi⟩ := HU.out l[k] (List.getElem_mem hlt)
          have hss := hsm.out l[k] (List.getElem_mem hlt)
          obtain ⟨s, hs0⟩ : ∃ s : St, s = ⟨flat (l.drop k), 0⟩ := ⟨_, rfl⟩
          obtain ⟨s2, hs2⟩ : ∃ s2 : St, s2 = ⟨flat (l.drop (k + 1)), 0⟩ := ⟨_, rfl⟩
          have hsE : s = ⟨itL l[k] ++ flat (l.drop (k + 1)), 0⟩ := by rw [hs0, flat_drop hlt]
          rw [← hs0] at rw_
          have HS2 := Lib.hid hs2
          have HSE := Lib.hid hsE
          have hUn := Lib.hid hUn
          have hIi := Lib.hid hIi
          have hss := Lib.hid hss
          clear hcell hs0 hs2 hsE
          generalize l[k] = x at *
          obtain ⟨kd, nn, ii, bb, ss⟩ := x
          simp only at ck0 ck1 ck2 ck3 ck4 hUn hIi hss
          have HIT : Hid (ItAt (wr.alloc (.cells #[.int .i64 kd, .int .u64 (nn : Nat), .int .i64 ii, .bool bb, .string ss] 29)) wr.heap.size ⟨kd, nn, ii, bb, ss⟩) := ItAt.new wr ⟨kd, nn, ii, bb, ss⟩ _
          have RSA : Hid (RW w (wr.alloc (.cells #[.int .i64 kd, .int .u64 (nn : Nat), .int .i64 ii, .bool bb, .string ss] 29)) lo bi s) := rw_.out.on ((Below.refl _ _).alloc (Nat.le_refl _) _)
          have HI0 := Lib.hid RSA.out.i
          have HNE : Hid (wr.heap.size ≠ bi) := fun e => by have := rw_.out.i.lt; omega
          go_upto_block 5 with (fail)
          go_cut [10] (fun ok wx => ok = .bool true ∧ Hid (RW w wx lo bi s2))
          case first =>
            clear ck0 ck1 ck2 ck3 ck4
            have hsE := HSE.out
            have hs2 := HS2.out
            rcases kinds5 kd with hk | hk | hk | hk | hk | hk
            · have t11 : (kd == 1) = true := by simp; omega
              have hE : itL ⟨kd, nn, ii, bb, ss⟩ = uint nn := by rw [hk]; rfl
              have HE := Lib.hid hE
              clear hk hE
              have hs : St.uint s = (s2, nn) := by rw [hsE, hs2, HE.out]; exact back_uint hUn.out _
              have HS := Lib.hid hs
              clear hs hsE hs2
              obtain ⟨x0, x1, x2, x3, x4⟩ := HIT.out
              go_wp2_with (fail)
              have hI0 := HI0.out
              have hne := HNE.out
              refine regs.wp_region_put (InStep bi) (Jw lo bi s s2 1) [80, 81, 82, 83, 84, 10] (by kernel_rfl) (by kernel_rfl) (fun _ => InStep.refl _ _) (fun _ _ _ => InStep.trans) (fun i => (match i with
                | 0 => regs.Say.val _ (.pointer (some ⟨bi, 0, none⟩))
                | 1 => regs.Say.val _ (.int .u64 (nn : Nat))
                | 2 => regs.Say.val _ (.pointer (some ⟨wr.heap.size, 1, none⟩))
                | 3 => regs.Say.val _ (.int .u64 (nn : Nat))
                | 4 => regs.Say.val _ (.bool true)
                | 5 => regs.Say.val _ (.bool true)
                | _ => regs.Say.any _ : regs.Say (InStep bi)).p) (fun _ => regs.Say.mono _) (by kernel_rfl) (InStep.drew _ _) (hI0) ⟨?_, ?_, ?_, ?_, ?_, ?_, trivial⟩ ?_
              · refine regs.StepOK.plain rfl fun L a w1 hh => ?_
                have h7 : a.tmps[7]?.getD undef = .pointer (some ⟨bi, 0, none⟩) := by rw [← Array.getD_eq_getD_getElem?]; exact hh.old 7 rfl
                have hJ := Lib.hid hh.st
                clear hh
                go_simp
                exact ⟨_, rfl, InStep.refl _ _, rfl, hJ.out⟩
              · refine regs.StepOK.plain rfl fun L a w1 hh => ?_
                have h80 : a.tmps[80]?.getD undef = .pointer (some ⟨bi, 0, none⟩) := by rw [← Array.getD_eq_getD_getElem?]; exact hh.dep 0 80 (by kernel_rfl) (by kernel_rfl)
                have hI : InAt w1 lo bi s := by
                  have := hh.st
                  unfold Jw at this
                  rw [hh.un] at this
                  exact this
                have hcall := in_uint_any lo bi s w1 hI
                rw [HS.out] at hcall
                clear hh
                go_simp
                refine hcall.mono ?_
                rintro e w9 ⟨rfl, p1, p2⟩
                exact ⟨_, rfl, p2, rfl, p1⟩
              · refine regs.StepOK.plain rfl fun L a w1 hh => ?_
                have h9 : a.tmps[9]?.getD undef = .pointer (some ⟨wr.heap.size, 0, none⟩) := by rw [← Array.getD_eq_getD_getElem?]; exact hh.old 9 rfl
                have hJ := Lib.hid hh.st
                clear hh
                go_simp
                exact ⟨_, rfl, InStep.refl _ _, rfl, hJ.out⟩
              · refine regs.StepOK.plain rfl fun L a w1 hh => ?_
                have h82 : a.tmps[82]?.getD undef = .pointer (some ⟨wr.heap.size, 1, none⟩) := by rw [← Array.getD_eq_getD_getElem?]; exact hh.dep 2 82 (by kernel_rfl) (by kernel_rfl)
                have c0 := (hh.rel.it HIT.out hne).x1
                have hJ := Lib.hid hh.st
                clear hh
                go_simp
                exact ⟨_, rfl, InStep.refl _ _, rfl, hJ.out⟩
              · refine regs.StepOK.plain rfl fun L a w1 hh => ?_
                have h81 : a.tmps[81]?.getD undef = .int .u64 (nn : Nat) := by rw [← Array.getD_eq_getD_getElem?]; exact hh.dep 1 81 (by kernel_rfl) (by kernel_rfl)
                have h83 : a.tmps[83]?.getD undef = .int .u64 (nn : Nat) := by rw [← Array.getD_eq_getD_getElem?]; exact hh.dep 3 83 (by kernel_rfl) (by kernel_rfl)
                have hJ := Lib.hid hh.st
                clear hh
                go_simp
                exact ⟨_, rfl, InStep.refl _ _, rfl, hJ.out⟩
              · refine regs.StepOK.plain rfl fun L a w1 hh => ?_
                have h84 : a.tmps[84]?.getD undef = .bool true := by rw [← Array.getD_eq_getD_getElem?]; exact hh.dep 4 84 (by kernel_rfl) (by kernel_rfl)
                have hJ := Lib.hid hh.st
                clear hh
                go_simp
                exact ⟨_, rfl, InStep.refl _ _, rfl, hJ.out⟩
              intro Lf w5 val hL hJ hR2 hf
              have v10 : val 10 = .bool true := hf 5 10 (by kernel_rfl)
              unfold Jw at hJ
              rw [hL 1 (by decide)] at hJ
              have RS5 : Hid (RW w w5 lo bi s2) := RSA.out.next hJ hR2
              clear hf hJ hL hR2 hI0 hne
              simp only [regs.putAll, List.map_cons, List.map_nil]
              rw [v10]
              go_simp
              go_wp2_with (fail)
              go_meet
              exact ⟨rfl, RS5.out⟩
            · have t11 : (kd == 1) = false := by simp; omega
              have t12 : (kd == 2) = true := by simp; omega
              have hE : itL ⟨kd, nn, ii, bb, ss⟩ = uint (zig ii) := by rw [hk]; rfl
              have HE := Lib.hid hE
              clear hk hE
              have hs : St.int s = (s2, ii) := by rw [hsE, hs2, HE.out]; exact back_int hIi.out _
              have HS := Lib.hid hs
              clear hs hsE hs2
              obtain ⟨x0, x1, x2, x3, x4⟩ := HIT.out
              go_wp2_with (fail)
              have hI0 := HI0.out
              have hne := HNE.out
              refine regs.wp_region_put (InStep bi) (Jw lo bi s s2 1) [87, 88, 89, 90, 91, 10] (by kernel_rfl) (by kernel_rfl) (fun _ => InStep.refl _ _) (fun _ _ _ => InStep.trans) (fun i => (match i with
                | 0 => regs.Say.val _ (.pointer (some ⟨bi, 0, none⟩))
                | 1 => regs.Say.val _ (.int .i64 ii)
                | 2 => regs.Say.val _ (.pointer (some ⟨wr.heap.size, 2, none⟩))
                | 3 => regs.Say.val _ (.int .i64 ii)
                | 4 => regs.Say.val _ (.bool true)
                | 5 => regs.Say.val _ (.bool true)
                | _ => regs.Say.any _ : regs.Say (InStep bi)).p) (fun _ => regs.Say.mono _) (by kernel_rfl) (InStep.drew _ _) (hI0) ⟨?_, ?_, ?_, ?_, ?_, ?_, trivial⟩ ?_
              · refine regs.StepOK.plain rfl fun L a w1 hh => ?_
                have h7 : a.tmps[7]?.getD undef = .pointer (some ⟨bi, 0, none⟩) := by rw [← Array.getD_eq_getD_getElem?]; exact hh.old 7 rfl
                have hJ := Lib.hid hh.st
                clear hh
                go_simp
                exact ⟨_, rfl, InStep.refl _ _, rfl, hJ.out⟩
              · refine regs.StepOK.plain rfl fun L a w1 hh => ?_
                have h87 : a.tmps[87]?.getD undef = .pointer (some ⟨bi, 0, none⟩) := by rw [← Array.getD_eq_getD_getElem?]; exact hh.dep 0 87 (by kernel_rfl) (by kernel_rfl)
                have hI : InAt w1 lo bi s := by
                  have := hh.st
                  unfold Jw at this
                  rw [hh.un] at this
                  exact this
                have hcall := in_int_any lo bi s w1 hI (uint_U64 hI.are)
                rw [HS.out] at hcall
                clear hh
                go_simp
                refine hcall.mono ?_
                rintro e w9 ⟨rfl, p1, p2⟩
                exact ⟨_, rfl, p2, rfl, p1⟩
              · refine regs.StepOK.plain rfl fun L a w1 hh => ?_
                have h9 : a.tmps[9]?.getD undef = .pointer (some ⟨wr.heap.size, 0, none⟩) := by rw [← Array.getD_eq_getD_getElem?]; exact hh.old 9 rfl
                have hJ := Lib.hid hh.st
                clear hh
                go_simp
                exact ⟨_, rfl, InStep.refl _ _, rfl, hJ.out⟩
              · refine regs.StepOK.plain rfl fun L a w1 hh => ?_
                have h89 : a.tmps[89]?.getD undef = .pointer (some ⟨wr.heap.size, 2, none⟩) := by rw [← Array.getD_eq_getD_getElem?]; exact hh.dep 2 89 (by kernel_rfl) (by kernel_rfl)
                have c0 := (hh.rel.it HIT.out hne).x2
                have hJ := Lib.hid hh.st
                clear hh
                go_simp
                exact ⟨_, rfl, InStep.refl _ _, rfl, hJ.out⟩
              · refine regs.StepOK.plain rfl fun L a w1 hh => ?_
                have h88 : a.tmps[88]?.getD undef = .int .i64 ii := by rw [← Array.getD_eq_getD_getElem?]; exact hh.dep 1 88 (by kernel_rfl) (by kernel_rfl)
                have h90 : a.tmps[90]?.getD undef = .int .i64 ii := by rw [← Array.getD_eq_getD_getElem?]; exact hh.dep 3 90 (by kernel_rfl) (by kernel_rfl)
                have hJ := Lib.hid hh.st
                clear hh
                go_simp
                exact ⟨_, rfl, InStep.refl _ _, rfl, hJ.out⟩
              · refine regs.StepOK.plain rfl fun L a w1 hh => ?_
                have h91 : a.tmps[91]?.getD undef = .bool true := by rw [← Array.getD_eq_getD_getElem?]; exact hh.dep 4 91 (by kernel_rfl) (by kernel_rfl)
                have hJ := Lib.hid hh.st
                clear hh
                go_simp
                exact ⟨_, rfl, InStep.refl _ _, rfl, hJ.out⟩
              intro Lf w5 val hL hJ hR2 hf
              have v10 : val 10 = .bool true := hf 5 10 (by kernel_rfl)
              unfold Jw at hJ
              rw [hL 1 (by decide)] at hJ
              have RS5 : Hid (RW w w5 lo bi s2) := RSA.out.next hJ hR2
              clear hf hJ hL hR2 hI0 hne
              simp only [regs.putAll, List.map_cons, List.map_nil]
              rw [v10]
              go_simp
              go_wp2_with (fail)
              go_meet
              exact ⟨rfl, RS5.out⟩
            · have t11 : (kd == 1) = false := by simp; omega
              have t12 : (kd == 2) = false := by simp; omega
              have t13 : (kd == 3) = true := by simp; omega
              have hE : itL ⟨kd, nn, ii, bb, ss⟩ = [bit bb] := by rw [hk]; rfl
              have HE := Lib.hid hE
              clear hk hE
              have hs : St.bool s = (s2, bb) := by rw [hsE, hs2, HE.out]; exact back_bool bb _
              have HS := Lib.hid hs
              clear hs hsE hs2
              obtain ⟨x0, x1, x2, x3, x4⟩ := HIT.out
              go_wp2_with (fail)
              have hI0 := HI0.out
              have hne := HNE.out
              refine regs.wp_region_put (InStep bi) (Jw lo bi s s2 1) [94, 95, 96, 97, 98, 10] (by kernel_rfl) (by kernel_rfl) (fun _ => InStep.refl _ _) (fun _ _ _ => InStep.trans) (fun i => (match i with
                | 0 => regs.Say.val _ (.pointer (some ⟨bi, 0, none⟩))
                | 1 => regs.Say.val _ (.bool bb)
                | 2 => regs.Say.val _ (.pointer (some ⟨wr.heap.size, 3, none⟩))
                | 3 => regs.Say.val _ (.bool bb)
                | 4 => regs.Say.val _ (.bool true)
                | 5 => regs.Say.val _ (.bool true)
                | _ => regs.Say.any _ : regs.Say (InStep bi)).p) (fun _ => regs.Say.mono _) (by kernel_rfl) (InStep.drew _ _) (hI0) ⟨?_, ?_, ?_, ?_, ?_, ?_, trivial⟩ ?_
              · refine regs.StepOK.plain rfl fun L a w1 hh => ?_
                have h7 : a.tmps[7]?.getD undef = .pointer (some ⟨bi, 0, none⟩) := by rw [← Array.getD_eq_getD_getElem?]; exact hh.old 7 rfl
                have hJ := Lib.hid hh.st
                clear hh
                go_simp
                exact ⟨_, rfl, InStep.refl _ _, rfl, hJ.out⟩
              · refine regs.StepOK.plain rfl fun L a w1 hh => ?_
                have h94 : a.tmps[94]?.getD undef = .pointer (some ⟨bi, 0, none⟩) := by rw [← Array.getD_eq_getD_getElem?]; exact hh.dep 0 94 (by kernel_rfl) (by kernel_rfl)
                have hI : InAt w1 lo bi s := by
                  have := hh.st
                  unfold Jw at this
                  rw [hh.un] at this
                  exact this
                have hcall := in_bool_any lo bi s w1 hI
                rw [HS.out] at hcall
                clear hh
                go_simp
                refine hcall.mono ?_
                rintro e w9 ⟨rfl, p1, p2⟩
                exact ⟨_, rfl, p2, rfl, p1⟩
              · refine regs.StepOK.plain rfl fun L a w1 hh => ?_
                have h9 : a.tmps[9]?.getD undef = .pointer (some ⟨wr.heap.size, 0, none⟩) := by rw [← Array.getD_eq_getD_getElem?]; exact hh.old 9 rfl
                have hJ := Lib.hid hh.st
                clear hh
                go_simp
                exact ⟨_, rfl, InStep.refl _ _, rfl, hJ.out⟩
              · refine regs.StepOK.plain rfl fun L a w1 hh => ?_
                have h96 : a.tmps[96]?.getD undef = .pointer (some ⟨wr.heap.size, 3, none⟩) := by rw [← Array.getD_eq_getD_getElem?]; exact hh.dep 2 96 (by kernel_rfl) (by kernel_rfl)
                have c0 := (hh.rel.it HIT.out hne).x3
                have hJ := Lib.hid hh.st
                clear hh
                go_simp
                exact ⟨_, rfl, InStep.refl _ _, rfl, hJ.out⟩
              · refine regs.StepOK.plain rfl fun L a w1 hh => ?_
                have h95 : a.tmps[95]?.getD undef = .bool bb := by rw [← Array.getD_eq_getD_getElem?]; exact hh.dep 1 95 (by kernel_rfl) (by kernel_rfl)
                have h97 : a.tmps[97]?.getD undef = .bool bb := by rw [← Array.getD_eq_getD_getElem?]; exact hh.dep 3 97 (by kernel_rfl) (by kernel_rfl)
                have hJ := Lib.hid hh.st
                clear hh
                go_simp
                exact ⟨_, rfl, InStep.refl _ _, rfl, hJ.out⟩
              · refine regs.StepOK.plain rfl fun L a w1 hh => ?_
                have h98 : a.tmps[98]?.getD undef = .bool true := by rw [← Array.getD_eq_getD_getElem?]; exact hh.dep 4 98 (by kernel_rfl) (by kernel_rfl)
                have hJ := Lib.hid hh.st
                clear hh
                go_simp
                exact ⟨_, rfl, InStep.refl _ _, rfl, hJ.out⟩
              intro Lf w5 val hL hJ hR2 hf
              have v10 : val 10 = .bool true := hf 5 10 (by kernel_rfl)
              unfold Jw at hJ
              rw [hL 1 (by decide)] at hJ
              have RS5 : Hid (RW w w5 lo bi s2) := RSA.out.next hJ hR2
              clear hf hJ hL hR2 hI0 hne
              simp only [regs.putAll, List.map_cons, List.map_nil]
              rw [v10]
              go_simp
              go_wp2_with (fail)
              go_meet
              exact ⟨rfl, RS5.out⟩
            · have t11 : (kd == 1) = false := by simp; omega
              have t12 : (kd == 2) = false := by simp; omega
              have t13 : (kd == 3) = false := by simp; omega
              have t14 : (kd == 4) = true := by simp; omega
              have hE : itL ⟨kd, nn, ii, bb, ss⟩ = natsOf ss := by rw [hk]; rfl
              have HE := Lib.hid hE
              clear hk hE
              have hs : St.raw s (ss.size : Nat) = (s2, natsOf ss) := by rw [hsE, hs2, HE.out]; exact back_raw ss _
              have HS := Lib.hid hs
              clear hs hsE hs2
              obtain ⟨x0, x1, x2, x3, x4⟩ := HIT.out
              go_wp2_with (fail)
              have hI0 := HI0.out
              have hne := HNE.out
              refine regs.wp_region_put (InStep bi) (Jw lo bi s s2 4) [101, 102, 103, 104, 105, 106, 107, 108, 109, 10] (by kernel_rfl) (by kernel_rfl) (fun _ => InStep.refl _ _) (fun _ _ _ => InStep.trans) (fun i => (match i with
                | 0 => regs.Say.val _ (.pointer (some ⟨bi, 0, none⟩))
                | 1 => regs.Say.val _ (.pointer (some ⟨wr.heap.size, 4, none⟩))
                | 2 => regs.Say.val _ (.string ss)
                | 3 => regs.Say.val _ (.int .i64 (ss.size : Nat))
                | 4 => sayIn bi (natsOf ss)
                | 5 => regs.Say.val _ (.string ss)
                | 6 => regs.Say.val _ (.pointer (some ⟨wr.heap.size, 4, none⟩))
                | 7 => regs.Say.val _ (.string ss)
                | 8 => regs.Say.val _ (.bool true)
                | 9 => regs.Say.val _ (.bool true)
                | _ => regs.Say.any _ : regs.Say (InStep bi)).p) (fun _ => regs.Say.mono _) (by kernel_rfl) (InStep.drew _ _) (hI0) ⟨?_, ?_, ?_, ?_, ?_, ?_, ?_, ?_, ?_, ?_, trivial⟩ ?_
              · refine regs.StepOK.plain rfl fun L a w1 hh => ?_
                have h7 : a.tmps[7]?.getD undef = .pointer (some ⟨bi, 0, none⟩) := by rw [← Array.getD_eq_getD_getElem?]; exact hh.old 7 rfl
                have hJ := Lib.hid hh.st
                clear hh
                go_simp
                exact ⟨_, rfl, InStep.refl _ _, rfl, hJ.out⟩
              · refine regs.StepOK.plain rfl fun L a w1 hh => ?_
                have h9 : a.tmps[9]?.getD undef = .pointer (some ⟨wr.heap.size, 0, none⟩) := by rw [← Array.getD_eq_getD_getElem?]; exact hh.old 9 rfl
                have hJ := Lib.hid hh.st
                clear hh
                go_simp
                exact ⟨_, rfl, InStep.refl _ _, rfl, hJ.out⟩
              · refine regs.StepOK.plain rfl fun L a w1 hh => ?_
                have h102 : a.tmps[102]?.getD undef = .pointer (some ⟨wr.heap.size, 4, none⟩) := by rw [← Array.getD_eq_getD_getElem?]; exact hh.dep 1 102 (by kernel_rfl) (by kernel_rfl)
                have c0 := (hh.rel.it HIT.out hne).x4
                have hJ := Lib.hid hh.st
                clear hh
                go_simp
                exact ⟨_, rfl, InStep.refl _ _, rfl, hJ.out⟩
              · refine regs.StepOK.plain rfl fun L a w1 hh => ?_
                have h103 : a.tmps[103]?.getD undef = .string ss := by rw [← Array.getD_eq_getD_getElem?]; exact hh.dep 2 103 (by kernel_rfl) (by kernel_rfl)
                have hJ := Lib.hid hh.st
                clear hh
                go_simp
                exact ⟨_, rfl, InStep.refl _ _, rfl, hJ.out⟩
              · refine regs.StepOK.plain rfl fun L a w1 hh => ?_
                have h101 : a.tmps[101]?.getD undef = .pointer (some ⟨bi, 0, none⟩) := by rw [← Array.getD_eq_getD_getElem?]; exact hh.dep 0 101 (by kernel_rfl) (by kernel_rfl)
                have h104 : a.tmps[104]?.getD undef = .int .i64 (ss.size : Nat) := by rw [← Array.getD_eq_getD_getElem?]; exact hh.dep 3 104 (by kernel_rfl) (by kernel_rfl)
                have hI : InAt w1 lo bi s := by
                  have := hh.st
                  unfold Jw at this
                  rw [hh.un] at this
                  exact this
                have hcall := in_raw_any lo bi s (ss.size : Nat) w1 hI (by have := hss.out; unfold I64; omega) RSA.out.lo_le (by rw [HS.out]; show (natsOf ss).length ≤ _; rw [natsOf_length]; have := hss.out; omega)
                rw [HS.out] at hcall
                clear hh
                go_simp
                refine hcall.mono ?_
                rintro e w9 ⟨⟨v2, rfl, own2⟩, p1, p2⟩
                obtain ⟨a2, c2, rfl, hp2, hx2, _⟩ := own2.part (natsOf_are ss)
                refine ⟨_, rfl, p2, ⟨a2, c2, rfl, hp2.at_, fun x hx => ?_⟩, p1⟩
                obtain ⟨g, rfl, hg⟩ := hx2 x hx
                have := (own2.block hg).1
                have hl1 := hI.lt
                simp only
                omega
              · refine regs.StepOK.plain rfl fun L a w1 hh => ?_
                obtain ⟨a2, c2, h105, hat, _⟩ : ∃ a2 c2, a.tmps[105]?.getD undef = .slice a2 (natsOf ss).length c2 ∧ Bs w1 a2 (natsOf ss) ∧ _ := by rw [← Array.getD_eq_getD_getElem?]; exact hh.dep 4 105 (by kernel_rfl) (by kernel_rfl)
                have hcv := conv_str w1 a2 (natsOf ss) c2 hat
                rw [strOf_natsOf] at hcv
                have hJ := Lib.hid hh.st
                clear hh
                go_simp
                exact ⟨_, rfl, InStep.refl _ _, rfl, hJ.out⟩
              · refine regs.StepOK.plain rfl fun L a w1 hh => ?_
                have h9 : a.tmps[9]?.getD undef = .pointer (some ⟨wr.heap.size, 0, none⟩) := by rw [← Array.getD_eq_getD_getElem?]; exact hh.old 9 rfl
                have hJ := Lib.hid hh.st
                clear hh
                go_simp
                exact ⟨_, rfl, InStep.refl _ _, rfl, hJ.out⟩
              · refine regs.StepOK.plain rfl fun L a w1 hh => ?_
                have h107 : a.tmps[107]?.getD undef = .pointer (some ⟨wr.heap.size, 4, none⟩) := by rw [← Array.getD_eq_getD_getElem?]; exact hh.dep 6 107 (by kernel_rfl) (by kernel_rfl)
                have c0 := (hh.rel.it HIT.out hne).x4
                have hJ := Lib.hid hh.st
                clear hh
                go_simp
                exact ⟨_, rfl, InStep.refl _ _, rfl, hJ.out⟩
              · refine regs.StepOK.plain rfl fun L a w1 hh => ?_
                have h106 : a.tmps[106]?.getD undef = .string ss := by rw [← Array.getD_eq_getD_getElem?]; exact hh.dep 5 106 (by kernel_rfl) (by kernel_rfl)
                have h108 : a.tmps[108]?.getD undef = .string ss := by rw [← Array.getD_eq_getD_getElem?]; exact hh.dep 7 108 (by kernel_rfl) (by kernel_rfl)
                have hJ := Lib.hid hh.st
                clear hh
                go_simp
                exact ⟨_, rfl, InStep.refl _ _, rfl, hJ.out⟩
              · refine regs.StepOK.plain rfl fun L a w1 hh => ?_
                have h109 : a.tmps[109]?.getD undef = .bool true := by rw [← Array.getD_eq_getD_getElem?]; exact hh.dep 8 109 (by kernel_rfl) (by kernel_rfl)
                have hJ := Lib.hid hh.st
                clear hh
                go_simp
                exact ⟨_, rfl, InStep.refl _ _, rfl, hJ.out⟩
              intro Lf w5 val hL hJ hR2 hf
              have v10 : val 10 = .bool true := hf 9 10 (by kernel_rfl)
              unfold Jw at hJ
              rw [hL 4 (by decide)] at hJ
              have RS5 : Hid (RW w w5 lo bi s2) := RSA.out.next hJ hR2
              clear hf hJ hL hR2 hI0 hne
              simp only [regs.putAll, List.map_cons, List.map_nil]
              rw [v10]
              go_simp
              go_wp2_with (fail)
              go_meet
              exact ⟨rfl, RS5.out⟩
            · have t11 : (kd == 1) = false := by simp; omega
              have t12 : (kd == 2) = false := by simp; omega
              have t13 : (kd == 3) = false := by simp; omega
              have t14 : (kd == 4) = false := by simp; omega
              have t15 : (kd == 5) = true := by simp; omega
              have hE : itL ⟨kd, nn, ii, bb, ss⟩ = text (natsOf ss) := by rw [hk]; rfl
              have HE := Lib.hid hE
              clear hk hE
              have hs : St.text s (ss.size : Nat) = (s2, natsOf ss) := by rw [hsE, hs2, HE.out]; exact back_text hss.out _
              have HS := Lib.hid hs
              have HB5 : Hid (I64 ((St.below s (ss.size : Nat)).2 : Nat)) := by
                show I64 _
                rw [hsE, HE.out, back_below hss.out]
                have := hss.out
                unfold I64
                simp only
                omega
              clear hs hsE hs2
              obtain ⟨x0, x1, x2, x3, x4⟩ := HIT.out
              go_wp2_with (fail)
              have hI0 := HI0.out
              have hne := HNE.out
              refine regs.wp_region_put (InStep bi) (Jw lo bi s s2 4) [112, 113, 114, 115, 116, 117, 118, 119, 10] (by kernel_rfl) (by kernel_rfl) (fun _ => InStep.refl _ _) (fun _ _ _ => InStep.trans) (fun i => (match i with
                | 0 => regs.Say.val _ (.pointer (some ⟨bi, 0, none⟩))
                | 1 => regs.Say.val _ (.pointer (some ⟨wr.heap.size, 4, none⟩))
                | 2 => regs.Say.val _ (.string ss)
                | 3 => regs.Say.val _ (.int .i64 (ss.size : Nat))
                | 4 => regs.Say.val _ (.string ss)
                | 5 => regs.Say.val _ (.pointer (some ⟨wr.heap.size, 4, none⟩))
                | 6 => regs.Say.val _ (.string ss)
                | 7 => regs.Say.val _ (.bool true)
                | 8 => regs.Say.val _ (.bool true)
                | _ => regs.Say.any _ : regs.Say (InStep bi)).p) (fun _ => regs.Say.mono _) (by kernel_rfl) (InStep.drew _ _) (hI0) ⟨?_, ?_, ?_, ?_, ?_, ?_, ?_, ?_, ?_, trivial⟩ ?_
              · refine regs.StepOK.plain rfl fun L a w1 hh => ?_
                have h7 : a.tmps[7]?.getD undef = .pointer (some ⟨bi, 0, none⟩) := by rw [← Array.getD_eq_getD_getElem?]; exact hh.old 7 rfl
                have hJ := Lib.hid hh.st
                clear hh
                go_simp
                exact ⟨_, rfl, InStep.refl _ _, rfl, hJ.out⟩
              · refine regs.StepOK.plain rfl fun L a w1 hh => ?_
                have h9 : a.tmps[9]?.getD undef = .pointer (some ⟨wr.heap.size, 0, none⟩) := by rw [← Array.getD_eq_getD_getElem?]; exact hh.old 9 rfl
                have hJ := Lib.hid hh.st
                clear hh
                go_simp
                exact ⟨_, rfl, InStep.refl _ _, rfl, hJ.out⟩
              · refine regs.StepOK.plain rfl fun L a w1 hh => ?_
                have h113 : a.tmps[113]?.getD undef = .pointer (some ⟨wr.heap.size, 4, none⟩) := by rw [← Array.getD_eq_getD_getElem?]; exact hh.dep 1 113 (by kernel_rfl) (by kernel_rfl)
                have c0 := (hh.rel.it HIT.out hne).x4
                have hJ := Lib.hid hh.st
                clear hh
                go_simp
                exact ⟨_, rfl, InStep.refl _ _, rfl, hJ.out⟩
              · refine regs.StepOK.plain rfl fun L a w1 hh => ?_
                have h114 : a.tmps[114]?.getD undef = .string ss := by rw [← Array.getD_eq_getD_getElem?]; exact hh.dep 2 114 (by kernel_rfl) (by kernel_rfl)
                have hJ := Lib.hid hh.st
                clear hh
                go_simp
                exact ⟨_, rfl, InStep.refl _ _, rfl, hJ.out⟩
              · refine regs.StepOK.plain rfl fun L a w1 hh => ?_
                have h112 : a.tmps[112]?.getD undef = .pointer (some ⟨bi, 0, none⟩) := by rw [← Array.getD_eq_getD_getElem?]; exact hh.dep 0 112 (by kernel_rfl) (by kernel_rfl)
                have h115 : a.tmps[115]?.getD undef = .int .i64 (ss.size : Nat) := by rw [← Array.getD_eq_getD_getElem?]; exact hh.dep 3 115 (by kernel_rfl) (by kernel_rfl)
                have hI : InAt w1 lo bi s := by
                  have := hh.st
                  unfold Jw at this
                  rw [hh.un] at this
                  exact this
                have hcall := in_text_any lo bi s (ss.size : Nat) w1 hI (by have := hss.out; unfold I64; omega) HB5.out
                rw [HS.out] at hcall
                simp only [strOf_natsOf] at hcall
                clear hh
                go_simp
                refine hcall.mono ?_
                rintro e w9 ⟨rfl, p1, p2⟩
                exact ⟨_, rfl, p2, rfl, p1⟩
              · refine regs.StepOK.plain rfl fun L a w1 hh => ?_
                have h9 : a.tmps[9]?.getD undef = .pointer (some ⟨wr.heap.size, 0, none⟩) := by rw [← Array.getD_eq_getD_getElem?]; exact hh.old 9 rfl
                have hJ := Lib.hid hh.st
                clear hh
                go_simp
                exact ⟨_, rfl, InStep.refl _ _, rfl, hJ.out⟩
              · refine regs.StepOK.plain rfl fun L a w1 hh => ?_
                have h117 : a.tmps[117]?.getD undef = .pointer (some ⟨wr.heap.size, 4, none⟩) := by rw [← Array.getD_eq_getD_getElem?]; exact hh.dep 5 117 (by kernel_rfl) (by kernel_rfl)
                have c0 := (hh.rel.it HIT.out hne).x4
                have hJ := Lib.hid hh.st
                clear hh
                go_simp
                exact ⟨_, rfl, InStep.refl _ _, rfl, hJ.out⟩
              · refine regs.StepOK.plain rfl fun L a w1 hh => ?_
                have h116 : a.tmps[116]?.getD undef = .string ss := by rw [← Array.getD_eq_getD_getElem?]; exact hh.dep 4 116 (by kernel_rfl) (by kernel_rfl)
                have h118 : a.tmps[118]?.getD undef = .string ss := by rw [← Array.getD_eq_getD_getElem?]; exact hh.dep 6 118 (by kernel_rfl) (by kernel_rfl)
                have hJ := Lib.hid hh.st
                clear hh
                go_simp
                exact ⟨_, rfl, InStep.refl _ _, rfl, hJ.out⟩
              · refine regs.StepOK.plain rfl fun L a w1 hh => ?_
                have h119 : a.tmps[119]?.getD undef = .bool true := by rw [← Array.getD_eq_getD_getElem?]; exact hh.dep 7 119 (by kernel_rfl) (by kernel_rfl)
                have hJ := Lib.hid hh.st
                clear hh
                go_simp
                exact ⟨_, rfl, InStep.refl _ _, rfl, hJ.out⟩
              intro Lf w5 val hL hJ hR2 hf
              have v10 : val 10 = .bool true := hf 8 10 (by kernel_rfl)
              unfold Jw at hJ
              rw [hL 4 (by decide)] at hJ
              have RS5 : Hid (RW w w5 lo bi s2) := RSA.out.next hJ hR2
              clear hf hJ hL hR2 hI0 hne
              simp only [regs.putAll, List.map_cons, List.map_nil]
              rw [v10]
              go_simp
              go_wp2_with (fail)
              go_meet
              exact ⟨rfl, RS5.out⟩
            · have t11 : (kd == 1) = false := by simp; omega
              have t12 : (kd == 2) = false := by simp; omega
              have t13 : (kd == 3) = false := by simp; omega
              have t14 : (kd == 4) = false := by simp; omega
              have t15 : (kd == 5) = false := by simp; omega
              have hE : itL ⟨kd, nn, ii, bb, ss⟩ = [] := by unfold itL; simp only; rw [if_neg hk.1, if_neg hk.2.1, if_neg hk.2.2.1, if_neg hk.2.2.2.1, if_neg hk.2.2.2.2]
              have HE := Lib.hid hE
              clear hk hE
              have RS5 : Hid (RW w (wr.alloc (.cells #[.int .i64 kd, .int .u64 (nn : Nat), .int .i64 ii, .bool bb, .string ss] 29)) lo bi s2) := by
                have := RSA.out
                rw [hsE, HE.out, List.nil_append, ← hs2] at this
                exact this
              clear hsE hs2
              go_wp2_with (fail)
              go_meet
              exact ⟨rfl, RS5.out⟩
          case rest =>
            obtain ⟨rfl, rw2⟩ := hcut
            clear ck0 ck1 ck2 ck3 ck4 HIT RSA HI0 rw_
            have he : s2.e = 0 := by rw [HS2.out]
            go_wp2_with (fail)
            refine (in_err_any lo bi s2 wc rw2.out.i).mono ?_
            rintro e w5 ⟨rfl, rfl⟩
            rw [he]
            have RW2 : Hid (RW w wc lo bi ⟨flat (l.drop (k + 1)), 0⟩) := by rw [← HS2.out]; exact rw2.out
            clear rw2 he
            go_wp2_with (fail)
            go_roundw
            case rel => exact ⟨k + 1, by omega, by go_num, RW2.out⟩
            case measure => simp [intOf]; omega
        · have hk' : k = l.length := by omega
          subst hk'
          have RW1 : Hid (RW w wr lo bi ⟨[], 0⟩) := by
            have := rw_.out
            rw [List.drop_length] at this
            exact this
          clear rw_
          go_wp2_with (fail)
          refine (in_end_any lo bi _ wr RW1.out.i).mono ?_
          rintro e w5 ⟨rfl, rfl⟩
          rw [ev_fin]
          go_wp2_with (fail)
          refine (in_left_any lo bi _ wr RW1.out.i).mono ?_
          rintro e w5 ⟨rfl, rfl⟩
          simp only [List.length_nil]
          go_wp2_with (fail)
          refine (awake_any wr).mono ?_
          rintro e w5 ⟨rfl, hb⟩
          have B5 := Lib.hid (RW1.out.on hb).below
          clear hb
          go_wp2_with (fail)
          go_ret
          exact ⟨rfl, B5.out⟩

theorem coderWrites.walk (A : Option Addr) (l : List It) (c : Nat) (w : World) (hl : ItRow w A l) (hu : ∀ x ∈ l, I64 x.kind ∧ U64 x.n ∧ I64 x.i) :
    Calls Try.prog 3 #[.slice A l.length c] w fun e w' => e = .returned (.bool true) ∧ Below w.heap.size w w' := by
  by_cases h : l.length ≤ 60
  · exact writes_walk A l c w hl hu h
  · exact writes_long A l c w (by omega)
end Go.Proofs.Ytbopijlacdkpeaa
