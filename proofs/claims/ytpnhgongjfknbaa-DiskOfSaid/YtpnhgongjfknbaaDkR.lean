/-
  A disk of the call's own; the fixed answers of disk.
-/
import Derived.Test.YtpnhgongjfknbaaDkQ
import Derived.Lib.SlBytesConst
namespace Go.Proofs.Ytpnhgongjfknbaa
open Go.RowKit omap

theorem Turn.base {S S' : List Nat} {w w' : World} {B : Nat} (h : Turn S S' w w') (hB : B ≤ w.heap.size) (hS : ∀ g ∈ S, B ≤ g) : ∀ g ∈ S', B ≤ g := fun g hg => by
  by_cases hge : B ≤ g
  · exact hge
  · exfalso
    exact (h.far g (by omega) (fun hm => hge (hS g hm))).1 hg
/-- a disk of the call's own; w0: the world when the call began -/
structure Held (w0 w : World) (b : Nat) (S : List Nat) (d : Dk) : Prop where
  disk : DiskAt w b S d
  below : Below w0.heap.size w0 w
  base : ∀ g ∈ S, w0.heap.size ≤ g
section
variable {w0 w w' : World} {b : Nat} {S S' : List Nat} {d d' : Dk}
theorem Held.turn (h : Held w0 w b S d) (hd : DiskAt w' b S' d') (ht : Turn S S' w w') : Held w0 w' b S' d' := ⟨hd, h.below.trans (ht.to_below h.below.size h.base), ht.base h.below.size h.base⟩
theorem Held.later (h : Held w0 w b S d) (hb : Below w.heap.size w w') : Held w0 w' b S d := ⟨h.disk.below hb, h.below.trans (hb.mono h.below.size), h.base⟩
theorem Held.alloc (h : Held w0 w b S d) (o : Obj) : Held w0 (w.alloc o) b S d := h.later ((Below.refl _ _).alloc (Nat.le_refl _) o)
theorem Held.cmd {r : Int × Dk} {e : Ending} (h : Held w0 w b S d) (hc : Cmd w b S r e w') : e = .returned (.int .i64 r.1) ∧ ∃ S', Held w0 w' b S' r.2 := by
  obtain ⟨h1, S', h2, h3⟩ := hc
  exact ⟨h1, S', h.turn h2 h3⟩
end
/-- rows of bytes that the call has made -/
theorem row_new (w : World) (l : List Nat) (T : TypeId) (fr : Nat × Nat) : Row e8 (w.alloc (.cells (l.map e8).toArray T fr)) (some ⟨w.heap.size, 0, none⟩) l := fun _ => ⟨_, 0, rfl, fun j hj => by
  rw [cell_of_row _ _ (0 + j) _ _ _ (heap_alloc_new w _)]
  simp [hj]⟩
theorem parts_new (w : World) (ps : List Part) (T : TypeId) : Row Part.v (w.alloc (.cells (ps.map Part.v).toArray T)) (some ⟨w.heap.size, 0, none⟩) ps := fun _ => ⟨_, 0, rfl, fun j hj => by
  rw [cell_of_row _ _ (0 + j) _ _ _ (heap_alloc_new w _)]
  simp [hj]⟩
theorem apart_new {w : World} {b : Nat} {S : List Nat} {d : Dk} (h : DiskAt w b S d) {g : Nat} (hg : w.heap.size ≤ g) (n : Nat) : Apart S (some ⟨g, 0, none⟩) n := fun _ x hx hm => by
  obtain rfl := Option.some.inj hx
  have := h.inside _ hm
  simp only at this
  omega
theorem bytes_ok {l : List Nat} (h : l.all (fun z => decide (z < 256)) = true) : AreBytes l := fun z hz => by simpa using List.all_eq_true.1 h z hz

def W2 (w : World) (l1 l2 : List Nat) (f1 f2 : Nat × Nat) (c1 c2 : Nat) : World :=
  ((w.alloc (.cells (l1.map e8).toArray 5 f1)).alloc (.cells (l2.map e8).toArray 5 f2)).alloc (.cells #[.slice (some ⟨w.heap.size, 0, none⟩) l1.length c1, .slice (some ⟨w.heap.size + 1, 0, none⟩) l2.length c2] 35)
theorem W2_ok (w : World) (l1 l2 : List Nat) (f1 f2 : Nat × Nat) (c1 c2 : Nat) (h1 : l1.length ≤ c1) (h2 : l2.length ≤ c2) (m1 : c1 ≤ maxLen) (m2 : c2 ≤ maxLen) (a1 : AreBytes l1) (a2 : AreBytes l2) :
    Row Part.v (W2 w l1 l2 f1 f2 c1 c2) (some ⟨w.heap.size + 1 + 1, 0, none⟩) [⟨some ⟨w.heap.size, 0, none⟩, l1, c1⟩, ⟨some ⟨w.heap.size + 1, 0, none⟩, l2, c2⟩] ∧ (∀ q ∈ [(⟨some ⟨w.heap.size, 0, none⟩, l1, c1⟩ : Part), ⟨some ⟨w.heap.size + 1, 0, none⟩, l2, c2⟩], q.ok (W2 w l1 l2 f1 f2 c1 c2)) ∧ Below w.heap.size w (W2 w l1 l2 f1 f2 c1 c2) := by
  have s1 : (w.alloc (.cells (l1.map e8).toArray 5 f1)).heap.size = w.heap.size + 1 := by simp
  have s2 : ((w.alloc (.cells (l1.map e8).toArray 5 f1)).alloc (.cells (l2.map e8).toArray 5 f2)).heap.size = w.heap.size + 1 + 1 := by simp
  refine ⟨?_, fun q hq => ?_, (((Below.refl _ _).alloc (Nat.le_refl _) _).alloc (by simp) _).alloc (by simp; omega) _⟩
  · have := parts_new ((w.alloc (.cells (l1.map e8).toArray 5 f1)).alloc (.cells (l2.map e8).toArray 5 f2)) [⟨some ⟨w.heap.size, 0, none⟩, l1, c1⟩, ⟨some ⟨w.heap.size + 1, 0, none⟩, l2, c2⟩] 35
    rw [s2] at this
    exact this
  · rcases List.mem_cons.1 hq with rfl | hq
    · exact ⟨h1, m1, ((row_new w l1 _ f1).alloc _).alloc _, a1⟩
    · obtain rfl := List.mem_singleton.1 hq
      have := row_new (w.alloc (.cells (l1.map e8).toArray 5 f1)) l2 5 f2
      rw [s1] at this
      exact ⟨h2, m2, Row.alloc this _, a2⟩
def W1 (w : World) (l : List Nat) (f : Nat × Nat) (c : Nat) : World := (w.alloc (.cells (l.map e8).toArray 5 f)).alloc (.cells #[.slice (some ⟨w.heap.size, 0, none⟩) l.length c] 35)
theorem W1_ok (w : World) (l : List Nat) (f : Nat × Nat) (c : Nat) (h1 : l.length ≤ c) (m1 : c ≤ maxLen) (a1 : AreBytes l) :
    Row Part.v (W1 w l f c) (some ⟨w.heap.size + 1, 0, none⟩) [⟨some ⟨w.heap.size, 0, none⟩, l, c⟩] ∧ (∀ q ∈ [(⟨some ⟨w.heap.size, 0, none⟩, l, c⟩ : Part)], q.ok (W1 w l f c)) ∧ Below w.heap.size w (W1 w l f c) := by
  have s1 : (w.alloc (.cells (l.map e8).toArray 5 f)).heap.size = w.heap.size + 1 := by simp
  refine ⟨?_, fun q hq => ?_, ((Below.refl _ _).alloc (Nat.le_refl _) _).alloc (by simp) _⟩
  · have := parts_new (w.alloc (.cells (l.map e8).toArray 5 f)) [⟨some ⟨w.heap.size, 0, none⟩, l, c⟩] 35
    rw [s1] at this
    exact this
  · obtain rfl := List.mem_singleton.1 hq
    exact ⟨h1, m1, (row_new w l _ f).alloc _, a1⟩
def dA (n : Nat) (left : Nat) (down : Bool) (l : List Nat) (s : Nat) : Dk := ⟨⟨n, left, down⟩, 9, [([97], ⟨l, s⟩)]⟩
def nmA : ByteArray := ⟨#[97]⟩
theorem sp0 : (ofS 9 []) = (0, []) := by rfl
theorem sp1 : (ofS (-1) []).1 = 11 := by rfl
theorem sp2 : cmdS (createS [97]) idS ⟨⟨0, 0, false⟩, 9, []⟩ = (0, dA 1 0 false [] 0) := by rfl
theorem sp3 : cmdS (createS [65]) idS (dA 1 0 false [] 0) = (25, dA 2 0 false [] 0) := by rfl
theorem sp4 : cmdS (writeS 9 [97] [97, 98, 99]) (writeS 9 [97] [97, 98, 99]) (dA 2 0 false [] 0) = (0, dA 3 0 false [97, 98, 99] 0) := by rfl
theorem sp5 : cmdS (syncS [97]) idS (dA 3 0 false [97, 98, 99] 0) = (0, dA 4 0 false [97, 98, 99] 3) := by rfl
theorem sp6 : cmdS (writeS 9 [97] [100, 101]) (writeS 9 [97] [100, 101]) (dA 4 0 false [97, 98, 99] 3) = (0, dA 5 0 false [97, 98, 99, 100, 101] 3) := by rfl
theorem sp7 : cmdS (writeS 9 [97] [0, 0, 0, 0, 0]) (writeS 9 [97] [0, 0, 0, 0, 0]) (dA 5 0 false [97, 98, 99, 100, 101] 3) = (23, dA 6 0 false [97, 98, 99, 100, 101] 3) := by rfl
theorem sp8 : crashS [⟨1, 0, 0⟩] (dA 6 0 false [97, 98, 99, 100, 101] 3) = dA 6 0 false [97, 98, 99, 100] 4 := by rfl
theorem sp9 : cmdS (syncS [97]) idS (dA 6 1 false [97, 98, 99, 100, 101] 3) = (24, dA 7 0 true [97, 98, 99, 100, 101] 3) := by rfl
theorem sp10 : nameB [120, 45, 49] = true := by rfl
theorem make5 (w : World) : (Instr.makeSlice 35 (.int .i64 5) (.int .i64 5)).run Try.prog w = .ok (.slice (some ⟨w.heap.size, 0, none⟩) 5 5) (w.alloc (.cells #[.int .u8 0, .int .u8 0, .int .u8 0, .int .u8 0, .int .u8 0] 5)) := by
  obtain ⟨i, hi, hz, hsize, hby⟩ := info_parts info_byte
  have h := run_make (P := Try.prog) w 35 5 i (.int .u8 0) Try.underlying35 hi hz .i64 .i64 5 5 (by omega) (by omega) (by rw [hby]; omega) (by omega)
  rw [hsize] at h
  have e : madeCells (Value.int .u8 0).cells (Int.toNat 5 * 1) = #[.int .u8 0, .int .u8 0, .int .u8 0, .int .u8 0, .int .u8 0] := by kernel_rfl
  rw [e] at h
  exact h
set_option maxRecDepth 100000 in
set_option maxHeartbeats 8000000 in
theorem awake_any (w : World) : Calls Try.prog 9 #[] w fun e w' => e = .returned (.bool true) ∧ Below w.heap.size w w' := by
  have kc := fun (w : World) (C : Array Value) (n c : Nat) => Lib.run_convert_bytes_const (P := Try.prog) w 35 5 C n c Try.underlying35 Try.underlying5
  have kc2 : ∀ (w : World) (o : Obj) (C : Array Value) (n c : Nat), (convert 35 35 (.slice (some ⟨w.heap.size + 1, 0, none⟩) n c)).run Try.prog ((w.alloc o).alloc (.cells C 5)) = .ok (.slice (some ⟨w.heap.size + 1, 0, none⟩) n c) ((w.alloc o).alloc (.cells C 5 (C.size, C.size + 1))) := fun w o C n c => by
    have := kc (w.alloc o) C n c
    simpa using this
  have hmk := make5
  go_enter Try.func9, Try.ntmps9
  go_wp2_with (fail)
  refine (new_any 9 w).mono ?_
  rintro r w1 ⟨hb, hm⟩
  rw [sp0, if_pos rfl] at hm
  obtain ⟨b, S, rfl, h1, h2⟩ := hm
  have H1 : Hid (Held w w1 b S ⟨⟨0, 0, false⟩, 9, []⟩) := ⟨h1, hb, h2⟩
  clear hb h1 h2
  go_wp2_with (fail)
  refine (new_any (-1) w1).mono ?_
  rintro r w2 ⟨hb, hm⟩
  rw [sp1, if_neg (by decide)] at hm
  subst hm
  have H2 := Lib.hid (H1.out.later hb)
  clear hb H1
  go_wp2_with (fail)
  refine (create_cmd b S _ nmA w2 H2.out.disk (by decide) (by decide) (by decide)).mono ?_
  rintro r w3 hc
  obtain ⟨rfl, S3, h3⟩ := H2.out.cmd hc
  rw [show nmA.data.toList = [97] from rfl, sp2] at h3 ⊢
  have H3 := Lib.hid h3
  clear hc h3 H2
  go_wp2_with (fail)
  refine (create_cmd b S3 _ ⟨#[65]⟩ w3 H3.out.disk (by decide) (by decide) (by decide)).mono ?_
  rintro r w4 hc
  obtain ⟨rfl, S4, h4⟩ := H3.out.cmd hc
  rw [show (⟨#[65]⟩ : ByteArray).data.toList = [65] from rfl, sp3] at h4 ⊢
  have H4 := Lib.hid h4
  clear hc h4 H3
  go_wp2_with (fail)
  obtain ⟨p1, p2, p3⟩ := W2_ok w4 [97, 98] [99] (2, 3) (1, 2) 2 1 (by decide) (by decide) (by decide) (by decide) (bytes_ok (by decide)) (bytes_ok (by decide))
  refine (append_cmd b S4 _ nmA (some ⟨w4.heap.size + 1 + 1, 0, none⟩) [⟨some ⟨w4.heap.size, 0, none⟩, [97, 98], 2⟩, ⟨some ⟨w4.heap.size + 1, 0, none⟩, [99], 1⟩] 2 (W2 w4 [97, 98] [99] (2, 3) (1, 2) 2 1) (H4.out.disk.below p3) (by decide) (by decide) (by decide) p1 (apart_new H4.out.disk (by omega) _) (fun q hq => ⟨p2 q hq, by
    rcases List.mem_cons.1 hq with rfl | hq
    · exact apart_new H4.out.disk (Nat.le_refl _) _
    · obtain rfl := List.mem_singleton.1 hq
      exact apart_new H4.out.disk (by omega) _⟩) (by simp)).mono ?_
  rintro r w5 hc
  obtain ⟨rfl, S5, h5⟩ := (H4.out.later p3).cmd hc
  rw [show flat [⟨some ⟨w4.heap.size, 0, none⟩, [97, 98], 2⟩, ⟨some ⟨w4.heap.size + 1, 0, none⟩, [99], 1⟩] = [97, 98, 99] from rfl, show nmA.data.toList = [97] from rfl, show (dA 2 0 false [] 0).cap = 9 from rfl, sp4] at h5 ⊢
  have H5 := Lib.hid h5
  clear hc h5 H4 p1 p2 p3
  go_wp2_with (fail)
  refine (sync_cmd b S5 _ nmA w5 H5.out.disk (by decide) (by decide) (by decide)).mono ?_
  rintro r w6 hc
  obtain ⟨rfl, S6, h6⟩ := H5.out.cmd hc
  rw [show nmA.data.toList = [97] from rfl, sp5] at h6 ⊢
  have H6 := Lib.hid h6
  clear hc h6 H5
  go_wp2_with (fail)
  obtain ⟨p1, p2, p3⟩ := W1_ok w6 [100, 101] (2, 3) 2 (by decide) (by decide) (bytes_ok (by decide))
  refine (append_cmd b S6 _ nmA (some ⟨w6.heap.size + 1, 0, none⟩) [⟨some ⟨w6.heap.size, 0, none⟩, [100, 101], 2⟩] 1 (W1 w6 [100, 101] (2, 3) 2) (H6.out.disk.below p3) (by decide) (by decide) (by decide) p1 (apart_new H6.out.disk (by omega) _) (fun q hq => ⟨p2 q hq, by
    obtain rfl := List.mem_singleton.1 hq
    exact apart_new H6.out.disk (Nat.le_refl _) _⟩) (by simp)).mono ?_
  rintro r w7 hc
  obtain ⟨rfl, S7, h7⟩ := (H6.out.later p3).cmd hc
  rw [show flat [⟨some ⟨w6.heap.size, 0, none⟩, [100, 101], 2⟩] = [100, 101] from rfl, show nmA.data.toList = [97] from rfl, show (dA 4 0 false [97, 98, 99] 3).cap = 9 from rfl, sp6] at h7 ⊢
  have H7 := Lib.hid h7
  clear hc h7 H6 p1 p2 p3
  go_wp2_with (fail)
  obtain ⟨p1, p2, p3⟩ := W1_ok w7 [0, 0, 0, 0, 0] (0, 0) 5 (by decide) (by decide) (bytes_ok (by decide))
  refine (append_cmd b S7 _ nmA (some ⟨w7.heap.size + 1, 0, none⟩) [⟨some ⟨w7.heap.size, 0, none⟩, [0, 0, 0, 0, 0], 5⟩] 1 (W1 w7 [0, 0, 0, 0, 0] (0, 0) 5) (H7.out.disk.below p3) (by decide) (by decide) (by decide) p1 (apart_new H7.out.disk (by omega) _) (fun q hq => ⟨p2 q hq, by
    obtain rfl := List.mem_singleton.1 hq
    exact apart_new H7.out.disk (Nat.le_refl _) _⟩) (by simp)).mono ?_
  rintro r w8 hc
  obtain ⟨rfl, S8, h8⟩ := (H7.out.later p3).cmd hc
  rw [show flat [⟨some ⟨w7.heap.size, 0, none⟩, [0, 0, 0, 0, 0], 5⟩] = [0, 0, 0, 0, 0] from rfl, show nmA.data.toList = [97] from rfl, show (dA 5 0 false [97, 98, 99, 100, 101] 3).cap = 9 from rfl, sp7] at h8 ⊢
  have H8 := Lib.hid h8
  clear hc h8 H7 p1 p2 p3
  go_wp2_with (fail)
  refine (copy_cmd b S8 _ w8 H8.out.disk).mono ?_
  rintro r w9 ⟨b2, T9, rfl, k1, k2, k3⟩
  have H9 := Lib.hid (H8.out.later k3)
  have C9 : Hid (Held w w9 b2 T9 (dA 6 0 false [97, 98, 99, 100, 101] 3)) := ⟨k1, H9.out.below, fun g hg => Nat.le_trans H8.out.below.size (k2 g hg)⟩
  have D9 : Hid (∀ g ∈ T9, g ∉ S8) := fun g hg hm => by
    have h1 := k2 g hg
    have h2 := H8.out.disk.inside g hm
    omega
  clear k1 k2 k3 H8
  go_wp2_with (fail)
  have hcr : ChRow (w9.alloc (.cells #[.int .u64 1, .int .u64 0, .int .u8 0] 74)) (some ⟨w9.heap.size, 0, none⟩) [⟨1, 0, 0⟩] := fun _ => ⟨_, 0, rfl, fun j hj => by
    have hj0 : j = 0 := by simpa using hj
    subst hj0
    exact ⟨cell_of_row _ _ 0 _ _ _ (heap_alloc_new w9 _), cell_of_row _ _ 1 _ _ _ (heap_alloc_new w9 _), cell_of_row _ _ 2 _ _ _ (heap_alloc_new w9 _)⟩⟩
  refine (crash_cmd b S8 _ (some ⟨w9.heap.size, 0, none⟩) [⟨1, 0, 0⟩] 1 _ (H9.out.disk.alloc _) hcr (apart_new H9.out.disk (Nat.le_refl _) _) (fun c hc => by
    obtain rfl := List.mem_singleton.1 hc
    exact ⟨by decide, by decide, by decide⟩) (by simp)).mono ?_
  rintro r w10 ⟨rfl, T10, k1, k2⟩
  rw [sp8] at k1
  have H10 := Lib.hid ((H9.out.alloc _).turn k1 k2)
  obtain ⟨k3, k4⟩ := (C9.out.disk.alloc (.cells #[.int .u64 1, .int .u64 0, .int .u8 0] 74)).other k2 D9.out
  have C10 : Hid (Held w w10 b2 T9 (dA 6 0 false [97, 98, 99, 100, 101] 3)) := ⟨k3, H10.out.below, C9.out.base⟩
  have D10 := Lib.hid k4
  clear k1 k2 k3 k4 hcr H9 C9 D9
  go_wp2_with (fail)
  refine (read_some H10.out.disk rfl nmA (by decide) ⟨[97, 98, 99, 100], 4⟩ rfl).mono ?_
  rintro r w11 ⟨v, rfl, k1, _, k3⟩
  obtain ⟨a, c, rfl, hp, hpo, _⟩ := k1.part (bytes_ok (by decide))
  have HAP : Hid (Apart T9 a 4) := fun _ x hx hm => by
    obtain ⟨g, rfl, hg⟩ := hpo x hx
    have h1 := (k1.block hg).1
    have h2 := C10.out.disk.inside _ hm
    simp only at h2
    omega
  have H11 := Lib.hid (H10.out.later k3)
  have C11 := Lib.hid (C10.out.later k3)
  have hp4 := Lib.hid hp.at_
  clear k1 k3 hp hpo H10 C10
  go_wp2_with (fail)
  refine (arm_cmd C11.out.disk 1).mono ?_
  rintro r w12 ⟨rfl, k1, k2⟩
  have D10' : ∀ g ∈ T10, g ∉ T9 := fun g hg hm => D10.out g hm hg
  obtain ⟨k3, _⟩ := H11.out.disk.other k2 D10'
  have H12 : Hid (Held w w12 b T10 (dA 6 0 false [97, 98, 99, 100] 4)) := ⟨k3, H11.out.below.trans (k2.to_below H11.out.below.size C11.out.base), H11.out.base⟩
  have C12 : Hid (Held w w12 b2 T9 (dA 6 1 false [97, 98, 99, 100, 101] 3)) := C11.out.turn k1 k2
  have hp12 : Hid (Bs w12 a [97, 98, 99, 100]) := Apart.row hp4.out HAP.out k2
  clear k1 k2 k3 H11 C11 hp4
  go_wp2_with (fail)
  refine (sync_cmd b2 T9 _ nmA w12 C12.out.disk (by decide) (by decide) (by decide)).mono ?_
  rintro r w13 ⟨rfl, T13, k1, k2⟩
  rw [show nmA.data.toList = [97] from rfl, sp9] at k1 ⊢
  have H13 : Hid (Held w w13 b T10 (dA 6 0 false [97, 98, 99, 100] 4)) := by
    obtain ⟨k3, _⟩ := H12.out.disk.other k2 D10'
    exact ⟨k3, H12.out.below.trans (k2.to_below H12.out.below.size C12.out.base), H12.out.base⟩
  have hp13 : Hid (Bs w13 a [97, 98, 99, 100]) := Apart.row hp12.out HAP.out k2
  have C13 : Hid (Held w w13 b2 T13 (dA 7 0 true [97, 98, 99, 100, 101] 3)) := C12.out.turn k1 k2
  clear k1 k2 H12 C12
  have hcv : (convert 35 9 (.slice a 4 c)).run Try.prog w13 = .ok (.string ⟨#[97, 98, 99, 100]⟩) w13 := by
    have := conv_str w13 a [97, 98, 99, 100] c hp13.out
    rw [show strOf [97, 98, 99, 100] = ⟨#[97, 98, 99, 100]⟩ from rfl] at this
    exact this
  have teq : ((⟨#[97, 98, 99, 100]⟩ : ByteArray).toList == (⟨#[97, 98, 99, 100]⟩ : ByteArray).toList) = true := by simp
  go_wp2_with (fail)
  refine (down_cmd C13.out.disk).mono ?_
  rintro r w14 ⟨rfl, rfl⟩
  rw [show (dA 7 0 true [97, 98, 99, 100, 101] 3).p.down = true from rfl]
  go_wp2_with (fail)
  refine (used_cmd H13.out.disk).mono ?_
  rintro r w14 ⟨rfl, rfl⟩
  rw [show (((if (dA 6 0 false [97, 98, 99, 100] 4).p.down = true then 0 else tot (dA 6 0 false [97, 98, 99, 100] 4).fs : Nat)) : Int) = 4 from rfl]
  go_wp2_with (fail)
  refine (steps_cmd H13.out.disk).mono ?_
  rintro r w14 ⟨rfl, rfl⟩
  rw [show ((dA 6 0 false [97, 98, 99, 100] 4).p.steps : Int) = 6 from rfl]
  go_wp2_with (fail)
  refine (name_any ⟨#[120, 45, 49]⟩ w13 (by decide)).mono ?_
  rintro r w14 ⟨rfl, hb⟩
  rw [show (⟨#[120, 45, 49]⟩ : ByteArray).data.toList = [120, 45, 49] from rfl, sp10]
  have H14 := Lib.hid (H13.out.later hb)
  clear hb H13
  go_wp2_with (fail)
  refine (list_cmd H14.out.disk rfl).mono ?_
  rintro r w15 ⟨a1, c1, rfl, _, _, _, _, hb⟩
  have H15 := Lib.hid (H14.out.below.trans (hb.mono H14.out.below.size))
  clear hb H14
  rw [show (dA 6 0 false [97, 98, 99, 100] 4).fs.length = 1 from rfl]
  go_wp2_with (fail)
  go_ret
  exact ⟨rfl, H15.out⟩
end Go.Proofs.Ytpnhgongjfknbaa
