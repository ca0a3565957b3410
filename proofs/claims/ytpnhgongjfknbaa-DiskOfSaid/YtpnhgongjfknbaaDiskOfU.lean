/-
  DiskOf: what the law awaits of Of; what is said of files by their names and bytes alone; what the spoiling keeps.
-/
import Derived.Test.YtpnhgongjfknbaaDiskOfW
import Derived.Test.YtpnhgongjfknbaaOwf
namespace Go.Proofs.Ytpnhgongjfknbaa
open Go.RowKit omap so

theorem placeI_look (k : Nm) (gs : Fs) : decide (0 ≤ placeI k gs) = (omap.look gs k).isSome := by
  unfold placeI
  by_cases h : gs.findIdx (fun x => x.1 == k) < gs.length
  · rw [if_pos h]
    have h1 : ∃ x ∈ gs, (x.1 == k) = true := by simpa using List.findIdx_lt_length.1 h
    obtain ⟨x, hx, he⟩ := h1
    have h2 : omap.look gs k ≠ none := fun hn => look_none.1 hn x hx (by simpa using he)
    cases hl : omap.look gs k with
    | none => exact absurd hl h2
    | some v => simp
  · rw [if_neg h]
    have h2 : omap.look gs k = none := look_none.2 fun x hx he => h (List.findIdx_lt_length.2 ⟨x, hx, by simpa using he⟩)
    rw [h2]
    rfl
/-- what the law awaits of Of -/
def wantS (cap : Int) (n : Nat) (wn : Int) (us : Nat) : Int := if cap < 0 ∨ 67108864 < cap then 11 else if 1024 < n then 12 else if wn = 0 ∧ cap < us then 23 else wn
theorem want_ok {cap : Int} {fl : List FIn} {B : Bool} {wn : Int} {gs : Fs} (hB : B = decide (fl.length ≤ 1024)) (h : runG B (0, []) fl = (wn, gs)) :
    wantS cap fl.length wn (sumF fl) = (ofS cap fl).1 ∧ ((ofS cap fl).1 = 0 → 0 ≤ cap ∧ cap ≤ 67108864 ∧ (ofS cap fl).2 = gs) := by
  unfold wantS
  by_cases h1 : cap < 0 ∨ 67108864 < cap
  · have e : ofS cap fl = (11, []) := by unfold ofS; rw [if_pos h1]
    rw [if_pos h1, e]
    exact ⟨rfl, fun h => by simp at h⟩
  · by_cases h2 : 1024 < fl.length
    · have e : ofS cap fl = (12, []) := by unfold ofS; rw [if_neg h1, if_pos h2]
      rw [if_neg h1, if_pos h2, e]
      exact ⟨rfl, fun h => by simp at h⟩
    · have hb : B = true := by rw [hB]; simp; omega
      subst hb
      rw [runG_true] at h
      obtain ⟨o1, o2⟩ := ofS_run (cap := cap) (fl := fl) (by omega) (by omega) (by omega)
      rw [h] at o1 o2
      simp only at o1 o2
      rw [if_neg h1, if_neg h2, o2]
      by_cases h3 : wn = 0
      · subst h3
        rw [if_pos rfl] at o1 ⊢
        by_cases h4 : cap < sumF fl
        · rw [if_pos ⟨rfl, h4⟩, if_pos h4]
          exact ⟨rfl, fun h => by simp at h⟩
        · rw [if_neg (fun h => h4 h.2), if_neg h4]
          rw [if_neg h4] at o1
          exact ⟨rfl, fun _ => ⟨by omega, by omega, by rw [o1]⟩⟩
      · rw [if_neg (fun h => h3 h.1), if_neg h3]
        exact ⟨rfl, fun h => absurd h h3⟩
def plainF (x : FIn) : ByteArray × List Nat := (x.n, x.p.l)
theorem plain_k {x y : FIn} (h : plainF x = plainF y) : x.k = y.k ∧ x.p.l = y.p.l := by
  unfold plainF at h
  rw [Prod.mk.injEq] at h
  exact ⟨by unfold FIn.k; rw [h.1], h.2⟩
theorem ofN_plain : ∀ (a b : List FIn) (fs : Fs), a.map plainF = b.map plainF → ofN fs a = ofN fs b
  | [], [], _, _ => rfl
  | [], _ :: _, _, h => by simp at h
  | _ :: _, [], _, h => by simp at h
  | x :: a, y :: b, fs, h => by
    rw [List.map_cons, List.map_cons, List.cons.injEq] at h
    rw [ofN_cons, ofN_cons, (plain_k h.1).1, ofN_plain a b _ h.2]
theorem ofW_plain (cap : Nat) : ∀ (a b : List FIn) (fs : Fs), a.map plainF = b.map plainF → ofW cap fs a = ofW cap fs b
  | [], [], _, _ => rfl
  | [], _ :: _, _, h => by simp at h
  | _ :: _, [], _, h => by simp at h
  | x :: a, y :: b, fs, h => by
    rw [List.map_cons, List.map_cons, List.cons.injEq] at h
    rw [ofW_cons, ofW_cons, (plain_k h.1).1, (plain_k h.1).2, ofW_plain cap a b _ h.2]
theorem ofS_plain (cap : Int) {a b : List FIn} (h : a.map plainF = b.map plainF) : ofS cap a = ofS cap b := by
  have hl : a.length = b.length := by have := congrArg List.length h; simpa using this
  unfold ofS
  rw [hl, ofN_plain a b _ h, ofW_plain cap.toNat a b _ h]
theorem plain_at {a b : List FIn} (h : a.map plainF = b.map plainF) {j : Nat} (hj : j < a.length) : ∃ hj2 : j < b.length, a[j].n = b[j].n ∧ a[j].p.l = b[j].p.l := by
  have hl : a.length = b.length := by have := congrArg List.length h; simpa using this
  refine ⟨by omega, ?_⟩
  have h2 : (a.map plainF)[j]'(by simpa using hj) = (b.map plainF)[j]'(by simp; omega) := by simp only [h]
  rw [List.getElem_map, List.getElem_map] at h2
  unfold plainF at h2
  rw [Prod.mk.injEq] at h2
  exact h2
theorem sep_types {w : World} {b1 b2 : Nat} {v v' : Value} {l : List Nat} {os : List FIn} (hx : Own w b1 v l) (hr : FO w b2 v' os) : Sep v v' := by
  intro g h1 h2
  rcases hx.2 with ⟨rfl, _⟩ | ⟨g1, cap1, cur1, rfl, _, hh1, _⟩
  · simp [Value.ownBlock] at h1
  · rcases hr.2 with ⟨rfl, _⟩ | ⟨g2, cap2, cur2, rfl, _, hh2, _⟩
    · simp [Value.ownBlock] at h2
    · have e1 : g1 = g := by simpa [Value.ownBlock] using h1
      have e2 : g2 = g := by simpa [Value.ownBlock] using h2
      subst e1
      subst e2
      rw [hh1] at hh2
      injection hh2 with hh2
      injection hh2 with _ ht
      exact absurd ht (by decide)
theorem disk_stays {w w' : World} {b : Nat} {S : List Nat} {d : Dk} (h : DiskAt w b S d) (hs : ∀ g ∈ S, w'.heap[g]? = w.heap[g]?) : DiskAt w' b S d := by
  obtain ⟨m, es, rfl, h2, h3⟩ := h.at_
  exact ⟨⟨m, es, rfl, h2.stays hs, h3⟩, h.room, h.few⟩
/-- what lay at N and above when Of was done stays -/
def Keep (N : Nat) (wO w : World) : Prop := wO.heap.size ≤ w.heap.size ∧ ∀ g, N ≤ g → g < wO.heap.size → w.heap[g]? = wO.heap[g]?
theorem Keep.below {N : Nat} {wO w w' : World} (h : Keep N wO w) (hb : Below w.heap.size w w') : Keep N wO w' :=
  ⟨Nat.le_trans h.1 hb.size, fun g h1 h2 => (hb.block g (by have := h.1; omega)).trans (h.2 g h1 h2)⟩
theorem Keep.set {N : Nat} {wO w : World} (h : Keep N wO w) {g : Nat} (hg : g < N) (i : Nat) (u : Value) : Keep N wO (w.setCell ⟨g, i, none⟩ u) :=
  ⟨by simpa [World.setCell] using h.1, fun k h1 h2 => (heap_setCell_other _ _ _ _ (show k ≠ g by omega)).trans (h.2 k h1 h2)⟩
/-- the files' bytes, whatever they are by now, are the call's own -/
def Spoilt (M N : Nat) (os : List FIn) (w : World) : Prop := ∀ j (h : j < os.length), ∃ l, l.length = os[j].p.l.length ∧ AreBytes l ∧ Own w M os[j].p.v l ∧ Under N os[j].p.v
theorem Spoilt.below {M N : Nat} {os : List FIn} {w w' : World} (h : Spoilt M N os w) (hb : Below w.heap.size w w') : Spoilt M N os w' := fun j hj => by
  obtain ⟨l, h1, h2, h3, h4⟩ := h j hj
  exact ⟨l, h1, h2, h3.below hb, h4⟩
def ApartAll (os : List FIn) : Prop := ∀ i j (hi : i < os.length) (hj : j < os.length), i ≠ j → Sep os[i].p.v os[j].p.v
theorem apart_snoc {os : List FIn} {y : FIn} {g : Nat} (h : ApartAll os) (hu : ∀ x ∈ os, Under g x.p.v) (ha : Above g y.p.v) : ApartAll (os ++ [y]) := by
  intro i j hi hj hij
  rw [List.length_append, List.length_singleton] at hi hj
  by_cases h1 : i < os.length
  · rw [List.getElem_append_left h1]
    by_cases h2 : j < os.length
    · rw [List.getElem_append_left h2]
      exact h i j h1 h2 hij
    · have e : j = os.length := by omega
      subst e
      rw [List.getElem_append_right (Nat.le_refl _)]
      simp only [Nat.sub_self, List.getElem_singleton]
      intro q h3 h4
      have := hu _ (List.getElem_mem h1) q h3
      have := ha q h4
      omega
  · have e : i = os.length := by omega
    subst e
    have h2 : j < os.length := by omega
    rw [List.getElem_append_left h2, List.getElem_append_right (Nat.le_refl _)]
    simp only [Nat.sub_self, List.getElem_singleton]
    intro q h3 h4
    have := hu _ (List.getElem_mem h2) q h4
    have := ha q h3
    omega
theorem HALLos {os fl : List FIn} (h : os.map plainF = fl.map plainF) (ha : ∀ j (hj : j < fl.length), fl[j].p.l.length ≤ 500 ∧ fl[j].n.size ≤ 100) (k : Nat) (hk : k < os.length) : os[k].p.l.length ≤ 500 := by
  obtain ⟨h2, _, e⟩ := plain_at h hk
  rw [e]
  exact (ha k h2).1
theorem own_cell {w : World} {base : Nat} {v : Value} {l : List Nat} (h : Own w base v l) {m : Nat} (hm : m < l.length) : ∃ g c, v = .slice (some ⟨g, 0, none⟩) l.length c ∧ w.cell? ⟨g, m, none⟩ = some (.int .u8 (l[m] : Nat)) ∧ w.frozen? ⟨g, m, none⟩ = false := by
  rcases h.2 with ⟨rfl, h0⟩ | ⟨g, cap, cur, rfl, hg, hgg, hlc, hcm, hcs, htake⟩
  · omega
  · refine ⟨g, cap, rfl, ?_, frozen_of_row _ _ _ _ _ hgg⟩
    have := World.ownsRow.cells h (g := g) rfl m (.int .u8 (l[m] : Nat)) (by simp [hm])
    have hadd : (⟨g, 0, none⟩ : Addr).add m = ⟨g, 0 + m, none⟩ := by unfold Addr.add; split <;> simp_all
    rw [hadd, Nat.zero_add] at this
    exact this
theorem Spoilt.put {M N : Nat} {os : List FIn} {w : World} (h : Spoilt M N os w) (ha : ApartAll os) {k : Nat} (hk : k < os.length) {g c : Nat} (hv : os[k].p.v = .slice (some ⟨g, 0, none⟩) os[k].p.l.length c) (m z : Nat) (hz : z < 256) : Spoilt M N os (w.setCell ⟨g, m, none⟩ (.int .u8 (z : Nat))) := fun j hj => by
  obtain ⟨l, h1, h2, h3, h4⟩ := h j hj
  by_cases hjk : j = k
  · subst hjk
    rw [hv] at h3
    refine ⟨l.set m z, by simpa using h1, fun y hy => ?_, by rw [hv]; exact h3.put m z, h4⟩
    rcases List.mem_or_eq_of_mem_set hy with hy | rfl
    · exact h2 y hy
    · exact hz
  · refine ⟨l, h1, h2, h3.stays fun q hq => heap_setCell_other _ _ _ _ fun e => ?_, h4⟩
    exact ha j k hj hk hjk q hq (by rw [hv, e]; rfl)
theorem u8_xor1 (z : Nat) (hz : z < 256) : ∃ y, y < 256 ∧ bits .xor .u8 (z : Int) 1 = ((y : Nat) : Int) := ⟨z ^^^ 1, Nat.xor_lt_two_pow (n := 8) hz (by decide), u8_xor_nat z 1 hz (by decide)⟩
end Go.Proofs.Ytpnhgongjfknbaa
