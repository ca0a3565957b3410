/-
  Layer 10: edges in their order: the library's sort.
-/
import Derived.Test.YtboelbmpcbeifaaDoorImLay
import Derived.Test.YtboelbmpcbeifaaDoorImC
namespace Go.Proofs.YtboelbmpcbeifaaDoor
open Go.RowKit imm

def imm.Eg.cs (e : Eg) : List Value := [.int .i64 e.y, .int .i64 e.x0, .int .i64 e.x1, .int .i64 e.m]
def cmpE (a b : Eg) : Int := Go.Lib.compareInt a.y b.y
theorem ltE (a b : Eg) : ltOf cmpE a b = decide (a.y < b.y) := by
  unfold ltOf cmpE Go.Lib.compareInt
  by_cases h1 : a.y < b.y
  · simp [h1]
  · by_cases h2 : b.y < a.y <;> simp [h1, h2]
theorem swoE : Go.Sort.SWO (ltOf cmpE) where
  irrefl x := by rw [ltE]; simp
  trans x y z h1 h2 := by rw [ltE] at *; simp at *; omega
  ntrans x y z h1 h2 := by rw [ltE] at *; simp at *; omega
set_option maxHeartbeats 1000000 in
theorem cmp_edge (a b : Eg) (w : World) : Calls Tryd.prog 52 #[.agg #[.int .i64 a.y, .int .i64 a.x0, .int .i64 a.x1, .int .i64 a.m], .agg #[.int .i64 b.y, .int .i64 b.x0, .int .i64 b.x1, .int .i64 b.m]] w
    fun e w' => e = .returned (.int .i64 (cmpE a b)) ∧ ∃ q os', w' = Go.Sort.grow (w.drewN q) os' := by
  have hcon := fun W' => AnyG.cmp_Compare_int l_cmp a.y b.y W'
  change ∀ W', Calls Tryd.prog 53 _ _ _ at hcon
  have HC : Hid (Go.Lib.compareInt a.y b.y = cmpE a b) := rfl
  generalize Go.Lib.compareInt a.y b.y = r at *
  generalize cmpE a b = r2 at *
  go_enter Tryd.func52, Tryd.ntmps52
  go_wp2_with (go_at_call 53; refine (hcon _).mono ?_; rintro e w' ⟨rfl, rfl⟩)
  go_ret
  exact ⟨ret_num HC.out, 0, _, by rw [Go.Sort.alloc_eq_grow, Go.Sort.alloc_eq_grow, Go.Sort.grow_grow]; rfl⟩
theorem off_sort (enc : Eg → List Value) (k : Nat) (w : World) (g off n : Nat) (d : Array Eg) (os : Array Obj) : Off [g] w (sortWorldK enc k w g off n d os) := by
  unfold sortWorldK Go.Sort.putRowK Go.Sort.putRow Go.Sort.grow Go.Sort.mapBlock Go.Sort.ahead
  refine ⟨rfl, rfl, rfl, by simp, fun j hj hn => ?_⟩
  have hne : g ≠ j := by simpa [eq_comm] using hn
  simp only
  rw [Array.getElem?_append_left (by simpa using hj), Array.getElem?_modify, if_neg hne]
theorem flat_get (l : List Eg) {j : Nat} (hj : j < l.length * 4) : (l.flatMap Eg.cs)[j]? = some ((Eg.cs (l.toArray[j / 4]!))[j % 4]!) := by
  have h4 : j / 4 < l.length := by omega
  have hc : ∀ x : Eg, x.cs.length = 4 := fun _ => rfl
  have hm : j % 4 < 4 := by omega
  have h := flat_at (enc := Eg.cs) (k := 4) hc (l := l) h4 (i := j % 4) (v := (Eg.cs l[j / 4])[j % 4]'(by rw [hc]; exact hm)) (List.getElem?_eq_getElem _)
  rw [show j / 4 * 4 + j % 4 = j by omega] at h
  rw [h]
  congr 1
  have e : l.toArray[j / 4]! = l[j / 4] := by simp [h4]
  rw [e, getElem!_pos _ _ (by rw [hc]; exact hm)]
theorem sort_any (g cap : Nat) (es : List Eg) (w : World) (hc : ∀ j v, (es.flatMap Eg.cs)[j]? = some v → w.cell? ⟨g, j, none⟩ = some v) (hf : ∀ j, w.frozen? ⟨g, j, none⟩ = false) (hg : g < w.heap.size) (hn : es.length ≤ 1000000000) :
    Calls Tryd.prog 51 #[.slice (some ⟨g, 0, none⟩) es.length cap, .func (.func 52) #[] #[]] w
      fun e w' => e = .returned (.tuple #[]) ∧ ∃ es', es'.Perm es ∧ Sorted es' ∧ SRow 4 Eg.cs w' (some ⟨g, 0, none⟩) es' ∧ g < w'.heap.size ∧ Off [g] w w' := by
  have eg : ∀ args w, (callFunc 52 args).run Tryd.prog w = .ok (.enter 52 args) w := enters_of Tryd.func52 (by kernel_rfl) rfl
  have hk : ∀ x : Eg, x.cs.length = 4 := fun _ => rfl
  have hH : Go.Sort.HoldsK Eg.cs 4 w g 0 es.toArray := by
    intro j hj
    have hj' : j < es.length * 4 := by simpa using hj
    rw [Go.Sort.get_flatK _ _ _ _ (by simpa using hj'), Nat.zero_add]
    exact ⟨hc j _ (flat_get es hj'), hf j⟩
  have hcon := AnyQ.slices_SortFunc l_sort 4 Tryd.isAgg80 Tryd.sizeOf80 Eg.cs hk (fun x v hv => by simp [Eg.cs] at hv; rcases hv with rfl | rfl | rfl | rfl <;> rfl) cmpE swoE 52 #[] g 0 cap es.toArray w eg
    (fun _ _ _ _ x y => cmp_edge x y _) hH hg (by simp; omega)
  have hcon : Calls Tryd.prog 51 #[.slice (some ⟨g, 0, none⟩) es.length cap, .func (.func 52) #[] #[]] w _ := hcon
  refine hcon.mono ?_
  rintro e w' ⟨rfl, d', n, os, hp, hs, rfl⟩
  obtain ⟨hsz, -, hperm⟩ := hp
  have hsz : d'.size = es.length := by simpa using hsz
  refine ⟨rfl, d'.toList, ?_, ?_, ?_, ?_, off_sort _ _ _ _ _ _ _ _⟩
  · have h1 : (d'.extract 0 es.toArray.size).toList = d'.toList := by rw [show es.toArray.size = d'.size by simp [hsz]]; simp
    rw [h1] at hperm
    simpa using hperm
  · intro i j hi hj hij
    rw [Array.length_toList] at hi hj
    have h := hs i j (Nat.zero_le _) hij (by simpa [← hsz] using hj)
    rw [ltE, decide_eq_false_iff_not, getElem!_pos d' i hi, getElem!_pos d' j hj] at h
    simp only [Array.getElem_toList]
    omega
  · have hH2 : Go.Sort.HoldsK Eg.cs 4 (sortWorldK Eg.cs 4 w g 0 n d' os) g 0 d' := Go.Sort.holdsK_grow _ _ _ os _ _ _ (by simpa [Go.Sort.putRowK] using hg) (Go.Sort.holdsK_putRowK _ _ _ _ _ es.toArray d' hH (by simpa using hsz))
    refine fun _ => ⟨g, 0, rfl, fun j hj i v hv => ?_⟩
    rw [Array.length_toList] at hj
    have hi : i < 4 := by have := (List.getElem?_eq_some_iff.1 hv).1; rwa [hk] at this
    have h := (hH2.cell hj hi).1
    simp only [Array.getElem_toList] at hv
    obtain ⟨h1, h2⟩ := List.getElem?_eq_some_iff.1 hv
    have e1 : d'[j]! = d'[j] := getElem!_pos d' j hj
    rw [h, e1, getElem!_pos (Eg.cs d'[j]) i h1, h2]
  · exact Nat.lt_of_lt_of_le hg (off_sort Eg.cs 4 w g 0 n d' os).size
end Go.Proofs.YtboelbmpcbeifaaDoor
