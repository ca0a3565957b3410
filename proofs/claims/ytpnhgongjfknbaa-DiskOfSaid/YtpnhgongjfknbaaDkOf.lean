/-
  Of's plain arithmetic: what it makes is what a row of puts makes.
-/
import Derived.Test.YtpnhgongjfknbaaDkP
namespace Go.Proofs.Ytpnhgongjfknbaa
open Go.RowKit omap

def putF (fs : Fs) (x : FIn) : Fs := put lt x.k ⟨x.p.l, x.p.l.length⟩ fs
def stepF (q : Int × Fs) (x : FIn) : Int × Fs :=
  if q.1 ≠ 0 then q else if nameB x.k = false then (25, q.2) else if (omap.look q.2 x.k).isSome = true then (15, q.2) else (0, putF q.2 x)
def runF (q : Int × Fs) (fl : List FIn) : Int × Fs := fl.foldl stepF q
def sumF (fl : List FIn) : Nat := (fl.map fun x => x.p.l.length).sum
theorem runF_cons (q : Int × Fs) (x : FIn) (r : List FIn) : runF q (x :: r) = runF (stepF q x) r := rfl
theorem runF_stuck {q : Int × Fs} (h : q.1 ≠ 0) (fl : List FIn) : runF q fl = q := by
  induction fl with
  | nil => rfl
  | cons x r ih => rw [runF_cons, show stepF q x = q from by unfold stepF; rw [if_pos h], ih]
theorem runF_zero {gs : Fs} {fl : List FIn} (h : (runF (0, gs) fl).1 = 0) : runF (0, gs) fl = (0, fl.foldl putF gs) ∧ (∀ x ∈ fl, omap.look gs x.k = none) ∧ fl.Pairwise (fun x y => x.k ≠ y.k) := by
  induction fl generalizing gs with
  | nil => exact ⟨rfl, (fun x hx => by cases hx), List.Pairwise.nil⟩
  | cons x r ih =>
    rw [runF_cons] at h ⊢
    by_cases h1 : nameB x.k = false
    · have e : stepF (0, gs) x = (25, gs) := by unfold stepF; simp [h1]
      rw [e, runF_stuck (by simp)] at h
      simp at h
    · by_cases h2 : (omap.look gs x.k).isSome = true
      · have e : stepF (0, gs) x = (15, gs) := by unfold stepF; simp [h1, h2]
        rw [e, runF_stuck (by simp)] at h
        simp at h
      · have e : stepF (0, gs) x = (0, putF gs x) := by unfold stepF; simp [h1, h2]
        rw [e] at h ⊢
        obtain ⟨i1, i2, i3⟩ := ih h
        have hx : omap.look gs x.k = none := by simpa using h2
        have hy : ∀ y ∈ r, y.k ≠ x.k ∧ omap.look gs y.k = none := fun y hy => by
          have := i2 y hy
          unfold putF at this
          rw [look_put] at this
          by_cases he : y.k = x.k
          · rw [if_pos he] at this; cases this
          · rw [if_neg he] at this; exact ⟨he, this⟩
        refine ⟨i1, fun y hy' => ?_, List.pairwise_cons.2 ⟨fun y hy' => fun e => (hy y hy').1 e.symm, i3⟩⟩
        rcases List.mem_cons.1 hy' with rfl | hm
        · exact hx
        · exact (hy y hm).2
/-- each file empty -/
def emp (fs : Fs) : Fs := fs.map fun x => (x.1, ⟨[], 0⟩)
theorem emp_look (fs : Fs) (k : Nm) : omap.look (emp fs) k = (omap.look fs k).map fun _ => ⟨[], 0⟩ := by
  induction fs with
  | nil => rfl
  | cons x l ih =>
    show omap.look ((x.1, _) :: emp l) k = _
    rw [look_cons, look_cons, ih]
    by_cases h : x.1 = k <;> simp [h]
theorem emp_ins (k : Nm) (v : Fl) (fs : Fs) : emp (ins lt k v fs) = ins lt k ⟨[], 0⟩ (emp fs) := by
  induction fs with
  | nil => rfl
  | cons x l ih =>
    show emp (if lt k x.1 = true then (k, v) :: x :: l else x :: ins lt k v l) = if lt k x.1 = true then (k, ⟨[], 0⟩) :: emp (x :: l) else (x.1, ⟨[], 0⟩) :: ins lt k ⟨[], 0⟩ (emp l)
    by_cases h : lt k x.1 = true
    · rw [if_pos h, if_pos h]; rfl
    · rw [if_neg h, if_neg h, ← ih]; rfl
theorem emp_del (k : Nm) (fs : Fs) : emp (del k fs) = del k (emp fs) := by
  unfold emp del
  rw [List.filter_map]
  rfl
theorem emp_put (k : Nm) (v : Fl) (fs : Fs) : emp (put lt k v fs) = put lt k ⟨[], 0⟩ (emp fs) := by
  unfold put
  rw [emp_ins, emp_del]
theorem length_put_leF (k : Nm) (v : Fl) (fs : Fs) : (put lt k v fs).length ≤ fs.length + 1 := by
  unfold put
  rw [length_ins]
  have : (del k fs).length ≤ fs.length := List.length_filter_le _ _
  omega
theorem ofN_run {gs : Fs} {fl : List FIn} (hl : gs.length + fl.length ≤ 1024) : (ofN (emp gs) fl).1 = (runF (0, gs) fl).1 ∧ ((runF (0, gs) fl).1 = 0 → (ofN (emp gs) fl).2 = emp (runF (0, gs) fl).2) := by
  induction fl generalizing gs with
  | nil => exact ⟨rfl, fun _ => rfl⟩
  | cons x r ih =>
    have hlen : (emp gs).length = gs.length := by simp [emp]
    rw [List.length_cons] at hl
    rw [runF_cons, ofN_cons]
    by_cases h1 : nameB x.k = false
    · have e : stepF (0, gs) x = (25, gs) := by unfold stepF; simp [h1]
      have c : createS x.k (emp gs) = (25, emp gs) := by unfold createS; rw [if_pos h1]
      rw [e, c, runF_stuck (by simp)]
      simp
    · by_cases h2 : (omap.look gs x.k).isSome = true
      · have e : stepF (0, gs) x = (15, gs) := by unfold stepF; simp [h1, h2]
        have c : createS x.k (emp gs) = (15, emp gs) := by unfold createS; rw [if_neg h1, if_pos (by rw [emp_look]; simpa using h2)]
        rw [e, c, runF_stuck (by simp)]
        simp
      · have e : stepF (0, gs) x = (0, putF gs x) := by unfold stepF; simp [h1, h2]
        have c : createS x.k (emp gs) = (0, emp (putF gs x)) := by
          unfold createS
          rw [if_neg h1, if_neg (by rw [emp_look]; simpa using h2), if_neg (by omega)]
          unfold putF
          rw [emp_put]
        rw [e, c, if_pos rfl]
        have := length_put_leF x.k ⟨x.p.l, x.p.l.length⟩ gs
        exact ih (by unfold putF; omega)
theorem put_putF {k : Nm} {v v' : Fl} {fs : Fs} (h : Rises lt fs) : put lt k v' (put lt k v fs) = put lt k v' fs :=
  omap.ext ord (rises_put ord (rises_put ord h)) (rises_put ord h) fun j => by
    rw [look_put, look_put, look_put]
    by_cases he : j = k <;> simp [he]
theorem tot_put {k : Nm} {v f : Fl} {fs : Fs} (h : Rises lt fs) (hk : omap.look fs k = some f) : tot (put lt k v fs) + f.l.length = tot fs + v.l.length := by
  have h1 := total_ins (lt := lt) (fun x : Nm × Fl => x.2.l.length) k v (del k fs)
  have h2 := total_del ord (fun x : Nm × Fl => x.2.l.length) h hk
  simp only at h1 h2
  unfold tot put
  omega
theorem ofW_run {cap : Nat} {fs : Fs} {r : List FIn} (hr : Rises lt fs) (hk : ∀ x ∈ r, omap.look fs x.k = some ⟨[], 0⟩) (hp : r.Pairwise fun x y => x.k ≠ y.k) :
    (tot fs + sumF r ≤ cap → ofW cap fs r = (0, r.foldl putF fs)) ∧ (cap < tot fs + sumF r → 0 < r.length → tot fs ≤ cap → (ofW cap fs r).1 = 23) := by
  induction r generalizing fs with
  | nil => exact ⟨fun _ => rfl, fun _ h => absurd h (by simp)⟩
  | cons x r ih =>
    have hs : sumF (x :: r) = x.p.l.length + sumF r := by simp [sumF]
    have h0 := hk x List.mem_cons_self
    obtain ⟨hp1, hp2⟩ := List.pairwise_cons.1 hp
    rw [ofW_cons, hs]
    by_cases hc : cap < tot fs + x.p.l.length
    · have e : writeS cap x.k x.p.l fs = (23, fs) := by unfold writeS; rw [h0]; simp only; rw [if_pos hc]
      rw [e]
      exact ⟨fun h => by omega, fun _ _ _ => by simp⟩
    · have e : writeS cap x.k x.p.l fs = (0, put lt x.k ⟨x.p.l, 0⟩ fs) := by unfold writeS; rw [h0]; simp only; rw [if_neg hc]; rfl
      have e2 : (syncS x.k (put lt x.k ⟨x.p.l, 0⟩ fs)).2 = putF fs x := by
        unfold syncS
        rw [look_put, if_pos rfl]
        simp only
        rw [put_putF hr]
        rfl
      rw [e, if_pos rfl, e2]
      have ht : tot (putF fs x) = tot fs + x.p.l.length := by
        have := tot_put (v := ⟨x.p.l, x.p.l.length⟩) hr h0
        simpa [putF] using this
      have hn := ih (fs := putF fs x) (rises_put ord hr) (fun y hy => by
        unfold putF
        rw [look_put, if_neg (fun he => hp1 y hy he.symm)]
        exact hk y (List.mem_cons_of_mem _ hy)) hp2
      rw [ht] at hn
      refine ⟨fun h => hn.1 (by omega), fun h _ _ => ?_⟩
      by_cases hz : r.length = 0
      · have : r = [] := List.length_eq_zero_iff.1 hz
        subst this
        simp [sumF] at h
        omega
      · exact hn.2 (by omega) (by omega) (by omega)
theorem rises_fold {fs : Fs} (h : Rises lt fs) (fl : List FIn) : Rises lt (fl.foldl putF fs) := by
  induction fl generalizing fs with
  | nil => exact h
  | cons x r ih => exact ih (rises_put ord h)
theorem look_fold (fl : List FIn) (fs gs : Fs) (k : Nm) (h : omap.look fs k = omap.look gs k ∨ ∃ x ∈ fl, x.k = k) : omap.look (fl.foldl putF fs) k = omap.look (fl.foldl putF gs) k := by
  induction fl generalizing fs gs with
  | nil => exact h.elim id (fun ⟨x, hx, _⟩ => by cases hx)
  | cons x r ih =>
    refine ih _ _ ?_
    unfold putF
    rw [look_put, look_put]
    by_cases he : k = x.k
    · rw [if_pos he, if_pos he]; exact .inl rfl
    · rw [if_neg he, if_neg he]
      rcases h with h | ⟨y, hy, hy2⟩
      · exact .inl h
      · rcases List.mem_cons.1 hy with rfl | hm
        · exact absurd hy2.symm he
        · exact .inr ⟨y, hm, hy2⟩
theorem look_fold_none (fl : List FIn) (fs : Fs) (k : Nm) (h : ∀ x ∈ fl, x.k ≠ k) : omap.look (fl.foldl putF fs) k = omap.look fs k := by
  induction fl generalizing fs with
  | nil => rfl
  | cons x r ih =>
    rw [List.foldl_cons, ih _ (fun y hy => h y (List.mem_cons_of_mem _ hy))]
    unfold putF
    rw [look_put, if_neg (fun e => h x List.mem_cons_self e.symm)]
theorem look_fold_some (fl : List FIn) (fs : Fs) (k : Nm) (h : ∃ x ∈ fl, x.k = k) : ∃ v, omap.look (fl.foldl putF fs) k = some v := by
  induction fl generalizing fs with
  | nil => obtain ⟨x, hx, _⟩ := h; cases hx
  | cons y r ih =>
    rw [List.foldl_cons]
    by_cases hm : ∃ z ∈ r, z.k = k
    · exact ih _ hm
    · rw [look_fold_none _ _ _ (fun z hz e => hm ⟨z, hz, e⟩)]
      obtain ⟨x, hx, e⟩ := h
      rcases List.mem_cons.1 hx with rfl | hx2
      · unfold putF
        rw [look_put, if_pos e.symm]
        exact ⟨_, rfl⟩
      · exact absurd ⟨x, hx2, e⟩ hm
theorem tot_emp (fs : Fs) : tot (emp fs) = 0 := by
  unfold tot omap.total emp
  induction fs with
  | nil => rfl
  | cons x l ih => simpa using ih
/-- Of, as the document's row tells it -/
theorem ofS_run {cap : Int} {fl : List FIn} (h0 : 0 ≤ cap) (h1 : cap ≤ 67108864) (h2 : fl.length ≤ 1024) :
    ofS cap fl = (if (runF (0, []) fl).1 = 0 then (if cap < sumF fl then ofS cap fl else (0, (runF (0, []) fl).2)) else ofS cap fl) ∧
    ((ofS cap fl).1 = if (runF (0, []) fl).1 = 0 then (if cap < sumF fl then 23 else 0) else (runF (0, []) fl).1) := by
  obtain ⟨hN, hN2⟩ := ofN_run (gs := []) (fl := fl) (by simpa using h2)
  have he : emp [] = [] := rfl
  rw [he] at hN hN2
  have hS : ofS cap fl = if (ofN [] fl).1 = 0 then ofW cap.toNat (ofN [] fl).2 fl else ofN [] fl := by
    unfold ofS; rw [if_neg (by omega), if_neg (by omega)]
  by_cases hz : (runF (0, []) fl).1 = 0
  · obtain ⟨z1, z2, z3⟩ := runF_zero hz
    rw [if_pos hz, if_pos hz]
    rw [hN, if_pos hz, hN2 hz] at hS
    have hG : (runF (0, []) fl).2 = fl.foldl putF [] := by rw [z1]
    rw [hG] at hS ⊢
    have hG1 : Rises lt (fl.foldl putF []) := rises_fold List.Pairwise.nil fl
    have hE : Rises lt (emp (fl.foldl putF [])) := by
      unfold emp Rises
      rw [List.pairwise_map]
      exact hG1
    have hk : ∀ x ∈ fl, omap.look (emp (fl.foldl putF [])) x.k = some ⟨[], 0⟩ := fun x hx => by
      obtain ⟨v, hv⟩ := look_fold_some fl [] x.k ⟨x, hx, rfl⟩
      rw [emp_look, hv]
      rfl
    obtain ⟨w1, w2⟩ := ofW_run (cap := cap.toNat) hE hk z3
    rw [tot_emp] at w1 w2
    have hX : fl.foldl putF (emp (fl.foldl putF [])) = fl.foldl putF [] := omap.ext ord (rises_fold hE fl) hG1 fun k => by
      by_cases hm : ∃ x ∈ fl, x.k = k
      · exact look_fold _ _ _ _ (.inr hm)
      · have hm' : ∀ x ∈ fl, x.k ≠ k := fun x hx e => hm ⟨x, hx, e⟩
        rw [look_fold_none _ _ _ hm', emp_look, look_fold_none _ _ _ hm']
        rfl
    rw [hX] at w1
    by_cases hc : cap < sumF fl
    · rw [if_pos hc, if_pos hc]
      refine ⟨rfl, ?_⟩
      rw [hS]
      refine w2 (by omega) ?_ (by omega)
      rcases fl with _ | ⟨a, b⟩
      · simp [sumF] at hc
        omega
      · simp
    · rw [if_neg hc, if_neg hc, hS, w1 (by omega)]
      exact ⟨rfl, rfl⟩
  · rw [if_neg hz, if_neg hz]
    refine ⟨rfl, ?_⟩
    rw [hS, hN, if_neg hz]
    exact hN
end Go.Proofs.Ytpnhgongjfknbaa
