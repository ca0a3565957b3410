/-
  The contracts of what makes a disk: Of, New.
-/
import Derived.Test.YtpnhgongjfknbaaDkO
namespace Go.Proofs.Ytpnhgongjfknbaa
open Go.RowKit omap

/-- a file that is handed in -/
structure FIn where
  n : ByteArray
  p : Part
def FIn.k (x : FIn) : Nm := x.n.data.toList
def ofN (fs : Fs) : List FIn → Int × Fs
  | [] => (0, fs)
  | x :: r => if (createS x.k fs).1 = 0 then ofN (createS x.k fs).2 r else createS x.k fs
def ofW (cap : Nat) (fs : Fs) : List FIn → Int × Fs
  | [] => (0, fs)
  | x :: r => if (writeS cap x.k x.p.l fs).1 = 0 then ofW cap (syncS x.k (writeS cap x.k x.p.l fs).2).2 r else writeS cap x.k x.p.l fs
theorem ofN_cons (fs : Fs) (x : FIn) (r : List FIn) : ofN fs (x :: r) = if (createS x.k fs).1 = 0 then ofN (createS x.k fs).2 r else createS x.k fs := rfl
theorem ofW_cons (cap : Nat) (fs : Fs) (x : FIn) (r : List FIn) : ofW cap fs (x :: r) = if (writeS cap x.k x.p.l fs).1 = 0 then ofW cap (syncS x.k (writeS cap x.k x.p.l fs).2).2 r else writeS cap x.k x.p.l fs := rfl
theorem ofN_append (fs : Fs) (a b : List FIn) (h : (ofN fs a).1 = 0) : ofN fs (a ++ b) = ofN (ofN fs a).2 b := by
  induction a generalizing fs with
  | nil => rfl
  | cons x a ih =>
    rw [List.cons_append, ofN_cons, ofN_cons]
    rw [ofN_cons] at h
    by_cases h0 : (createS x.k fs).1 = 0
    · rw [if_pos h0] at h ⊢
      rw [if_pos h0]
      exact ih _ h
    · rw [if_neg h0] at h
      exact absurd h h0
theorem ofW_append (cap : Nat) (fs : Fs) (a b : List FIn) (h : (ofW cap fs a).1 = 0) : ofW cap fs (a ++ b) = ofW cap (ofW cap fs a).2 b := by
  induction a generalizing fs with
  | nil => rfl
  | cons x a ih =>
    rw [List.cons_append, ofW_cons, ofW_cons]
    rw [ofW_cons] at h
    by_cases h0 : (writeS cap x.k x.p.l fs).1 = 0
    · rw [if_pos h0] at h ⊢
      rw [if_pos h0]
      exact ih _ h
    · rw [if_neg h0] at h
      exact absurd h h0
theorem ofN_at {fs : Fs} {fl : List FIn} {k : Nat} (hk : k < fl.length) (h : (ofN fs (fl.take k)).1 = 0) : ofN fs fl = ofN (ofN fs (fl.take k)).2 (fl[k] :: fl.drop (k + 1)) := by
  rw [← ofN_append _ _ _ h, ← List.drop_eq_getElem_cons hk, List.take_append_drop]
theorem ofN_next {fs : Fs} {fl : List FIn} {k : Nat} (hk : k < fl.length) (h : (ofN fs (fl.take k)).1 = 0) : ofN fs (fl.take (k + 1)) = ofN (ofN fs (fl.take k)).2 [fl[k]] := by
  rw [List.take_succ_eq_append_getElem hk, ofN_append _ _ _ h]
theorem ofW_at {cap : Nat} {fs : Fs} {fl : List FIn} {k : Nat} (hk : k < fl.length) (h : (ofW cap fs (fl.take k)).1 = 0) : ofW cap fs fl = ofW cap (ofW cap fs (fl.take k)).2 (fl[k] :: fl.drop (k + 1)) := by
  rw [← ofW_append _ _ _ _ h, ← List.drop_eq_getElem_cons hk, List.take_append_drop]
theorem ofW_next {cap : Nat} {fs : Fs} {fl : List FIn} {k : Nat} (hk : k < fl.length) (h : (ofW cap fs (fl.take k)).1 = 0) : ofW cap fs (fl.take (k + 1)) = ofW cap (ofW cap fs (fl.take k)).2 [fl[k]] := by
  rw [List.take_succ_eq_append_getElem hk, ofW_append _ _ _ _ h]
/-- what Of makes: an error, or files -/
def ofS (cap : Int) (fl : List FIn) : Int × Fs :=
  if cap < 0 ∨ 67108864 < cap then (11, [])
  else if 1024 < fl.length then (12, [])
  else if (ofN [] fl).1 = 0 then ofW cap.toNat (ofN [] fl).2 fl else ofN [] fl
def FileRow (w : World) (A : Option Addr) (fl : List FIn) : Prop :=
  0 < fl.length → ∃ b off, A = some ⟨b, off, none⟩ ∧ ∀ j (h : j < fl.length), w.cell? ⟨b, off + j * 2, none⟩ = some (.string fl[j].n) ∧ w.cell? ⟨b, off + j * 2 + 1, none⟩ = some (fl[j].p.v)
theorem FileRow.below {w w' : World} {A : Option Addr} {fl : List FIn} (h : FileRow w A fl) (hb : Below w.heap.size w w') : FileRow w' A fl := fun hn => by
  obtain ⟨b, off, e, hc⟩ := h hn
  refine ⟨b, off, e, fun j hj => ?_⟩
  obtain ⟨h0, h1⟩ := hc j hj
  have hlt := World.block_lt_of_cell? w _ h0
  exact ⟨(hb.cell (p := ⟨b, off + j * 2, none⟩) hlt).trans h0, (hb.cell (p := ⟨b, off + j * 2 + 1, none⟩) hlt).trans h1⟩
def Made (w : World) (cap : Int) (fl : List FIn) (r : Ending) (w' : World) : Prop :=
  Below w.heap.size w w' ∧ if (ofS cap fl).1 = 0 then ∃ b S, r = .returned (.tuple #[.pointer (some ⟨b, 0, none⟩), .int .i64 0]) ∧ DiskAt w' b S ⟨⟨0, 0, false⟩, cap.toNat, (ofS cap fl).2⟩ ∧ ∀ g ∈ S, w.heap.size ≤ g
    else r = .returned (.tuple #[.pointer none, .int .i64 (ofS cap fl).1])
theorem ofN_tot (fs : Fs) (fl : List FIn) : tot (ofN fs fl).2 = tot fs := by
  induction fl generalizing fs with
  | nil => rfl
  | cons x r ih =>
    unfold ofN
    split
    · rw [ih, tot_create]
    · exact tot_create _ _
theorem createS_length (k : Nm) (fs : Fs) : (createS k fs).2.length ≤ fs.length + 1 := by
  unfold createS
  split
  · simp
  · split
    · simp
    · split
      · simp
      · exact length_put_le _ _ _ _
set_option maxRecDepth 100000 in
set_option maxHeartbeats 8000000 in
theorem of_any (cap : Int) (A : Option Addr) (fl : List FIn) (c : Nat) (w : World) (hr : FileRow w A fl) (hx : ∀ x ∈ fl, x.n.size ≤ 1000 ∧ x.p.ok w) (hn : fl.length ≤ 1000000000) :
    Calls Try.prog 16 #[.int .i64 cap, .slice A fl.length c] w (Made w cap fl) := by
  by_cases h1 : cap < 0 ∨ 67108864 < cap
  · have hS : ofS cap fl = (11, []) := by unfold ofS; rw [if_pos h1]
    have hX : Hid (∀ w', Below w.heap.size w w' → Made w cap fl (.returned (.tuple #[.pointer none, .int .i64 11])) w') := fun w' hb => ⟨hb, by rw [hS]; rw [if_neg (by decide)]⟩
    clear hr hx hn hS
    by_cases h2 : cap < 0
    · have t1 : decide (cap < 0) = true := by simpa using h2
      clear h1
      go_enter Try.func16, Try.ntmps16
      go_wp2_with (fail)
      go_ret2
      exact hX.out _ (Below.refl _ _)
    · have t1 : decide (cap < 0) = false := by simpa using h2
      have t2 : decide ((67108864 : Int) < cap) = true := by simp; omega
      clear h1
      go_enter Try.func16, Try.ntmps16
      go_wp2_with (fail)
      go_ret2
      exact hX.out _ (Below.refl _ _)
  · have t1 : decide (cap < 0) = false := by simp; omega
    have t2 : decide ((67108864 : Int) < cap) = false := by simp; omega
    by_cases h2 : 1024 < fl.length
    · have hS : ofS cap fl = (12, []) := by unfold ofS; rw [if_neg h1, if_pos h2]
      have hX : Hid (∀ w', Below w.heap.size w w' → Made w cap fl (.returned (.tuple #[.pointer none, .int .i64 12])) w') := fun w' hb => ⟨hb, by rw [hS]; rw [if_neg (by decide)]⟩
      have t3 : decide ((1024 : Int) < (fl.length : Int)) = true := by simp; omega
      clear hr hx hn hS h1 h2
      go_enter Try.func16, Try.ntmps16
      go_wp2_with (fail)
      go_ret2
      exact hX.out _ (Below.refl _ _)
    · have t3 : decide ((1024 : Int) < (fl.length : Int)) = false := by simp; omega
      obtain ⟨C, hC⟩ : ∃ C : Nat, cap = (C : Int) := ⟨cap.toNat, by omega⟩
      subst hC
      have hC2 : C ≤ 67108864 := by omega
      have hfl : fl.length ≤ 1024 := by omega
      have hS : ofS (C : Int) fl = if (ofN [] fl).1 = 0 then ofW C (ofN [] fl).2 fl else ofN [] fl := by unfold ofS; rw [if_neg h1, if_neg h2, Int.toNat_natCast]
      have HS := Lib.hid hS
      have HROW := Lib.hid hr
      have HX := Lib.hid hx
      have HFL := Lib.hid hfl
      have hmk : ∀ w : World, (Instr.makeMap 58 none).run Try.prog w = .ok (.map (some w.heap.size)) (w.alloc (.map #[] 0)) := fun w => run_makeMap _ w
      clear hr hx hn hS h1 h2 hfl
      go_enter Try.func16, Try.ntmps16
      go_wp2_with (fail)
      obtain ⟨w1, hw1⟩ : ∃ w1, w1 = ((w.alloc (.map #[] 0)).alloc (.cells #[.int .i64 0, .int .i64 0, .bool false, .int .i64 (C : Nat), .int .i64 0, .map (some w.heap.size)] 60)) := ⟨_, rfl⟩
      rw [← hw1]
      have hBB : Below w.heap.size w w1 := by rw [hw1]; exact (((Below.refl _ _).alloc (Nat.le_refl _) _).alloc (by simp) _)
      have hnew : Raw w1 (w.heap.size + 1) w.heap.size ⟨0, 0, false⟩ C (tot (er [])) [] := by
        refine ⟨⟨60, ?_⟩, ?_, fun x hx => (by cases hx), ?_⟩
        · have := heap_alloc_new (w.alloc (.map #[] 0)) (.cells #[.int .i64 0, .int .i64 0, .bool false, .int .i64 (C : Nat), .int .i64 0, .map (some w.heap.size)] 60)
          have e1 : (w.alloc (.map #[] 0)).heap.size = w.heap.size + 1 := by simp
          rw [e1] at this
          rw [hw1]
          exact this
        · rw [hw1]
          exact (mapAt_made w).stays (Below.heap_alloc _ _ _ (by simp))
        · simp [foot, owned]
      have HB := Lib.hid hBB
      have HNEW := Lib.hid hnew
      have hS0 : Hid (∀ g ∈ foot (w.heap.size + 1) w.heap.size ([] : Es), w.heap.size ≤ g) := fun g hg => by
        simp [foot, owned] at hg
        omega
      clear hBB hnew hw1
      have hcb : (C : Int) ≤ 67108864 := by omega
      go_loopw [28] (fun i wr => ∃ (k : Nat) (es : Es), k ≤ fl.length ∧ i = .int .i64 k ∧ Hid (ofN [] (fl.take k) = (0, er es)) ∧ Hid (es.length ≤ k) ∧ Hid (Raw wr (w.heap.size + 1) w.heap.size ⟨0, 0, false⟩ C (tot (er es)) es) ∧ Hid (Turn (foot (w.heap.size + 1) w.heap.size []) (foot (w.heap.size + 1) w.heap.size es) w1 wr)) (fun i _ => fl.length - (intOf i).toNat)
      case atStart => exact ⟨0, [], Nat.zero_le _, rfl, rfl, Nat.le_refl _, HNEW.out, Turn.refl _ _⟩
      case round =>
        obtain ⟨k, es, hk, rfl, hofn, hel, hraw, ht⟩ := hrel
        by_cases hlt : k < fl.length
        · have hbw : Below w.heap.size w wr := HB.out.trans (ht.out.to_below HB.out.size hS0.out)
          obtain ⟨rb, off, ra, hcell⟩ := (HROW.out.below hbw) (by omega)
          subst ra
          obtain ⟨q0, q1⟩ := hcell k hlt
          have hnk := (HX.out fl[k] (List.getElem_mem hlt)).1
          have h0 : (ofN [] (fl.take k)).1 = 0 := by rw [hofn.out]
          have hat := ofN_at hlt h0
          have hnext := ofN_next hlt h0
          rw [hofn.out] at hat hnext
          obtain ⟨x, hx⟩ : ∃ x, x = fl[k] := ⟨_, rfl⟩
          rw [← hx] at q0 q1 hnk hat hnext
          rw [ofN_cons] at hat hnext
          have hbl : rb < wr.heap.size := World.block_lt_of_cell? wr _ q0
          obtain ⟨xn, xa, xl, xc⟩ := x
          unfold Part.v at q1
          simp only at q0 q1 hnk hat hnext
          have HAT := Lib.hid hat
          have HNEXT := Lib.hid hnext
          have HNK := Lib.hid hnk
          have HBW := Lib.hid hbw
          have hkb : (k : Int) ≤ 1073741824 := by have := HFL.out; omega
          have HA := Lib.hid (hraw.out.alloc (.cells #[.string xn, .slice xa xl.length xc] 43))
          have HTA : Hid (Turn (foot (w.heap.size + 1) w.heap.size es) (foot (w.heap.size + 1) w.heap.size es) wr (wr.alloc (.cells #[.string xn, .slice xa xl.length xc] 43))) := Turn.alloc _ _ _
          clear hcell hx hat hnext hnk hbw h0
          go_wp2_with (fail)
          refine (create_any (w.heap.size + 1) w.heap.size _ C _ es xn _ HA.out HNK.out).mono ?_
          rintro r w2 ⟨rfl, es', k1, k2, k3⟩
          obtain ⟨n, hn⟩ : ∃ n, n = (createS xn.data.toList (er es)).1 := ⟨_, rfl⟩
          rw [← hn]
          have HK1 : Hid (Raw w2 (w.heap.size + 1) w.heap.size ⟨0, 0, false⟩ C (tot (er es')) es') := by
            have e1 : tot (er es') = tot (er es) := by rw [k2, tot_create]
            rw [e1]
            exact k1
          have HK2 := Lib.hid k2
          have HK3 := Lib.hid k3
          have HN := Lib.hid hn
          clear k1 k2 k3 hn
          by_cases hn0 : n = 0
          · subst hn0
            go_wp2_with (fail)
            go_roundw
            case rel =>
              exact ⟨k + 1, es', by omega, by go_num, by
                show _ = _
                rw [HNEXT.out]
                show (if (createS xn.data.toList (er es)).1 = 0 then _ else _) = _
                rw [if_pos HN.out.symm, HK2.out]
                rfl, by
                show _ ≤ _
                have h1 := createS_length xn.data.toList (er es)
                rw [← HK2.out, er_length, er_length] at h1
                have h2 := hel.out
                omega, HK1.out, (ht.out.trans HTA.out).trans HK3.out⟩
            case measure => simp [intOf]; omega
          · have tn : (n == 0) = false := by simpa using hn0
            have HM : Hid (∀ w', Below w.heap.size w w' → Made w (C : Int) fl (.returned (.tuple #[.pointer none, .int .i64 n])) w') := fun w' hb => by
              have h1 : ofN [] fl = createS xn.data.toList (er es) := by
                rw [HAT.out]
                show (if (createS xn.data.toList (er es)).1 = 0 then _ else _) = _
                rw [if_neg (by rw [← HN.out]; exact hn0)]
                rfl
              refine ⟨hb, ?_⟩
              have h2 : ofS (C : Int) fl = createS xn.data.toList (er es) := by
                rw [HS.out, h1, if_neg (by rw [← HN.out]; exact hn0)]
              rw [h2, ← HN.out, if_neg hn0]
            have HBF : Hid (Below w.heap.size w w2) := HBW.out.trans ((HTA.out.trans HK3.out).to_below (by have := HBW.out.size; omega) (fun g hg => by
              by_cases hge : w.heap.size ≤ g
              · exact hge
              · exfalso
                have h3 := HB.out.size
                have h4 := (ht.out.far g (by omega) (fun hm => hge (hS0.out g hm))).1
                exact h4 hg))
            clear hn0
            go_wp2_with (fail)
            go_ret2
            exact HM.out _ HBF.out
        · have hk' : k = fl.length := by omega
          subst hk'
          rw [List.take_length] at hofn
          clear hlt hk
          go_wp2_with (fail)
          have HO1 := Lib.hid hofn.out
          have HR1 := Lib.hid hraw.out
          have HB1 : Hid (Below w.heap.size w wr) := HB.out.trans (ht.out.to_below HB.out.size hS0.out)
          have HS1 : Hid (∀ g ∈ foot (w.heap.size + 1) w.heap.size es, w.heap.size ≤ g) := fun g hg => by
            by_cases hge : w.heap.size ≤ g
            · exact hge
            · exfalso
              have h3 := HB.out.size
              exact (ht.out.far g (by omega) (fun hm => hge (hS0.out g hm))).1 hg
          have HT0 : Hid (tot (er es) ≤ C) := by
            show _ ≤ _
            have h1 := ofN_tot [] fl
            rw [HO1.out] at h1
            simp only at h1
            rw [h1]
            exact Nat.zero_le _
          clear hofn hel hraw ht hS0 HB HNEW
          generalize es = es1 at *
          generalize wr = w3 at *
          go_loopw [42] (fun i wr => ∃ (k : Nat) (es : Es), k ≤ fl.length ∧ i = .int .i64 k ∧ Hid (ofW C (er es1) (fl.take k) = (0, er es)) ∧ Hid (tot (er es) ≤ C) ∧ Hid (Raw wr (w.heap.size + 1) w.heap.size ⟨0, 0, false⟩ C (tot (er es)) es) ∧ Hid (Turn (foot (w.heap.size + 1) w.heap.size es1) (foot (w.heap.size + 1) w.heap.size es) w3 wr)) (fun i _ => fl.length - (intOf i).toNat)
          case atStart => exact ⟨0, es1, Nat.zero_le _, rfl, rfl, HT0.out, HR1.out, Turn.refl _ _⟩
          case round =>
            obtain ⟨k, es, hk, rfl, hofw, htot, hraw, ht⟩ := hrel
            by_cases hlt : k < fl.length
            · have hbw : Below w.heap.size w wr := HB1.out.trans (ht.out.to_below HB1.out.size HS1.out)
              obtain ⟨rb, off, ra, hcell⟩ := (HROW.out.below hbw) (by omega)
              subst ra
              obtain ⟨q0, q1⟩ := hcell k hlt
              obtain ⟨hnk, hpk⟩ := HX.out fl[k] (List.getElem_mem hlt)
              have h0 : (ofW C (er es1) (fl.take k)).1 = 0 := by rw [hofw.out]
              have hat := ofW_at hlt h0
              have hnext := ofW_next hlt h0
              rw [hofw.out] at hat hnext
              obtain ⟨x, hx⟩ : ∃ x, x = fl[k] := ⟨_, rfl⟩
              rw [← hx] at q0 q1 hnk hpk hat hnext
              rw [ofW_cons] at hat hnext
              have hbl : rb < wr.heap.size := World.block_lt_of_cell? wr _ q0
              obtain ⟨xn, xa, xl, xc⟩ := x
              unfold Part.v at q1
              simp only at q0 q1 hnk hat hnext
              have HAT := Lib.hid hat
              have HNEXT := Lib.hid hnext
              have HNK := Lib.hid hnk
              have HPK := Lib.hid hpk
              have HBW := Lib.hid hbw
              have hkb : (k : Int) ≤ 1073741824 := by have := HFL.out; omega
              have HFB : Hid (Below wr.heap.size wr ((wr.alloc (.cells #[.string xn, .slice xa xl.length xc] 43)).alloc (.cells #[.slice xa xl.length xc] 35))) := ((Below.refl _ _).alloc (Nat.le_refl _) _).alloc (by simp) _
              have HA := Lib.hid (hraw.out.below HFB.out)
              have HFS : Hid (∀ g ∈ foot (w.heap.size + 1) w.heap.size es, w.heap.size ≤ g ∧ g < wr.heap.size) := fun g hg => ⟨by
                by_cases hge : w.heap.size ≤ g
                · exact hge
                · exfalso
                  have h3 := HB1.out.size
                  exact (ht.out.far g (by omega) (fun hm => hge (HS1.out g hm))).1 hg, hraw.out.inside g hg⟩
              have HROW2 : Hid (Row Part.v ((wr.alloc (.cells #[.string xn, .slice xa xl.length xc] 43)).alloc (.cells #[.slice xa xl.length xc] 35)) (some ⟨wr.heap.size + 1, 0, none⟩) [⟨xa, xl, xc⟩]) := fun _ => ⟨_, 0, rfl, fun j hj => by
                have hj0 : j = 0 := by simpa using hj
                subst hj0
                have := heap_alloc_new (wr.alloc (.cells #[.string xn, .slice xa xl.length xc] 43)) (.cells #[.slice xa xl.length xc] 35)
                have e1 : (wr.alloc (.cells #[.string xn, .slice xa xl.length xc] 43)).heap.size = wr.heap.size + 1 := by simp
                rw [e1] at this
                exact cell_of_row _ _ 0 _ _ _ this⟩
              have HAP : Hid (Apart (foot (w.heap.size + 1) w.heap.size es) (some ⟨wr.heap.size + 1, 0, none⟩) 1) := fun _ x hx hm => by
                obtain rfl := Option.some.inj hx
                have := (HFS.out _ hm).2
                simp at this
                omega
              have HPS : Hid (∀ q ∈ [(⟨xa, xl, xc⟩ : Part)], q.ok ((wr.alloc (.cells #[.string xn, .slice xa xl.length xc] 43)).alloc (.cells #[.slice xa xl.length xc] 35)) ∧ Apart (foot (w.heap.size + 1) w.heap.size es) q.a q.l.length) := fun q hq => by
                obtain rfl := List.mem_singleton.1 hq
                refine ⟨(HPK.out.below hbw).below HFB.out, fun hn x hx hm => ?_⟩
                obtain ⟨pb, po, pe, pc⟩ := HPK.out.at_ hn
                have h1 := World.block_lt_of_cell? w _ (pc 0 hn)
                have h2 := (HFS.out _ hm).1
                simp only at pe hx
                rw [pe] at hx
                obtain rfl := Option.some.inj hx
                simp only at h1 h2
                omega
              have hfl1 : flat [(⟨xa, xl, xc⟩ : Part)] = xl := by simp [flat]
              have HW := Lib.hid (write_any (w.heap.size + 1) w.heap.size _ C _ es xn (some ⟨wr.heap.size + 1, 0, none⟩) [⟨xa, xl, xc⟩] 1 _ HA.out HNK.out rfl htot.out hC2 HROW2.out HAP.out HPS.out (by simp))
              rw [hfl1] at HW
              have HRR := Lib.hid (rises_er.2 hraw.out.rises)
              clear hcell hx hat hnext hnk hpk hbw h0 hfl1
              go_wp2_with (fail)
              refine HW.out.mono ?_
              rintro r w4 ⟨rfl, es', k1, k2, k3⟩
              obtain ⟨n, hn⟩ : ∃ n, n = (writeS C xn.data.toList xl (er es)).1 := ⟨_, rfl⟩
              rw [← hn]
              have HK1 : Hid (Raw w4 (w.heap.size + 1) w.heap.size ⟨0, 0, false⟩ C (tot (er es')) es') := by
                rw [k2]
                exact k1
              have HK2 := Lib.hid k2
              have HK3 := Lib.hid k3
              have HN := Lib.hid hn
              clear k1 k2 k3 hn HW
              by_cases hn0 : n = 0
              · subst hn0
                have hc0 : w4.cell? ⟨wr.heap.size, 0, none⟩ = some (.string xn) := by
                  have e1 : ((wr.alloc (.cells #[.string xn, .slice xa xl.length xc] 43)).alloc (.cells #[.slice xa xl.length xc] 35)).cell? ⟨wr.heap.size, 0, none⟩ = some (.string xn) := box_old (cell_of_row _ _ 0 _ _ _ (heap_alloc_new wr (.cells #[.string xn, .slice xa xl.length xc] 43))) _
                  exact box_later e1 HK3.out (fun hm => by have := (HFS.out _ hm).2; omega)
                go_wp2_with (fail)
                refine (sync_any (w.heap.size + 1) w.heap.size _ C _ es' xn w4 HK1.out HNK.out).mono ?_
                rintro r w5 ⟨rfl, es'', m1, m2, m3⟩
                have hts : tot (er es'') = tot (er es') := by rw [m2]; exact tot_sync (rises_er.2 HK1.out.rises)
                have HM1 : Hid (Raw w5 (w.heap.size + 1) w.heap.size ⟨0, 0, false⟩ C (tot (er es'')) es'') := by
                  rw [hts]
                  exact m1
                have HM2 := Lib.hid m2
                have HM3 := Lib.hid m3
                have HTT : Hid (tot (er es'') ≤ C) := by
                  show _ ≤ _
                  rw [hts, HK2.out]
                  exact tot_write HRR.out htot.out
                clear m1 m2 m3 hts
                go_wp2_with (fail)
                go_roundw
                case rel =>
                  exact ⟨k + 1, es'', by omega, by go_num, by
                    show _ = _
                    rw [HNEXT.out]
                    show (if (writeS C xn.data.toList xl (er es)).1 = 0 then _ else _) = _
                    rw [if_pos HN.out.symm, HM2.out, HK2.out]
                    rfl, HTT.out, HM1.out, ((ht.out.trans (Turn.below HFB.out)).trans HK3.out).trans HM3.out⟩
                case measure => simp [intOf]; omega
              · have tn : (n == 0) = false := by simpa using hn0
                have HM : Hid (∀ w', Below w.heap.size w w' → Made w (C : Int) fl (.returned (.tuple #[.pointer none, .int .i64 n])) w') := fun w' hb => by
                  have h1 : ofW C (er es1) fl = writeS C xn.data.toList xl (er es) := by
                    rw [HAT.out]
                    show (if (writeS C xn.data.toList xl (er es)).1 = 0 then _ else _) = _
                    rw [if_neg (by rw [← HN.out]; exact hn0)]
                    rfl
                  refine ⟨hb, ?_⟩
                  have h2 : ofS (C : Int) fl = writeS C xn.data.toList xl (er es) := by
                    rw [HS.out, HO1.out, if_pos rfl, h1]
                  rw [h2, ← HN.out, if_neg hn0]
                have HBF : Hid (Below w.heap.size w w4) := HBW.out.trans (((Turn.below HFB.out).trans HK3.out).to_below HBW.out.size (fun g hg => (HFS.out g hg).1))
                clear hn0
                go_wp2_with (fail)
                go_ret2
                exact HM.out _ HBF.out
            · have hk' : k = fl.length := by omega
              subst hk'
              rw [List.take_length] at hofw
              have HF : Hid (Made w (C : Int) fl (.returned (.tuple #[.pointer (some ⟨w.heap.size + 1, 0, none⟩), .int .i64 0])) wr) := by
                have h2 : ofS (C : Int) fl = (0, er es) := by rw [HS.out, HO1.out, if_pos rfl, hofw.out]
                refine ⟨HB1.out.trans (ht.out.to_below HB1.out.size HS1.out), ?_⟩
                rw [h2, if_pos rfl]
                refine ⟨_, foot (w.heap.size + 1) w.heap.size es, rfl, ⟨⟨_, es, rfl, hraw.out, rfl⟩, htot.out, hC2⟩, fun g hg => ?_⟩
                by_cases hge : w.heap.size ≤ g
                · exact hge
                · exfalso
                  have h3 := HB1.out.size
                  exact (ht.out.far g (by omega) (fun hm => hge (HS1.out g hm))).1 hg
              clear hlt hk hofw htot hraw ht
              go_wp2_with (fail)
              go_ret2
              exact HF.out
set_option maxHeartbeats 1000000 in
theorem new_any (cap : Int) (w : World) : Calls Try.prog 10 #[.int .i64 cap] w (Made w cap []) := by
  have H := Lib.hid (of_any cap none [] 0 w (fun h => by simp at h) (fun x hx => by cases hx) (by simp))
  go_enter Try.func10, Try.ntmps10
  go_wp2_with (fail)
  refine H.out.mono ?_
  rintro r w1 hm
  by_cases h0 : (ofS cap []).1 = 0
  · obtain ⟨hb, hm⟩ := hm
    rw [if_pos h0] at hm
    obtain ⟨b, S, rfl, h1, h2⟩ := hm
    have HX : Hid (Made w cap [] (.returned (.tuple #[.pointer (some ⟨b, 0, none⟩), .int .i64 0])) w1) := ⟨hb, by rw [if_pos h0]; exact ⟨b, S, rfl, h1, h2⟩⟩
    clear hb h1 h2 h0 H
    go_wp2_with (fail)
    go_ret2
    exact HX.out
  · obtain ⟨hb, hm⟩ := hm
    rw [if_neg h0] at hm
    subst hm
    obtain ⟨n, hn⟩ : ∃ n, n = (ofS cap []).1 := ⟨_, rfl⟩
    rw [← hn]
    have HX : Hid (Made w cap [] (.returned (.tuple #[.pointer none, .int .i64 n])) w1) := ⟨hb, by rw [if_neg h0, hn]⟩
    clear hb h0 H hn
    go_wp2_with (fail)
    go_ret2
    exact HX.out
end Go.Proofs.Ytpnhgongjfknbaa
