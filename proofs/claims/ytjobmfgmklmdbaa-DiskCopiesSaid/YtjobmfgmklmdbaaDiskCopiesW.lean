/-
  The walk of the law DiskCopies.
-/
import Derived.Test.YtjobmfgmklmdbaaDiskPlaysW
namespace Go.Proofs.Ytjobmfgmklmdbaa
open Go.RowKit omap

/-- what another disk does turns nothing of this one -/
theorem PlayAt.other {w w' : World} {pb b : Nat} {S T T' : List Nat} {x : Rf} (h : PlayAt w pb b S x) (ht : Turn T T' w w') (hn : ∀ g ∈ pb :: S, g ∉ T) (hr : 0 < x.d.fs.length → ∀ a, x.A = some a → a.block ∉ T) :
    PlayAt w' pb b S x ∧ (∀ g ∈ pb :: S, g ∉ T') ∧ (0 < x.d.fs.length → ∀ a, x.A = some a → a.block ∉ T') := by
  have hp := ht.far pb h.blk.inside (hn pb List.mem_cons_self)
  have hd := h.disk.other ht (fun g hg => hn g (List.mem_cons_of_mem _ hg))
  refine ⟨⟨h.blk.stays hp.2, hd.1, ⟨h.ok.row.stays fun h0 a ha => (ht.far _ (h.ok.row.inside h0 ha) (hr h0 a ha)).2, h.ok.room, h.ok.few⟩, h.apart, h.row⟩, fun g hg => ?_, fun h0 a ha => (ht.far _ (h.ok.row.inside h0 ha) (hr h0 a ha)).1⟩
  rcases List.mem_cons.1 hg with rfl | hg
  · exact hp.1
  · exact hd.2 g hg
/-- two disks with the document's, apart -/
structure Two (w0 w : World) (pb b : Nat) (S : List Nat) (x : Rf) (qb c : Nat) (T : List Nat) (y : Rf) : Prop where
  p : PlayAt w pb b S x
  q : Run w0 w qb c T y
  apart : ∀ g ∈ pb :: S, g ∉ qb :: T
  row : 0 < x.d.fs.length → ∀ a, x.A = some a → a.block ∉ qb :: T
theorem Two.next {w0 w w' : World} {pb b : Nat} {S : List Nat} {x : Rf} {qb c : Nat} {T T' : List Nat} {y y' : Rf} (h : Two w0 w pb b S x qb c T y) (hp : PlayAt w' qb c T' y') (ht : Turn (qb :: T) (qb :: T') w w') : Two w0 w' pb b S x qb c T' y' := by
  obtain ⟨h1, h2, h3⟩ := h.p.other ht h.apart h.row
  exact ⟨h1, h.q.next hp ht, h2, h3⟩
theorem Two.later {w0 w w' : World} {pb b : Nat} {S : List Nat} {x : Rf} {qb c : Nat} {T : List Nat} {y : Rf} (h : Two w0 w pb b S x qb c T y) (hb : Below w.heap.size w w') : Two w0 w' pb b S x qb c T y := ⟨h.p.below hb, h.q.later hb, h.apart, h.row⟩
/-- a copy, and the document's beside it -/
theorem two_new {w0 w w2 : World} {pb b c : Nat} {S T : List Nat} {x : Rf} (h : Run w0 w pb b S x) (hb : Below w.heap.size w w2) (hd : DiskAt w2 c T x.d) (hT : ∀ g ∈ T, w.heap.size ≤ g) (ty : TypeId) :
    Two w0 (w2.alloc (.cells #[.pointer (some ⟨c, 0, none⟩), .slice x.A x.d.fs.length x.c, .int .i64 (x.d.cap : Nat), .int .i64 (x.d.p.left : Nat), .int .i64 (x.d.p.steps : Nat), .bool x.d.p.down] ty)) pb b S x w2.heap.size c T x := by
  have hp := h.play.below hb
  have hz := hb.size
  have hrow : 0 < x.d.fs.length → ∀ a, x.A = some a → a.block < w.heap.size := fun h0 a ha => h.play.ok.row.inside h0 ha
  have hin : ∀ g ∈ pb :: S, g < w.heap.size := fun g hg => by
    rcases List.mem_cons.1 hg with rfl | hg
    · exact h.play.blk.inside
    · exact h.play.disk.inside g hg
  have hBa := (Below.refl w2.heap.size w2).alloc (Nat.le_refl _) (.cells #[.pointer (some ⟨c, 0, none⟩), .slice x.A x.d.fs.length x.c, .int .i64 (x.d.cap : Nat), .int .i64 (x.d.p.left : Nat), .int .i64 (x.d.p.steps : Nat), .bool x.d.p.down] ty)
  have hcT : w2.heap.size ∉ T := fun hm => by have := hd.inside _ hm; omega
  refine ⟨hp.below hBa, ⟨⟨blk_new w2 _ ty, hd.below hBa, hp.ok.below hBa, hcT, fun h0 a ha => ?_⟩, (h.below.trans (hb.mono h.below.size)).alloc (Nat.le_trans h.below.size hz) _, fun g hg => ?_⟩, fun g hg hm => ?_, fun h0 a ha hm => ?_⟩
  · have := hrow h0 a ha
    exact ⟨fun hm => by have := hT _ hm; omega, by omega⟩
  · rcases List.mem_cons.1 hg with rfl | hg
    · exact Nat.le_trans h.below.size hz
    · exact Nat.le_trans h.below.size (hT g hg)
  · have h1 := hin g hg
    rcases List.mem_cons.1 hm with rfl | hm
    · omega
    · have := hT g hm; omega
  · have h1 := hrow h0 a ha
    rcases List.mem_cons.1 hm with e | hm
    · omega
    · have := hT _ hm; omega
set_option maxRecDepth 100000 in
set_option maxHeartbeats 1000000 in
theorem copies_off (A : Option Addr) (l : List Cm) (c : Nat) (A2 : Option Addr) (l2 : List Cm) (c2 : Nat) (w : World) (hr : CmRow w A l) (hlen : l.length ≤ 9223372036854775807) (hr2 : CmRow w A2 l2) (hlen2 : l2.length ≤ 9223372036854775807) (hs : smallB l = false ∨ smallB l2 = false) :
    Calls Try.prog 5 #[.slice A l.length c, .slice A2 l2.length c2] w fun e w' => e = .returned (.bool true) ∧ Below w.heap.size w w' := by
  have HS := Lib.hid (small_any A l c w hr hlen)
  have HS2 := Lib.hid (fun w1 (hb : Below w.heap.size w w1) => small_any A2 l2 c2 w1 (hr2.below hb) hlen2)
  clear hr hlen hr2 hlen2
  cases hb : smallB l with
  | false =>
    rw [hb] at HS
    clear hs hb
    go_enter Try.func5, Try.ntmps5
    go_wp2_with (fail)
    refine HS.out.mono ?_
    rintro r w1 ⟨rfl, hb1⟩
    have HB1 := Lib.hid hb1
    clear hb1 HS
    go_wp2_with (fail)
    refine (awake_any w1).mono ?_
    rintro r w2 ⟨rfl, hb2⟩
    have HB2 := Lib.hid (HB1.out.trans (hb2.mono HB1.out.size))
    clear hb2 HB1
    go_wp2_with (fail)
    go_ret
    exact ⟨rfl, HB2.out⟩
  | true =>
    have hf : smallB l2 = false := hs.resolve_left (by rw [hb]; simp)
    rw [hb] at HS
    rw [hf] at HS2
    clear hs hb hf
    go_enter Try.func5, Try.ntmps5
    go_wp2_with (fail)
    refine HS.out.mono ?_
    rintro r w1 ⟨rfl, hb1⟩
    have HB1 := Lib.hid hb1
    clear hb1 HS
    go_wp2_with (fail)
    refine (HS2.out w1 HB1.out).mono ?_
    rintro r w3 ⟨rfl, hb3⟩
    have HB3 := Lib.hid (HB1.out.trans (hb3.mono HB1.out.size))
    clear hb3 HB1
    go_wp2_with (fail)
    refine (awake_any w3).mono ?_
    rintro r w2 ⟨rfl, hb2⟩
    have HB2 := Lib.hid (HB3.out.trans (hb2.mono HB3.out.size))
    clear hb2 HB3
    go_wp2_with (fail)
    go_ret
    exact ⟨rfl, HB2.out⟩
set_option maxRecDepth 100000 in
set_option maxHeartbeats 16000000 in
theorem copies_on (A : Option Addr) (l : List Cm) (c : Nat) (A2 : Option Addr) (l2 : List Cm) (c2 : Nat) (w : World) (hr : CmRow w A l) (hx : ∀ x ∈ l, x.ok w) (hr2 : CmRow w A2 l2) (hx2 : ∀ x ∈ l2, x.ok w) (hs : smallB l = true) (hs2 : smallB l2 = true) :
    Calls Try.prog 5 #[.slice A l.length c, .slice A2 l2.length c2] w fun e w' => e = .returned (.bool true) ∧ Below w.heap.size w w' := by
  obtain ⟨hll, hall⟩ := small_of hs
  obtain ⟨hll2, hall2⟩ := small_of hs2
  have HS := Lib.hid (small_any A l c w hr (by omega))
  have HS2 := Lib.hid (fun w1 (hb : Below w.heap.size w w1) => small_any A2 l2 c2 w1 (hr2.below hb) (by omega))
  rw [hs] at HS
  rw [hs2] at HS2
  have HN := Lib.hid (fun w1 => new_any (500 : Int) w1)
  have HOS := Lib.hid (ofS_new (cap := (500 : Int)) (by omega))
  have HROW := Lib.hid hr
  have HX := Lib.hid hx
  have HALL := Lib.hid hall
  have HROW2 := Lib.hid hr2
  have HX2 := Lib.hid hx2
  have HALL2 := Lib.hid hall2
  clear hr hx hs hall hr2 hx2 hs2 hall2
  go_enter Try.func5, Try.ntmps5
  go_wp2_with (fail)
  refine HS.out.mono ?_
  rintro r w1 ⟨rfl, hb1⟩
  have HB1 := Lib.hid hb1
  clear hb1 HS
  go_wp2_with (fail)
  refine (HS2.out w1 HB1.out).mono ?_
  rintro r w1' ⟨rfl, hb1'⟩
  have HB1' := Lib.hid (HB1.out.trans (hb1'.mono HB1.out.size))
  clear hb1' HB1 HS2
  go_wp2_with (fail)
  refine (HN.out w1').mono ?_
  rintro r w2 ⟨hb2, hm⟩
  rw [HOS.out, if_pos rfl] at hm
  obtain ⟨b, S, rfl, h1, h2⟩ := hm
  have h1' : DiskAt w2 b S ⟨⟨0, 0, false⟩, 500, []⟩ := h1
  have HR0 := Lib.hid (run_new h1' (HB1'.out.trans (hb2.mono HB1'.out.size)) (fun g hg => Nat.le_trans HB1'.out.size (h2 g hg)) 34)
  clear hb2 h1 h1' h2 HB1' HN
  go_wp2_with (fail)
  go_loopw [38] (fun i wr => ∃ (k : Nat) (S : List Nat) (x : Rf), k ≤ l.length ∧ i = .int .i64 k ∧ Hid (Run w wr w2.heap.size b S x) ∧ Hid (FineK k x.d)) (fun i _ => l.length - (intOf i).toNat)
  case atStart => exact ⟨0, S, _, Nat.zero_le _, rfl, HR0.out, ⟨Nat.le_refl _, by simp, Nat.le_refl _, by simp, fun y hy => by cases hy⟩⟩
  case round =>
    obtain ⟨k, S, x, hk, rfl, HH, HF⟩ := hrel
    have hkb : (k : Int) ≤ 60 := by omega
    by_cases hlt : k < l.length
    · obtain ⟨rb, off, ra, hcell⟩ := (HROW.out.below HH.out.below) (by omega)
      subst ra
      obtain ⟨q0, q1, q2, q3, q4, q5, q6⟩ := hcell k hlt
      have hok := HX.out l[k] (List.getElem_mem hlt)
      have hsm := HALL.out l[k] (List.getElem_mem hlt)
      obtain ⟨o, ho⟩ : ∃ o, o = l[k] := ⟨_, rfl⟩
      rw [← ho] at q0 q1 q2 q3 q4 q5 q6 hok hsm
      have hbl : rb < wr.heap.size := World.block_lt_of_cell? wr _ q0
      have HRA := Lib.hid (HH.out.later ((Below.refl wr.heap.size wr).alloc (Nat.le_refl _) (.cells o.cells.toArray 38)))
      have HD := Lib.hid (do_any _ _ b S x o HRA.out.play (HF.out.fine (by omega)) (HRA.out.told hok hsm))
      have HNF := Lib.hid (next_fine (o := o) HF.out hsm hok.n.2)
      unfold Cm.cells at HD HRA
      obtain ⟨kind, name, nto, data, more, no, cA, cs, cc⟩ := o
      unfold Part.v at q3 q4 HD HRA
      simp only at q0 q1 q2 q3 q4 q5 q6 HD HRA
      have hki : (k : Int) < (l.length : Int) := by omega
      clear hcell ho hok hsm HH HF
      go_wp2_with (fail)
      refine HD.out.mono ?_
      rintro r w3 ⟨rfl, S', x', hp, ht, hxd⟩
      have HR3 := Lib.hid (HRA.out.next hp ht)
      rw [← hxd] at HNF
      clear hp ht hxd HD HRA
      go_wp2_with (fail)
      go_roundw
      case rel => exact ⟨k + 1, S', x', by omega, by go_num, HR3.out, HNF.out⟩
      case measure => simp [intOf]; omega
    · have hk' : k = l.length := by omega
      subst hk'
      have HF60 : Hid (FineK 60 x.d) := ⟨Nat.le_trans HF.out.few hll, HF.out.cap, Nat.le_trans HF.out.steps hll, HF.out.left, HF.out.names⟩
      clear hlt hk HF
      have bP := HH.out.play.blk
      have p1 : wr.cell? ⟨w2.heap.size, 1, none⟩ = some (.slice x.A x.d.fs.length x.c) := bP.cell 1
      have p2 : wr.cell? ⟨w2.heap.size, 2, none⟩ = some (.int .i64 (x.d.cap : Nat)) := bP.cell 2
      have p3 : wr.cell? ⟨w2.heap.size, 3, none⟩ = some (.int .i64 (x.d.p.left : Nat)) := bP.cell 3
      have p4 : wr.cell? ⟨w2.heap.size, 4, none⟩ = some (.int .i64 (x.d.p.steps : Nat)) := bP.cell 4
      have p5 : wr.cell? ⟨w2.heap.size, 5, none⟩ = some (.bool x.d.p.down) := bP.cell 5
      have HSK : Hid (∀ w', Below wr.heap.size wr w' → w'.cell? ⟨w2.heap.size, 1, none⟩ = some (.slice x.A x.d.fs.length x.c) ∧ w'.cell? ⟨w2.heap.size, 2, none⟩ = some (.int .i64 (x.d.cap : Nat)) ∧ w'.cell? ⟨w2.heap.size, 3, none⟩ = some (.int .i64 (x.d.p.left : Nat)) ∧ w'.cell? ⟨w2.heap.size, 4, none⟩ = some (.int .i64 (x.d.p.steps : Nat)) ∧ w'.cell? ⟨w2.heap.size, 5, none⟩ = some (.bool x.d.p.down)) := fun w' hb => ⟨(hb.cell (p := ⟨w2.heap.size, 1, none⟩) bP.inside).trans p1, (hb.cell (p := ⟨w2.heap.size, 2, none⟩) bP.inside).trans p2, (hb.cell (p := ⟨w2.heap.size, 3, none⟩) bP.inside).trans p3, (hb.cell (p := ⟨w2.heap.size, 4, none⟩) bP.inside).trans p4, (hb.cell (p := ⟨w2.heap.size, 5, none⟩) bP.inside).trans p5⟩
      have hpin := bP.inside
      clear bP
      go_upto_region 13 with (fail)
      have hbW : Below wr.heap.size wr wr.drew := (Below.refl _ _).drew
      go_region_held3 (fun w' => w'.cell? ⟨w2.heap.size, 1, none⟩ = some (.slice x.A x.d.fs.length x.c) ∧ w'.cell? ⟨w2.heap.size, 2, none⟩ = some (.int .i64 (x.d.cap : Nat)) ∧ w'.cell? ⟨w2.heap.size, 3, none⟩ = some (.int .i64 (x.d.p.left : Nat)) ∧ w'.cell? ⟨w2.heap.size, 4, none⟩ = some (.int .i64 (x.d.p.steps : Nat)) ∧ w'.cell? ⟨w2.heap.size, 5, none⟩ = some (.bool x.d.p.down))
        (first | with_reducible exact HSK.out _ hbW | with_reducible exact HSK.out _ hb3x | with_reducible exact HSK.out _ (hb3x.alloc hb3x.size _) | go_keep)
        ((first | (go_at_call 17; refine (copy_cmd b S x.d _ (HH.out.play.disk.below hbW)).mono ?_; rintro r w3 ⟨c3, T, rfl, hd3, hT, hb3⟩; have hb3x : Below wr.heap.size wr w3 := hbW.trans hb3)))
      have HTW := Lib.hid (two_new HH.out hb3x hd3 hT 34)
      clear hd3 hT hb3 p1 p2 p3 p4 p5 hb3x hbW hpin HSK
      go_wp2_with (fail)
      go_loopw [62] (fun i wz => ∃ (k : Nat) (T : List Nat) (y : Rf), k ≤ l2.length ∧ i = .int .i64 k ∧ Hid (Two w wz w2.heap.size b S x w3.heap.size c3 T y) ∧ Hid (FineK (60 + k) y.d)) (fun i _ => l2.length - (intOf i).toNat)
      case atStart => exact ⟨0, T, x, Nat.zero_le _, rfl, HTW.out, HF60.out⟩
      case round =>
        obtain ⟨k, T, y, hk, rfl, HH2, HF⟩ := hrel
        have hkb : (k : Int) ≤ 60 := by omega
        by_cases hlt : k < l2.length
        · obtain ⟨rb, off, ra, hcell⟩ := (HROW2.out.below HH2.out.q.below) (by omega)
          subst ra
          obtain ⟨q0, q1, q2, q3, q4, q5, q6⟩ := hcell k hlt
          have hok := HX2.out l2[k] (List.getElem_mem hlt)
          have hsm := HALL2.out l2[k] (List.getElem_mem hlt)
          obtain ⟨o, ho⟩ : ∃ o, o = l2[k] := ⟨_, rfl⟩
          rw [← ho] at q0 q1 q2 q3 q4 q5 q6 hok hsm
          have hbl := World.block_lt_of_cell? _ _ q0
          have HRA := Lib.hid (HH2.out.later ((Below.refl _ _).alloc (Nat.le_refl _) (.cells o.cells.toArray 38)))
          have HD := Lib.hid (do_any _ _ c3 T y o HRA.out.q.play (HF.out.fine (by omega)) (HRA.out.q.told hok hsm))
          have HNF := Lib.hid (next_fine (o := o) HF.out hsm hok.n.2)
          unfold Cm.cells at HD HRA
          obtain ⟨kind, name, nto, data, more, no, cA, cs, cc⟩ := o
          unfold Part.v at q3 q4 HD HRA
          simp only at q0 q1 q2 q3 q4 q5 q6 HD HRA
          have hki : (k : Int) < (l2.length : Int) := by omega
          clear hcell ho hok hsm HH2 HF
          go_wp2_with (fail)
          refine HD.out.mono ?_
          rintro r w5 ⟨rfl, T', y', hp, ht, hxd⟩
          have HR3 := Lib.hid (HRA.out.next hp ht)
          rw [← hxd] at HNF
          have HI := Lib.hid (is_any w5 w3.heap.size c3 T' y' hp HNF.out.names)
          clear hp ht hxd HD HRA
          go_wp2_with (fail)
          refine HI.out.mono ?_
          rintro r w6 ⟨rfl, hb6⟩
          have HR4 := Lib.hid (HR3.out.later hb6)
          clear hb6 HI HR3
          go_wp2_with (fail)
          go_roundw
          case rel => exact ⟨k + 1, T', y', by omega, by go_num, HR4.out, HNF.out⟩
          case measure => simp [intOf]; omega
        · have hk' : k = l2.length := by omega
          subst hk'
          clear hlt hk HF
          have HI := Lib.hid (is_any _ w2.heap.size b S x HH2.out.p HF60.out.names)
          go_wp2_with (fail)
          refine HI.out.mono ?_
          rintro r w6 ⟨rfl, hb6⟩
          have HB6 := Lib.hid (HH2.out.q.below.trans (hb6.mono HH2.out.q.below.size))
          clear hb6 HI
          go_wp2_with (fail)
          refine (awake_any w6).mono ?_
          rintro r w7 ⟨rfl, hb7⟩
          have HB7 := Lib.hid (HB6.out.trans (hb7.mono HB6.out.size))
          clear hb7 HB6
          go_wp2_with (fail)
          go_ret
          exact ⟨rfl, HB7.out⟩
theorem copies_walk (A : Option Addr) (l : List Cm) (c : Nat) (A2 : Option Addr) (l2 : List Cm) (c2 : Nat) (w : World) (hr : CmRow w A l) (hx : ∀ x ∈ l, x.ok w) (hlen : l.length ≤ 9223372036854775807) (hr2 : CmRow w A2 l2) (hx2 : ∀ x ∈ l2, x.ok w) (hlen2 : l2.length ≤ 9223372036854775807) :
    Calls Try.prog 5 #[.slice A l.length c, .slice A2 l2.length c2] w fun e w' => e = .returned (.bool true) ∧ Below w.heap.size w w' := by
  cases hs : smallB l with
  | false => exact copies_off A l c A2 l2 c2 w hr hlen hr2 hlen2 (.inl hs)
  | true =>
    cases hs2 : smallB l2 with
    | false => exact copies_off A l c A2 l2 c2 w hr hlen hr2 hlen2 (.inr hs2)
    | true => exact copies_on A l c A2 l2 c2 w hr hx hr2 hx2 hs hs2
end Go.Proofs.Ytjobmfgmklmdbaa
