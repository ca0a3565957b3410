/-
  The contract of a disk's write.
-/
import Derived.Test.YtpnhgongjfknbaaDkG
namespace Go.Proofs.Ytpnhgongjfknbaa
open Go.RowKit omap

/-- the bytes of all parts -/
def flat (ps : List Part) : List Nat := ps.flatMap (·.l)
theorem flat_succ {ps : List Part} {k : Nat} (hk : k < ps.length) : flat (ps.take (k + 1)) = flat (ps.take k) ++ ps[k].l := by
  unfold flat
  rw [List.take_succ_eq_append_getElem hk, List.flatMap_append, List.flatMap_cons, List.flatMap_nil, List.append_nil]
theorem flat_le {ps : List Part} (k : Nat) : (flat (ps.take k)).length ≤ (flat ps).length := by
  unfold flat
  conv => rhs; rw [← List.take_append_drop k ps]
  rw [List.flatMap_append, List.length_append]
  omega
def writeS (cap : Nat) (k : Nm) (l : List Nat) (fs : Fs) : Int × Fs :=
  match omap.look fs k with
  | none => (14, fs)
  | some f => if cap < tot fs + l.length then (23, fs) else (0, put lt k ⟨f.l ++ l, f.s⟩ fs)
/-- what is told lies apart from the disk -/
def Apart (S : List Nat) (A : Option Addr) (n : Nat) : Prop := 0 < n → ∀ x, A = some x → x.block ∉ S
theorem Apart.row {α : Type} {enc : α → Value} {w w' : World} {A : Option Addr} {l : List α} {S S' : List Nat} (h : Row enc w A l) (ha : Apart S A l.length) (ht : Turn S S' w w') : Row enc w' A l := fun hn => by
  obtain ⟨b, off, e, hc⟩ := h hn
  have hb := ha hn _ e
  refine ⟨b, off, e, fun j hj => ?_⟩
  have hlt := World.block_lt_of_cell? w _ (hc j hj)
  exact (World.cell?_of_block (a := ⟨b, off + j, none⟩) (ht.far b hlt hb).2).trans (hc j hj)
theorem put_put {α : Type} (k : Nm) (v u : α) (l : List (Nm × α)) : omap.put lt k u (omap.put lt k v l) = omap.put lt k u l := by
  show ins lt k u (omap.del k (omap.put lt k v l)) = _
  rw [del_put]
  rfl
/-- bytes behind a file's -/
theorem Raw.appended {w : World} {b m : Nat} {p : Pw} {cap used : Nat} {es : Es} (h : Raw w b m p cap used es) {k : Nm} {e : Ent} (hk : omap.look es k = some e) (q : Part) (hq : Bs w q.a q.l) (hb : AreBytes q.l) (hsz : e.f.l.length + q.l.length ≤ 1099511627776) :
    ∃ a n c w1, (Builtin.append_ #[35, 35] 35 #[e.v, q.v]).run Try.prog w = .ok (.slice a n c) w1 ∧ w1.cell? ⟨e.g, 0, none⟩ = some e.v ∧ w1.frozen? ⟨e.g, 0, none⟩ = false ∧
      Hid (Raw (w1.setCell ⟨e.g, 0, none⟩ (.slice a n c)) b m p cap used (omap.put lt k ⟨e.g, .slice a n c, ⟨e.f.l ++ q.l, e.f.s⟩⟩ es) ∧ Turn (foot b m es) (foot b m (omap.put lt k ⟨e.g, .slice a n c, ⟨e.f.l ++ q.l, e.f.s⟩⟩ es)) w (w1.setCell ⟨e.g, 0, none⟩ (.slice a n c))) := by
  have hf := h.file hk
  obtain ⟨v', w1, run, own, hg, hn⟩ := app_row w 0 e.v e.f.l hf.own q.a q.l q.c hq hsz (Nat.zero_le _)
  obtain ⟨a, n, c, rfl⟩ := own.val
  have hgl := hf.blk.inside
  have hgv : e.v.ownBlock ≠ some e.g := fun e1 => by
    have := (h.split hk).1
    simp [Ent.own, e1] at this
  have hb1 : w1.heap[e.g]? = w.heap[e.g]? := hg.block e.g hgl (fun e1 => hgv e1.symm)
  have hblk1 := hf.blk.stays hb1
  have hgv' : (Value.slice a n c).ownBlock ≠ some e.g := fun e1 => by
    rcases hn _ e1 with h1 | h1
    · exact hgv h1
    · omega
  refine ⟨a, n, c, w1, run, hblk1.cell 0, hblk1.free 0, ?_⟩
  refine h.upd hk rfl ⟨hblk1.set 0 _, own.stays fun g hgg => heap_setCell_other _ _ _ _ fun e1 => hgv' (by rw [hgg, e1]), hf.bytes.append hb, by simp only [List.length_append]; have := hf.s_le; omega⟩ hn ?_
  refine ⟨hg.os, hg.tape, hg.output, by have := hg.size; simpa [World.setCell] using this, fun g hlt hne => ⟨fun hm => ?_, ?_⟩⟩
  · rcases List.mem_cons.1 hm with e1 | hm
    · exact hne (e1 ▸ List.mem_cons_self)
    · have hm' : (Value.slice a n c).ownBlock = some g := by simpa using hm
      rcases hn g hm' with h1 | h1
      · exact hne (by simp [Ent.own, h1])
      · omega
  · have hgne : g ≠ e.g := fun e1 => hne (e1 ▸ List.mem_cons_self)
    rw [heap_setCell_other _ _ _ _ hgne]
    exact hg.block g hlt fun e1 => hne (by simp [Ent.own, ← e1])
theorem tn_from {S S' S'' : List Nat} {w w' w'' : World} (h : Turn S S' w w') (k : Turn S' S'' w' w'') : Turn S S'' w w'' := h.trans k
set_option maxRecDepth 100000 in
set_option maxHeartbeats 4000000 in
theorem write_any (b m : Nat) (p : Pw) (cap used : Nat) (es : Es) (s : ByteArray) (A : Option Addr) (ps : List Part) (c : Nat) (w : World) (h : Raw w b m p cap used es) (hs : s.size ≤ 1000) (hu : used = tot (er es)) (hb : used ≤ cap) (hc : cap ≤ 67108864)
    (hr : Row Part.v w A ps) (hra : Apart (foot b m es) A ps.length) (hps : ∀ q ∈ ps, q.ok w ∧ Apart (foot b m es) q.a q.l.length) (hn : ps.length ≤ 1000000) :
    Calls Try.prog 38 #[.pointer (some ⟨b, 0, none⟩), .string s, .slice A ps.length c] w (Done w b m p cap es (tot (writeS cap s.data.toList (flat ps) (er es)).2) (writeS cap s.data.toList (flat ps) (er es))) := by
  have hs3 : Hid (s.size ≤ maxLen) := by show _ ≤ _; unfold maxLen; omega
  have HR := Lib.hid h
  have HU := Lib.hid hu
  obtain ⟨_, _, _, c3, c4, c5⟩ := h.cells
  have hlk := h.map.lookup hs3.out
  rw [bl_look] at hlk
  unfold writeS
  rw [er_look]
  cases hk : omap.look es s.data.toList with
  | none =>
    rw [hk] at hlk
    simp only [Option.map_none, ptrTo] at hlk ⊢
    rw [← hu]
    clear hk h hs hu hb hr hra hps hn
    go_enter Try.func38, Try.ntmps38
    go_wp2_with (fail)
    go_ret
    exact ⟨rfl, es, HR.out, rfl, Turn.refl _ _⟩
  | some e =>
    rw [hk] at hlk
    simp only [Option.map_some, ptrTo] at hlk ⊢
    have HK := Lib.hid hk
    have HROW := Lib.hid hr
    have HRA := Lib.hid hra
    have HPS := Lib.hid hps
    have HB := Lib.hid hb
    have hub : (used : Int) ≤ 67108864 := by omega
    have hcb : (cap : Int) ≤ 67108864 := by omega
    have hdiff : (cap : Int) - (used : Int) = ((cap - used : Nat) : Int) := by omega
    have hroom : ((cap - used : Nat) : Int) ≤ 67108864 := by omega
    clear hk h hs hu hb hr hra hps
    go_enter Try.func38, Try.ntmps38
    go_wp2_with (fail)
    go_quiet (fail)
    go_wp2_with (fail)
    have HR2 := Lib.hid (HR.out.stays (w' := w.drewN nq) fun _ _ => rfl)
    have HT2 : Hid (Turn (foot b m es) (foot b m es) w (w.drewN nq)) := ⟨rfl, rfl, rfl, Nat.le_refl _, fun _ _ hn => ⟨hn, rfl⟩⟩
    go_loopw [8, 32] (fun x i wr => ∃ (k R : Nat), k ≤ ps.length ∧ i = .int .i64 k ∧ x = .int .i64 R ∧ Hid (R + used + (flat (ps.take k)).length = cap) ∧ wr = w.drewN nq) (fun _ i _ => ps.length - (intOf i).toNat)
    case atStart => exact ⟨0, cap - used, Nat.zero_le _, rfl, rfl, by have := HB.out; show _ = _; simp [flat]; omega, rfl⟩
    case round =>
      obtain ⟨k, R, hk, rfl, rfl, hR, rfl⟩ := hrel
      by_cases hlt : k < ps.length
      · obtain ⟨rb, off, rfl, hcell⟩ := HROW.out (by omega)
        have ck : w.cell? ⟨rb, off + k, none⟩ = some (ps[k].v) := hcell k hlt
        have HFS := Lib.hid (flat_succ hlt)
        have HFL := Lib.hid (flat_le (ps := ps) (k + 1))
        obtain ⟨q, hq⟩ : ∃ q, q = ps[k] := ⟨_, rfl⟩
        rw [← hq] at ck HFS
        unfold Part.v at ck
        clear hcell hq
        have hRb : (R : Int) ≤ 67108864 := by have := hR.out; omega
        by_cases hfull : R < q.l.length
        · have t1 : decide (R < q.l.length) = true := by simp; omega
          have hover : cap < tot (er es) + (flat ps).length := by
            have h1 := hR.out
            have h2 := HFS.out
            have h3 := HFL.out
            have h4 := congrArg List.length h2
            rw [List.length_append] at h4
            have := HU.out
            omega
          have HOV := Lib.hid hover
          clear hover hfull
          go_wp2_with (fail)
          go_ret
          try rw [if_pos HOV.out]
          exact ⟨rfl, es, by rw [← HU.out]; exact HR2.out, rfl, HT2.out⟩
        · have t1 : decide (R < q.l.length) = false := by simp; omega
          obtain ⟨R', hR'⟩ : ∃ R', R' = R - q.l.length := ⟨_, rfl⟩
          have e1 : (R : Int) - (q.l.length : Int) = (R' : Int) := by omega
          have HD : Hid (R' + used + (flat (ps.take (k + 1))).length = cap) := by
            have h1 := hR.out
            have h2 := congrArg List.length HFS.out
            rw [List.length_append] at h2
            show _ = _
            omega
          have hq1 : (q.l.length : Int) ≤ 67108864 := by omega
          clear hfull hR'
          go_wp2_with (fail)
          go_roundw
          case rel => exact ⟨k + 1, R', by omega, by go_num, by first | rfl | trivial, HD, by first | rfl | trivial⟩
          case measure => simp [intOf]; omega
      · have hk' : k = ps.length := by omega
        subst hk'
        have hR' : Hid (R + used + (flat ps).length = cap) := by
          have := hR.out
          rw [List.take_length] at this
          exact this
        have hnot : ¬ cap < tot (er es) + (flat ps).length := by
          have := hR'.out
          have := HU.out
          omega
        have HNOT := Lib.hid hnot
        clear hR hnot hlt hk
        go_wp2_with (fail)
        go_loopw [47] (fun i wr => ∃ (k : Nat) (e' : Ent), k ≤ ps.length ∧ i = .int .i64 k ∧ Hid (e'.g = e.g ∧ e'.f = ⟨e.f.l ++ flat (ps.take k), e.f.s⟩) ∧ Hid (Raw wr b m p cap used (omap.put lt s.data.toList e' es)) ∧ Hid (Turn (foot b m es) (foot b m (omap.put lt s.data.toList e' es)) w wr)) (fun i _ => ps.length - (intOf i).toNat)
        case atStart =>
          have hsame : omap.put lt s.data.toList e es = es := put_same HR.out.rises HK.out
          exact ⟨0, e, Nat.zero_le _, rfl, ⟨rfl, by simp [flat]⟩, by rw [hsame]; exact HR2.out, by rw [hsame]; exact HT2.out⟩
        case round =>
          obtain ⟨k, e', hk, rfl, hE, hRw, hTw⟩ := hrel
          by_cases hlt : k < ps.length
          · obtain ⟨rb, off, rfl, hcell⟩ := (Apart.row HROW.out HRA.out hTw.out) (by omega)
            have ck : wr.cell? ⟨rb, off + k, none⟩ = some (ps[k].v) := hcell k hlt
            obtain ⟨hq1, hq2⟩ := HPS.out ps[k] (List.getElem_mem hlt)
            have HFS := Lib.hid (flat_succ hlt)
            have HFL := Lib.hid (flat_le (ps := ps) (k + 1))
            have hqb : Bs wr ps[k].a ps[k].l := Apart.row hq1.at_ hq2 hTw.out
            have hqe := hq1.bytes
            obtain ⟨q, hq⟩ : ∃ q, q = ps[k] := ⟨_, rfl⟩
            rw [← hq] at ck hqb hqe HFS
            clear hcell hq hq1 hq2
            have hke : omap.look (omap.put lt s.data.toList e' es) s.data.toList = some e' := by rw [look_put, if_pos rfl]
            have hsz : e'.f.l.length + q.l.length ≤ 1099511627776 := by
              have h1 := hR'.out
              have h2 := HFL.out
              have h3 := congrArg List.length HFS.out
              have h4 := tot_del (rises_er.2 HR.out.rises) (k := s.data.toList) (f := e.f) (by rw [er_look, HK.out]; rfl)
              have h5 := HU.out
              rw [hE.out.2]
              simp only [List.length_append] at h3 ⊢
              omega
            obtain ⟨a1, n1, c1, w1, run, cc, cf, hst⟩ := hRw.out.appended hke q hqb hqe hsz
            have hf := hRw.out.file hke
            have cg := hf.blk.cell 0
            obtain ⟨g', v', f'⟩ := e'
            obtain ⟨a0, n0, c0, rfl⟩ := hf.own.val
            have hg := hE.out.1
            simp only at hg cg run cc cf hst
            subst hg
            simp only [List.getElem?_cons_zero] at cg
            have HE2 := Lib.hid hE.out.2
            simp only at HE2
            rw [put_put] at hst
            unfold Part.v at ck run
            clear hf hke hsz hqb hqe hE
            go_wp2_with (at_builtin; refine wpList_append_run rfl _ _ 35 35 35 rfl rfl _ _ _ _ rfl rfl run ?_)
            go_roundw
            case rel =>
              have ht2 := (tn_from hTw.out hst.out.2)
              exact ⟨k + 1, ⟨e.g, .slice a1 n1 c1, ⟨f'.l ++ q.l, f'.s⟩⟩, by omega, by go_num, ⟨rfl, by rw [HE2.out, HFS.out, List.append_assoc]⟩, hst.out.1, ht2⟩
            case measure => simp [intOf]; omega
          · have hk' : k = ps.length := by omega
            subst hk'
            obtain ⟨_, _, _, c3w, _, _⟩ := hRw.out.cells
            have f4 := hRw.out.blk.free 4
            obtain ⟨u', hu'⟩ : ∃ u', u' = used + (flat ps).length := ⟨_, rfl⟩
            have e1 : (cap : Int) - (R : Int) = (u' : Int) := by have := hR'.out; omega
            have hs4 := hRw.out.set (p' := p) (cap' := cap) (used' := u') 4 (.int .i64 (u' : Nat)) rfl
            have HX : Hid (Done w b m p cap es (tot (put lt s.data.toList ⟨e.f.l ++ flat ps, e.f.s⟩ (er es))) (0, put lt s.data.toList ⟨e.f.l ++ flat ps, e.f.s⟩ (er es)) (.returned (.int .i64 0)) (wr.setCell ⟨b, 4, none⟩ (.int .i64 (u' : Nat)))) := by
              refine ⟨rfl, _, ?_, ?_, hTw.out.trans (Turn.set (foot_mem_b b m _) _)⟩
              · have ht : tot (put lt s.data.toList ⟨e.f.l ++ flat ps, e.f.s⟩ (er es)) = u' := by
                  have h4 := tot_del (rises_er.2 HR.out.rises) (k := s.data.toList) (f := e.f) (by rw [er_look, HK.out]; rfl)
                  unfold tot at h4 ⊢
                  unfold omap.put
                  rw [total_ins]
                  simp only [List.length_append]
                  have := HU.out
                  unfold tot at this
                  omega
                rw [ht]
                exact hs4
              · rw [er_put, hE.out.2, List.take_length]
            have hRb : (R : Int) ≤ 67108864 := by have := hR'.out; omega
            clear hs4 hu'
            go_wp2_with (fail)
            go_ret
            try rw [if_neg HNOT.out]
            exact HX.out
end Go.Proofs.Ytpnhgongjfknbaa
