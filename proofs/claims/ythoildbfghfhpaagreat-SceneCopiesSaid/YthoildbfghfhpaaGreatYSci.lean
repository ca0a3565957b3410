import Derived.Test.YthoildbfghfhpaaGreatYSce
import Derived.Shelf.SlMaps.Clone
set_option maxHeartbeats 16000000
set_option maxRecDepth 100000
namespace Go.Proofs.YthoildbfghfhpaaGreat
section
open Go.RowKit pxm imm trm Go.Maps
abbrev tSeen:TypeId:=252
theorem und_seen:Tryz.prog.underlying tSeen=some (.map 3 270):=Tryz.underlying252
theorem zero_unit (w:World):(zeroValue 270).run Tryz.prog w=.ok (.agg #[]) w:=by kernel_rfl
def SeenM (w:World) (ms:Nat) (Sn:Int->Prop):Prop:=∃ es,VM w ms es∧(∀ j,omap.look es j≠none↔Sn j)∧∀ j v,omap.look es j=some v->v=.agg #[]
section
variable {w w':World} {ms:Nat} {Sn Sn':Int->Prop}
theorem SeenM.inside (h:SeenM w ms Sn):ms<w.heap.size:=h.elim fun _ h=>h.1.inside
theorem SeenM.stays (h:SeenM w ms Sn) (hb:w'.heap[ms]?=w.heap[ms]?):SeenM w' ms Sn:=by
 obtain ⟨es,h1,h2⟩:=h;exact ⟨es,h1.stays hb,h2⟩
theorem SeenM.below (h:SeenM w ms Sn) (hb:Below w.heap.size w w'):SeenM w' ms Sn:=h.stays (hb.block _ h.inside)
theorem SeenM.as (h:SeenM w ms Sn) (e:∀ j,Sn j↔Sn' j):SeenM w ms Sn':=by
 obtain ⟨es,h1,h2⟩:=h;exact ⟨es,h1,fun j=>(h2.1 j).trans (e j),h2.2⟩
theorem SeenM.look (h:SeenM w ms Sn) {i:Int} (hi:I64 i):∃ q,(Instr.lookup tSeen (.map (some ms)) (.int .i64 i) true).run Tryz.prog w=.ok (.tuple #[.agg #[],.bool q]) w∧(q=true↔Sn i):=by
 obtain ⟨es,h1,h2,h3⟩:=h;have hl:=h1.look_ok und_seen (zero_unit w) hi;have h4:=h2 i;have h5:=h3 i;cases hq:omap.look es i with
 | none=>rw [hq] at hl h4;exact ⟨false,hl,by simpa using h4⟩
 | some v=>
  rw [hq] at hl h4;rw [h5 v hq] at hl;exact ⟨true,hl,by simpa using h4⟩
theorem SeenM.put (h:SeenM w ms Sn) {t:T} (hs:∀ j,Sn j->has t j=true) (hn:t.length<=100000) {i:Int} (hi:I64 i) :
  ∃ w',(Instr.mapUpdate tSeen (.map (some ms)) (.int .i64 i) (.agg #[])).run Tryz.prog w=.ok () w'∧SeenM w' ms (fun j=>Sn j∨j=i)∧w.grownBy w' (some ms):=by
 obtain ⟨es,h1,h2,h3⟩:=h;have hle:=es_le (t:=t) h1.rises fun j hj=>hs j ((h2 j).1 hj);obtain ⟨w',hrun,hm,hg⟩:=h1.store und_seen hi (.agg #[]) (by have:=vput_len i (.agg #[]) es;omega);refine ⟨w',hrun,⟨_,hm,fun j=>?_,fun j v hv=>?_⟩,hg⟩
 ·rw [omap.look_put];by_cases e:j=i
  ·rw [if_pos e];simp [e]
  ·rw [if_neg e,h2];simp [e]
 ·rw [omap.look_put] at hv;by_cases e:j=i
  ·rw [if_pos e] at hv;exact (Option.some.inj hv).symm
  ·rw [if_neg e] at hv;exact h3 j v hv
end
def ApV (v u:Value):Prop:=∀ k,v.ownBlock=some k->u.ownBlock≠some k
theorem SOwn.apart {α:Type} {T:TypeId} {k:Nat} {enc:α->List Value} {w w':World} {base:Nat} {v u:Value} {l:List α} (h:SOwn T k enc w base v l) (ha:ApV v u) (ht:TurnP (Ow u) (Ow u) w w'):SOwn T k enc w' base v l:=h.stays fun g hg=>(ht.far g (h.block hg).2 fun e=>ha g hg e).2
def UnQ (t:T) (ms:Nat) (Sn:Int->Prop) (i:Int) (w:World) (e:Ending) (w':World):Prop:=
 ∃ (A:Option Addr) (c:Nat) (row next:List Int) (k:Nat),e=.returned (.slice A row.length c)∧IOwn w' w.heap.size (.slice A row.length c) row∧UnI t Sn i k next row∧next.length<=k∧SeenM w' ms (fun j=>Sn j∨j∈row)∧TurnP (fun q=>q=ms) (fun q=>q=ms) w w'
theorem SRow.nil_of_none {α:Type} {k:Nat} {enc:α->List Value} {w:World} {l:List α} (h:SRow k enc w none l):l=[]:=by
 cases l with
 | nil=>rfl
 | cons x l=>
  obtain ⟨b,off,e,_⟩:=h (by simp);cases e
theorem app_ints {w:World} {base b2:Nat} {v u:Value} {l xs:List Int} (h:IOwn w base v l) (k:IOwn w b2 u xs) (hn:l.length+xs.length<=1000000) (hb:base<=w.heap.size) :
  ∃ v' w',(Builtin.append_ #[42,42] 42 #[v,u]).run Tryz.prog w=.ok v' w'∧IOwn w' base v' (l++xs)∧w.grownBy w' v.ownBlock∧(v'.ownBlock=v.ownBlock∨v'.ownBlock=some w.heap.size):=by
 obtain ⟨A,c,rfl,-,-,hr⟩:=SOwn.row k ic_len;cases A with
 | none=>
  obtain rfl:=SRow.nil_of_none hr;obtain ⟨A2,c2,rfl,hle,-,-⟩:=SOwn.row h ic_len;obtain ⟨i,hi,hz,hsize,hby⟩:=info_parts info_int;refine ⟨.slice A2 l.length c2,w,?_,by simpa using h,World.grownBy.refl _ _,.inl rfl⟩;rw [show (([]:List Int).length)=0 from rfl];cases A2<;>simp [Builtin.append_,run_underlying Tryz.underlying42,sizeOf,typeInfo,hi,Builtin.lenOf,hle,run_firstCells_none,storeCells]
 | some a=>
  by_cases hx:xs=[]
  ·subst hx;obtain ⟨A2,c2,rfl,hle,-,-⟩:=SOwn.row h ic_len;obtain ⟨i,hi,hz,hsize,hby⟩:=info_parts info_int;refine ⟨.slice A2 l.length c2,w,?_,by simpa using h,World.grownBy.refl _ _,.inl rfl⟩;rw [show (([]:List Int).length)=0 from rfl];have hf:=run_firstCells_some (P:=Tryz.prog) w i.size 0 a 0 c [] (by simp) (by simp);cases A2<;>simp [Builtin.append_,run_underlying Tryz.underlying42,sizeOf,typeInfo,hi,Builtin.lenOf,hle,hf,storeCells,Result.andThen]
  ·obtain ⟨b,off,e,-⟩:=hr (List.length_pos_iff.2 hx);obtain rfl:=Option.some.inj e;exact SOwn.app (P:=Tryz.prog) Tryz.underlying42 info_int rfl (by decide) (by decide) ic_len ic_plain h (fun _=>hr) (by omega) hb
theorem bs_int1 (z:Int) (w:World):(Instr.buildSlice 42 1 #[(0,.int .i64 z)]).run Tryz.prog w=.ok (.slice (some ⟨w.heap.size,0,none⟩) 1 1) (w.alloc (.cells #[.int .i64 z] 3)):=by kernel_rfl
section
variable {w:World} {g b m:Nat} {s:Sh} {Z:ZZ} {x:PSc}
theorem unseen_any (ms:Nat) (FS:∀ W,TurnP (fun q=>q=ms) (fun q=>q=ms) w W->SceneAt W g b m s Z x) (hn:x.t.length<=900) (Sn:Int->Prop) (hm:SeenM w ms Sn) (hs:∀ j,Sn j->has x.t j=true) (i:Int) (hi:has x.t i=true) :
  Calls Tryz.prog 137 #[.pointer (some ⟨g,0,none⟩),.int .i64 i,.map (some ms)] w (UnQ x.t ms Sn i w):=by
 have HFS:=Hd FS;have HN:=Hd hn;have HSN:=Hd hs;have HI:=Hd hi;have HOK:Hid (Ok x.t):=(FS w (TurnP.refl _ _)).tree.ok;have hb3:Below w.heap.size w (w.alloc (.cells #[.int .i64 i] 3)):=bR.alloc nR _;have HM3:Hid (SeenM (w.alloc (.cells #[.int .i64 i] 3)) ms (fun j=>Sn j∨j∈([]:List Int))):=(hm.below hb3).as fun j=>by simp
 have HT3:Hid (TurnP (fun q=>q=ms) (fun q=>q=ms) w (w.alloc (.cells #[.int .i64 i] 3))):=TurnP.below hb3;have HO3:Hid (IOwn (w.alloc (.cells #[.int .i64 i] 3)) w.heap.size (.slice (some ⟨w.heap.size,0,none⟩) [i].length 1) [i]):=SOwn.lit (T:=3) (enc:=ic) ic_len w [i] nR (by unfold maxLen;simp);have HU3:Hid (UnI x.t Sn i 0 [i] []):=UnI.start hi;have HMB:Hid (ms<w.heap.size):=hm.inside;clear FS hn hs hi hm hb3;go_enter Tryz.func137,Tryz.ntmps137;go_wp2_with ((with_reducible refine gB ?_);refine wpl_bs _ _ _ rfl rfl (by simp [go_sem]) (bs_int1 i _) ?_)
 go_loopw [9,8,7] (fun x9 x8 x7 wr=>∃ (k:Nat) (A:Option Addr) (c:Nat) (nx:List Int) (B:Option Addr) (d:Nat) (row:List Int),x9=.int .i64 k∧x8=.slice A nx.length c∧x7=.slice B row.length d∧Hid (IOwn wr w.heap.size (.slice A nx.length c) nx)∧Hid (IOwn wr w.heap.size (.slice B row.length d) row)∧Hid (ApV (.slice A nx.length c) (.slice B row.length d))∧Hid (SeenM wr ms (fun j=>Sn j∨j∈row))∧Hid (TurnP (fun q=>q=ms) (fun q=>q=ms) w wr)∧Hid (UnI x.t Sn i k nx row)) (fun x9 _ _ _=>x.t.length+2 - (intOf x9).toNat)
 case atStart=>exact ⟨0,_,1,[i],none,0,[],rfl,rfl,rfl,HO3.out,SOwn.nil _ _,(fun k _ e=>nomatch e),HM3.out,HT3.out,HU3.out⟩
 case round=>
  obtain ⟨k,A,c,nx,B,d,row,rfl,rfl,rfl,HO,HR,HA,HM,HT,HU⟩:=hrel;generalize wr=wA at *;clear HO3 HM3 HT3 HU3;have HNL:Hid (nx.length<=x.t.length+1):=HU.out.len;have hll:(nx.length:Int)<=100000:=by have:=HNL.out;have:=HN.out;omega
  by_cases hlt:k<nx.length
  ·have hkb:(k:Int)<=100000:=by omega
   have HMS:Hid (k<x.t.length+1):=by have:=HNL.out;show _<_;omega
   have t1:decide (k<nx.length)=true:=by simpa using hlt
   have HLT:=Hd hlt;obtain ⟨A',c',ev,-,-,hrow⟩:=IOwn.irow HO.out;obtain ⟨lb,lo,eA,hcell⟩:=hrow.at_ hlt;have ec:A'=A:=by injection ev with e1 _ _;exact e1.symm
   subst ec;subst eA;unfold eI at hcell;have hmem:nx[k]∈nx:=List.getElem_mem hlt;have HY:Hid (has x.t nx[k]=true):=(HU.out.deep _ hmem).1;have HSK:Hid (Sn nx[k]->UnI x.t Sn i (k+1) nx row):=HU.out.skip hlt;have HGO:Hid (¬ Sn nx[k]->UnI x.t Sn i (k+1) (nx++kids x.t nx[k]) (row++[nx[k]])):=HU.out.go HOK.out (has_iff.1 HI.out) hlt;have HNW:Hid (nx[k]∉row):=HU.out.new hlt;clear ev hrow hmem;generalize nx[k]=y at *;have HY64:Hid (I64 y):=has_64 HOK.out HY.out;obtain ⟨q,hlk,hq⟩:=HM.out.look HY64.out;have HQ:Hid (q=true↔Sn y):=hq.trans ⟨fun e=>e.resolve_right HNW.out,.inl⟩;clear hq
   have HDP:Hid (∀ j,Sn j∨j∈row->has x.t j=true):=fun j hj=>hj.elim (HSN.out j) fun h=>(HU.out.deep _ (List.mem_of_mem_take ((HU.out.sub j).1 h).1)).1
   have HRL:Hid (row.length<=x.t.length+1):=by
    have:=len_of_sub (m:=nx) HU.out.rnd fun j hj=>List.mem_of_mem_take ((HU.out.sub j).1 hj).1;exact Nat.le_trans this HNL.out
   go_upto_region 8 with (fail)
   have HB7:Hid (Below wA.heap.size wA (wA.alloc (.cells #[] 270))):=bR.alloc nR _;generalize wA.alloc (.cells #[] 270)=w7 at *;have HO7:=Hd (SOwn.below HO.out HB7.out);have HR7:=Hd (SOwn.below HR.out HB7.out);have HM7:=Hd (HM.out.below HB7.out);have HT7:Hid (TurnP (fun q=>q=ms) (fun q=>q=ms) w w7):=HT.out.trans (TurnP.below HB7.out);clear hlk hcell HO HR HM HT t1 hlt HB7;cases q with
   | true=>
    have HU9:=Hd (HSK.out (HQ.out.1 rfl));clear HSK HGO HU;go_wp2_with (fail)
    go_roundw
    case rel=>exact ⟨k+1,_,c,nx,B,d,row,by go_num,rfl,rfl,HO7,HR7,HA,HM7,HT7,HU9⟩
    case measure=>have:=HMS.out;simp [intOf];omega
   | false=>
    have HNS:Hid (¬ Sn y):=fun e=>by have:=HQ.out.2 e;cases this
    have HU9:=Hd (HGO.out HNS.out);obtain ⟨w8,hrun8,hm8,hg8⟩:=HM7.out.put HDP.out (by have:=HN.out;omega) HY64.out;have HT8:Hid (TurnP (fun q=>q=ms) (fun q=>q=ms) w w8):=HT7.out.trans (TurnP.grown hg8 fun k e=>(Option.some.inj e).symm)
    have HO8:Hid (IOwn w8 w.heap.size (.slice (some ⟨lb,lo,none⟩) nx.length c) nx):=SOwn.stays HO7.out fun e he=>hg8.block e (SOwn.block HO7.out he).2 fun h=>by
     have h1:=Option.some.inj h;have h2:=(SOwn.block HO7.out he).1;have h3:=HMB.out;omega
    have HR8:Hid (IOwn w8 w.heap.size (.slice B row.length d) row):=SOwn.stays HR7.out fun e he=>hg8.block e (SOwn.block HR7.out he).2 fun h=>by
     have h1:=Option.some.inj h;have h2:=(SOwn.block HR7.out he).1;have h3:=HMB.out;omega
    have HM8:Hid (SeenM w8 ms (fun j=>Sn j∨j∈row++[y])):=hm8.as fun j=>by simp [or_assoc]
    clear hm8 hg8 HSK HGO HU HQ HM7 HO7 HR7 HT7 HDP
    go_upto_region 10 with (fail)
    clear hrun8;obtain ⟨v9,w9,hrun,ho9,hg9,hn9⟩:=app_one HR8.out y (c:=1) (by have:=HRL.out;have:=HN.out;omega) HT8.out.size;have ht9:TurnP (Ow (.slice B row.length d)) (Ow (.slice B row.length d)) w8 w9:=(TurnP.below (bR.alloc nR _)).trans (TurnP.grown hg9 fun k hk=>hk);have HT9:Hid (TurnP (fun q=>q=ms) (fun q=>q=ms) w w9):=HT8.out.own ht9 fun k hk=>(SOwn.block HR8.out hk).1;have HO9:Hid (IOwn w9 w.heap.size (.slice (some ⟨lb,lo,none⟩) nx.length c) nx):=SOwn.apart HO8.out HA.out ht9
    have HM9:Hid (SeenM w9 ms (fun j=>Sn j∨j∈row++[y])):=HM8.out.stays (ht9.far ms HM8.out.inside fun e=>by
     have h2:=(SOwn.block HR8.out e).1;have h3:=HMB.out
     omega).2
    obtain ⟨B9,d9,rfl,-,-,-⟩:=SOwn.row ho9 ic_len;have HR9:=Hd ho9
    have HA9:Hid (ApV (.slice (some ⟨lb,lo,none⟩) nx.length c) (.slice B9 (row++[y]).length d9)):=fun k hk e=>by
     rcases hn9 with h | h
     ·exact HA.out k hk (h ▸ e)
     ·have h1:=Option.some.inj (h.symm.trans e);have h2:=(SOwn.block HO8.out hk).2;omega
    clear ho9 hg9 hn9 ht9 HT8 HO8 HR8 HM8 HA
    go_upto_region 11 with (first | ((with_reducible refine gB ?_);refine wpl_bs _ _ _ rfl rfl (by simp [go_sem]) (bs_int1 y _) ?_) | (at_builtin;refine wpl_append rfl _ _ 42 42 42 rfl rfl _ _ _ _ rfl rfl hrun ?_;clear hrun))
    have HKC:=Hd (tkids (HFS.out w9 HT9.out).tree (by have:=HN.out;omega) y HY64.out);unfold KidsQ at HKC;obtain ⟨⟨c0,-,-,-,-,-⟩,i0⟩:=(HFS.out w9 HT9.out).top;have hinv:=inv_kids (.pointer (some ⟨b,0,none⟩));go_wp2_with (fail);refine HKC.out.mono ?_;rintro e w10 ⟨kv,rfl,ho10,hb10⟩;obtain ⟨KA,KC,rfl,-,-,-⟩:=SOwn.row ho10 ic_len;have HT10:Hid (TurnP (fun q=>q=ms) (fun q=>q=ms) w w10):=HT9.out.trans (TurnP.below hb10);have HO10:=Hd (SOwn.below HO9.out hb10);have HR10:=Hd (SOwn.below HR9.out hb10);have HM10:=Hd (HM9.out.below hb10)
    obtain ⟨v11,w11,hrun,ho11,hg11,hn11⟩:=app_ints HO10.out ho10 (by have:=kids_le x.t y;have:=HNL.out;have:=HN.out;omega) HT10.out.size;have ht11:TurnP (Ow (.slice (some ⟨lb,lo,none⟩) nx.length c)) (Ow (.slice (some ⟨lb,lo,none⟩) nx.length c)) w10 w11:=TurnP.grown hg11 fun k hk=>hk;have HT11:Hid (TurnP (fun q=>q=ms) (fun q=>q=ms) w w11):=HT10.out.own ht11 fun k hk=>(SOwn.block HO10.out hk).1;have HR11:Hid (IOwn w11 w.heap.size (.slice B9 (row++[y]).length d9) (row++[y])):=SOwn.apart HR10.out (fun k hk e=>HA9.out k e hk) ht11
    have HM11:Hid (SeenM w11 ms (fun j=>Sn j∨j∈row++[y])):=HM10.out.stays (ht11.far ms HM10.out.inside fun e=>by
     have h2:=(SOwn.block HO10.out e).1;have h3:=HMB.out
     omega).2
    obtain ⟨A11,c11,rfl,-,-,-⟩:=SOwn.row ho11 ic_len;have HO11:=Hd ho11
    have HA11:Hid (ApV (.slice A11 (nx++kids x.t y).length c11) (.slice B9 (row++[y]).length d9)):=fun k hk e=>by
     rcases hn11 with h | h
     ·exact HA9.out k (h ▸ hk) e
     ·have h1:=Option.some.inj (h.symm.trans hk);have h2:=(SOwn.block HR10.out e).2;omega
    clear ho10 hb10 ho11 hg11 hn11 ht11 HT10 HO10 HR10 HM10 HT9 HO9 HR9 HM9 HA9 HKC c0 i0 hinv;go_wp2_with (at_builtin;refine wpl_append rfl _ _ 42 42 42 rfl rfl _ _ _ _ rfl rfl hrun ?_;clear hrun)
    go_roundw
    case rel=>exact ⟨k+1,A11,c11,nx++kids x.t y,B9,d9,row++[y],by go_num,by simp,by simp,HO11,HR11,HA11,HM11,HT11,HU9⟩
    case measure=>have:=HMS.out;simp [intOf];omega
  ·have t1:decide (k<nx.length)=false:=by simpa using hlt
   have HKK:Hid (nx.length<=k):=Nat.le_of_not_lt hlt;clear hlt;go_wp2_with (fail);go_ret;exact ⟨B,d,row,nx,k,rfl,HR.out,HU.out,HKK.out,HM.out,HT.out⟩
end
end
section
open Go.RowKit pxm imm trm Go.Maps
abbrev tRows:TypeId:=223
structure RwV where
 A:Option Addr
 c:Nat
 l:List Int
def RwV.v (q:RwV):Value:=.slice q.A q.l.length q.c
def RwV.cs (q:RwV):List Value:=[q.v]
theorem RwV.cs_len (q:RwV):q.cs.length=1:=rfl
theorem RwV.cs_plain (q:RwV):∀ u∈q.cs,u.oneCell'=true:=by
 intro u hu;rw [List.mem_singleton.1 hu];rfl
theorem info_ints:(Tryz.prog.info? 42).map (fun i=>(i.zero,i.size,i.bytes))=some (some (.slice none 0 0),1,24):=by kernel_rfl
abbrev RwOwn (w:World) (base:Nat) (v:Value) (l:List RwV):Prop:=SOwn 42 1 RwV.cs w base v l
theorem bs_row (q:RwV) (w:World):(Instr.buildSlice tRows 1 #[(0,.slice q.A q.l.length q.c)]).run Tryz.prog w=.ok (.slice (some ⟨w.heap.size,0,none⟩) 1 1) (w.alloc (.cells q.cs.toArray 42)):=by kernel_rfl
theorem app_rw {n0:Nat} {w:World} {v:Value} {l:List RwV} (h:RwOwn w n0 v l) (hb:n0<=w.heap.size) (q:RwV) {c:Nat} (hn:l.length<=900000000) :
  ∃ v' w',(Builtin.append_ #[tRows,tRows] tRows #[v,.slice (some ⟨w.heap.size,0,none⟩) 1 c]).run Tryz.prog (w.alloc (.cells q.cs.toArray 42))=.ok v' w'∧RwOwn w' n0 v' (l++[q]) ∧
   (w.alloc (.cells q.cs.toArray 42)).grownBy w' v.ownBlock∧(v'.ownBlock=v.ownBlock∨v'.ownBlock=some (w.heap.size+1)):=by
 obtain ⟨v',w',h1,h2,h3,h4⟩:=SOwn.app (P:=Tryz.prog) (xs:=[q]) (c:=c) (g:=w.heap.size) (o:=0) Tryz.underlying223 info_ints rfl (by decide) (by decide) RwV.cs_len RwV.cs_plain
  (h.below (bR.alloc nR (.cells q.cs.toArray 42))) (fun _=>srow_new (enc:=RwV.cs) RwV.cs_len w [q] _ (by simp)) (by simp;omega) (by simp;omega)
 refine ⟨v',w',h1,h2,h3,?_⟩
 simpa using h4
theorem ApV.types {α β:Type} {T T2:TypeId} {k k2:Nat} {enc:α->List Value} {enc2:β->List Value} {w:World} {b b2:Nat} {v u:Value} {l:List α} {m:List β} (h:SOwn T k enc w b v l) (h2:SOwn T2 k2 enc2 w b2 u m) (hne:T≠T2):ApV v u:=fun g hg hu=>by
 obtain ⟨c1,f1,e1⟩:=SOwn.typed2 h hg;obtain ⟨c2,f2,e2⟩:=SOwn.typed2 h2 hu;rw [e1] at e2;simp only [Option.some.injEq,Obj.cells.injEq] at e2;exact hne e2.2.1
theorem SOwn.not_map {α:Type} {T:TypeId} {k:Nat} {enc:α->List Value} {w:World} {b ms:Nat} {v:Value} {l:List α} {Sn:Int->Prop} (h:SOwn T k enc w b v l) (hm:SeenM w ms Sn) {g:Nat} (hg:v.ownBlock=some g):g≠ms:=fun e=>by
 obtain ⟨c1,f1,e1⟩:=SOwn.typed2 h hg;obtain ⟨es,h1,-⟩:=hm;obtain ⟨es',clock,e2,_⟩:=h1.own;rw [e,e2] at e1;cases e1
theorem SOwn.off {α:Type} {T:TypeId} {k:Nat} {enc:α->List Value} {w w':World} {b ms:Nat} {v:Value} {l:List α} {Sn:Int->Prop} (h:SOwn T k enc w b v l) (hm:SeenM w ms Sn) (ht:TurnP (fun q=>q=ms) (fun q=>q=ms) w w'):SOwn T k enc w' b v l:=h.stays fun g hg=>(ht.far g (h.block hg).2 (h.not_map hm hg)).2
def tch (l:List Op9) (j:Int):Prop:=∃ o∈l,j=o.i∧touch o
theorem tch_snoc {l:List Op9} {o:Op9} {j:Int}:tch (l++[o]) j↔tch l j∨(j=o.i∧touch o):=by
 unfold tch;constructor
 ·rintro ⟨o',h1,h2⟩;rcases List.mem_append.1 h1 with h1 | h1
  ·exact .inl ⟨o',h1,h2⟩
  ·rw [List.mem_singleton.1 h1] at h2;exact .inr h2
 ·rintro (⟨o',h1,h2⟩ | h)
  ·exact ⟨o',List.mem_append_left _ h1,h2⟩
  ·exact ⟨o,by simp,h⟩
theorem make_seen (w:World):(Instr.makeMap tSeen none).run Tryz.prog w=.ok (.map (some w.heap.size)) (w.alloc (.map #[] 0)):=rfl
def StQ (t:T) (l:List Op9) (w:World) (e:Ending) (w':World):Prop:=
 ∃ (A:Option Addr) (c:Nat) (rs:List RwV) (Sn:Int->Prop),e=.returned (.slice A rs.length c)∧RwOwn w' w.heap.size (.slice A rs.length c) rs∧(∀ q∈rs,IOwn w' w.heap.size q.v q.l)∧StI t (tch l) (rs.map (·.l)) Sn∧rs.length<=l.length∧Below w.heap.size w w'
section
variable {w:World} {g b m:Nat} {s:Sh} {Z:ZZ} {x:PSc}
theorem stale_any (FS:∀ W,Below w.heap.size w W->SceneAt W g b m s Z x) (hn:x.t.length<=900) (l:List OpR) (A:Option Addr) (c:Nat) (ho:OpsAt (SFoot b m s x.t) w A l) (hok:∀ q∈l,OpOk q.o) (hl:l.length<=1024) :
  Calls Tryz.prog 106 #[.pointer (some ⟨g,0,none⟩),.slice A l.length c] w (StQ x.t (l.map (·.o)) w):=by
 have HFS:=Hd FS;have HO:=Hd ho;have HOK:=Hd hok;have HN:=Hd hn;have HTK:Hid (Ok x.t):=(FS w bR).tree.ok;have hlb:(l.length:Int)<=1024:=by omega
 have hb3:Below w.heap.size w (w.alloc (.map #[] 0)):=bR.alloc nR _;have HB3:=Hd hb3
 have HM3:Hid (SeenM (w.alloc (.map #[] 0)) w.heap.size (fun _=>False)):=⟨[],VM.made w,fun j=>by simp [omap.look_nil],fun j v e=>by rw [omap.look_nil] at e;cases e⟩
 have hmm:=make_seen w;clear FS ho hok hn hb3;go_enter Tryz.func106,Tryz.ntmps106;go_wp2_with (fail);clear hmm
 go_loopw [12,5] (fun x12 x5 wr=>∃ (j:Nat) (U:Option Addr) (uc:Nat) (rs:List RwV) (Sn:Int->Prop),j<=l.length∧x12=.int .i64 j∧x5=.slice U rs.length uc∧Hid (RwOwn wr w.heap.size (.slice U rs.length uc) rs)∧Hid (∀ q∈rs,IOwn wr w.heap.size q.v q.l)∧Hid (StI x.t (tch ((l.map (·.o)).take j)) (rs.map (·.l)) Sn)∧Hid (SeenM wr w.heap.size Sn)∧Hid (Below w.heap.size w wr)∧Hid (rs.length<=j)) (fun x12 _ _=>l.length - (intOf x12).toNat)
 case atStart=>exact ⟨0,none,0,[],fun _=>False,Nat.zero_le _,rfl,rfl,SOwn.nil _ _,(fun q hq=>nomatch hq),(StI.start x.t).tcs (fun j hj _=>by simp [tch] at hj),HM3.out,HB3.out,nR⟩
 case round=>
  obtain ⟨j,U,uc,rs,Sn,hj,rfl,rfl,HU,HR,HST,HM,HB,HRL⟩:=hrel;generalize wr=wA at *;clear HM3 HB3;by_cases hlt:j<l.length
  ·have t1:decide (j<l.length)=true:=by simpa using hlt
   have HLT:=Hd hlt;have HOA:=Hd (HO.out.turn (TurnP.below HB.out));obtain ⟨lb,lo,eA,hcell⟩:=HOA.out.row (by omega);subst eA
   obtain ⟨q,hq⟩:∃ q,q=l[j]'hlt:=⟨_,rfl⟩
   have HQM:Hid (q∈l):=by rw [hq];exact List.getElem_mem hlt
   have HRG:Hid (wA.rangeAt lb (lo+j*23) q.cs):=by
    rw [hq];exact fun i v hv=>hcell j hlt i v hv
   have HTC:Hid (∀ i,tch ((l.map (·.o)).take (j+1)) i↔tch ((l.map (·.o)).take j) i∨(i=q.o.i∧touch q.o)):=fun i=>by
    rw [List.take_succ_eq_append_getElem (by rw [List.length_map];exact hlt),tch_snoc,List.getElem_map,hq]
   have HQO:=Hd (HOK.out q HQM.out);clear hq hcell
   go_upto_block 1 with (fail)
   go_cut [5] from 14 to 38 (fun u wx=>∃ (U:Option Addr) (uc:Nat) (rs:List RwV) (Sn:Int->Prop),u=.slice U rs.length uc∧Hid (RwOwn wx w.heap.size (.slice U rs.length uc) rs)∧Hid (∀ q∈rs,IOwn wx w.heap.size q.v q.l)∧Hid (StI x.t (tch ((l.map (·.o)).take (j+1))) (rs.map (·.l)) Sn)∧Hid (SeenM wx w.heap.size Sn)∧Hid (Below w.heap.size w wx)∧Hid (rs.length<=j+1))
   case first=>
    have HZ2:Hid (Blk (wA.alloc (.cells Vh.toArray 99)) wA.heap.size Vh):=blk_new wA Vh _;have HBa:Hid (Below wA.heap.size wA (wA.alloc (.cells Vh.toArray 99))):=bR.alloc nR _;have c0:=HRG.out 0 (.int .i64 q.o.k) rfl;have i0:lb<wA.heap.size:=World.block_lt_of_cell? wA ⟨lb,_,none⟩ c0;clear c0
    go_upto_region 6 with (first | ((with_reducible refine gL ?_);refine wpl_row 99 _ rfl rfl _ _ rfl (q.cs) HRG.out _ Tryz.underlying99 rfl (by kernel_rfl) ?_) | ((with_reducible refine gS ?_);refine wpl_stow 99 _ _ rfl rfl rfl _ 0 rfl (q.cs) rfl (Vh) HZ2.out (q.cs) rfl (nE rfl) (by kernel_rfl) (Op9.one _ _ _) ?_;intro w3 HW3 HK3))
    have HB3:Hid (Below wA.heap.size wA w3):=HW3.out.below HBa.out nR;have HB03:=Hd (HB.out.trans (HB3.out.mono HB.out.size));have HS3:Hid (SceneAt w3 g b m s Z x):=HFS.out _ HB03.out;have HU3:=Hd (SOwn.below HU.out HB3.out);have HR3:Hid (∀ q∈rs,IOwn w3 w.heap.size q.v q.l):=fun q hq=>SOwn.below (HR.out q hq) HB3.out;have HM3:=Hd (HM.out.below HB3.out);clear HZ2 HBa HW3 HRG i0 hlt HOA HU HR HM HB;have c0:=HK3.out.c 0 rfl;have c1:=HK3.out.c 1 rfl;have i0:wA.heap.size<w3.heap.size:=HK3.out.inside;by_cases h1:q.o.k=1
    ·have t1:(q.o.k==1)=true:=by simpa using h1
     have HTQ:Hid (touch q.o):=.inl h1;clear h1
     go_upto_region 10 with (fail)
     refine wRn [22,23,24,25,26,27,28,29] (fun i=>match i with
      |0|1|2=>rp g 0
      |3=>rV (.iface 102 (.pointer (some ⟨b,0,none⟩)))
      |4=>rp wA.heap.size 1
      |5=>rV (.int .i64 q.o.i)
      | 6=>(⟨fun v wv=>∃ g9,v=.slice (some ⟨g9,0,none⟩) 1 1∧Blk wv g9 [.int .i64 q.o.i],fun v w1 w2 h hb=>h.elim fun g9 h=>⟨g9,h.1,Blk.below' h.2 hb⟩⟩:regs.Say regs.bl)
      |7=>rV (.bool (has x.t q.o.i))
      | _=>ra) ⟨?_,?_,?_,?_,?_,?_,?_,?_,trivial⟩ ?_
     any_goals (first|refine zp fun L a w1 hh=>?_|fail)
     have h0:=hh.p 0 g 0;rotate_left;have h22:=rq (hh.d 0 22);rotate_left;have h23:=rq (hh.d 1 23);have i0:=((HS3.out.below hh.rel).blk.blk).inside;rotate_left;have h24:=rq (hh.d 2 24);have ⟨c0,i0⟩:=((HS3.out.below hh.rel).blk.blk).ci 0 rfl;rotate_left;have h8:=hh.p 8 wA.heap.size 0;have i0:=(Blk.below' HK3.out hh.rel).inside;rotate_left;have h26:=rq (hh.d 4 26);have ⟨c0,i0⟩:=(Blk.below' HK3.out hh.rel).ci 1 rfl;rotate_left
     ·have h27:=rq (hh.d 5 27);have hJ:=hh.j;clear hh;exact wp_bs _ _ _ rfl (by simp [go_sem,h27]) (bs_int1 q.o.i w1) ⟨_,rfl,bR.alloc nR _,⟨_,rfl,blk_new w1 [.int .i64 q.o.i] _⟩,hJ.out⟩
     ·have h25:=rq (hh.d 3 25)
      obtain ⟨g9,e9,hB9⟩:=(show ∃ g9,(a.tmps.getD 28 undef)=.slice (some ⟨g9,0,none⟩) 1 1∧Blk w1 g9 [.int .i64 q.o.i] from hh.d 6 28)
      have h28:a.tmps[28]?.getD undef=.slice (some ⟨g9,0,none⟩) 1 1:=rq (e9);have hinv:=inv_has (.pointer (some ⟨b,0,none⟩));have hC:=Hd (thas (HS3.out.below hh.rel).tree (some ⟨g9,0,none⟩) [q.o.i] 1 (fun _=>⟨g9,0,rfl,fun j hj=>by have:j=0:=(by simp at hj;omega);subst this;exact hB9.cell 0⟩) (fun z hz=>by rw [List.mem_singleton.1 hz];exact HQO.out.i) (by simp));rw [show ([q.o.i].all (has x.t))=has x.t q.o.i from by simp] at hC;clear e9 hB9;have hJ:=hh.j;clear hh;go_simp;refine hC.out.mono ?_;rintro e w9 ⟨rfl,hb9⟩;exact ⟨_,rfl,hb9,rfl,hJ.out⟩
     any_goals (clear hh;go_simp;exact ⟨_,rfl,rB,rfl,trivial⟩)
     intro L w4 val hL hJ hR hv;have h29:val 29=.bool (has x.t q.o.i):=hv 7 29 (by kernel_rfl);have HR4:=Hd hR;clear hv hL hJ hR;simp only [regs.putAll,List.map_cons,List.map_nil,h29];simp only [Act.put,List.setIfInBounds_toArray,List.set_cons_zero,List.set_cons_succ];clear h29;generalize val 22=v22,val 23=v23,val 24=v24,val 25=v25,val 26=v26,val 27=v27,val 28=v28 at *;have HB34:Hid (Below w3.heap.size w3 w4):=HR4.out;have HB04:=Hd (HB03.out.trans (HB34.out.mono HB03.out.size));have HU4:=Hd (SOwn.below HU3.out HB34.out)
     have HR4':Hid (∀ q∈rs,IOwn w4 w.heap.size q.v q.l):=fun q hq=>SOwn.below (HR3.out q hq) HB34.out;have HM4:=Hd (HM3.out.below HB34.out);have HK4:=Hd (Blk.below' HK3.out HB34.out);clear HU3 HR3 HM3 HK3 HS3 c0 c1 i0;cases hh:has x.t q.o.i with
     | false=>
      have HST4:Hid (StI x.t (tch ((l.map (·.o)).take (j+1))) (rs.map (·.l)) Sn):=HST.out.tcs fun i hi hx=>((HTC.out i).1 hi).elim id fun h=>by rw [h.1,hh] at hx;cases hx
      clear hh;go_wp2_with (fail)
      go_meet
      case rel=>exact ⟨U,uc,rs,Sn,rfl,HU4,HR4',HST4,HM4,HB04,Nat.le_succ_of_le HRL.out⟩
     | true=>
      have HHH:=Hd hh;have HUC:=Hd (unseen_any (w:=w4) w.heap.size (fun W ht=>HFS.out W (HB04.out.trans (ht.to_below HB04.out.size fun g e=>by rw [e];exact nR))) HN.out Sn HM4.out HST.out.hs q.o.i hh);unfold UnQ at HUC;clear hh;have c1:=HK4.out.c 1 rfl;have i0:wA.heap.size<w4.heap.size:=HK4.out.inside;go_wp2_with (fail);refine HUC.out.mono ?_;rintro e w5 ⟨A5,c5,row,next,k5,rfl,ho5,hu5,hk5,hm5,ht5⟩
      have HST5:Hid (StI x.t (tch ((l.map (·.o)).take (j+1))) (rs.map (·.l)++[row]) (fun i=>Sn i∨i∈row)):=HST.out.add HTK.out HHH.out hu5 hk5 (fun i hi=>((HTC.out i).1 hi).imp id fun h=>h.1) fun i=>Iff.rfl;have HB5:=Hd (HB04.out.trans (ht5.to_below HB04.out.size fun g e=>by rw [e];exact nR));have HU5:=Hd (SOwn.off HU4.out HM4.out ht5);have HO5:Hid (IOwn w5 w.heap.size (.slice A5 row.length c5) row):=SOwn.weaken ho5 HB04.out.size;have HR5:Hid (∀ q∈rs,IOwn w5 w.heap.size q.v q.l):=fun q hq=>SOwn.off (HR4'.out q hq) HM4.out ht5;have HM5:=Hd hm5
      obtain ⟨v6,w6,hrun,hu6,hg6,hn6⟩:=app_rw HU5.out HB5.out.size ⟨A5,c5,row⟩ (c:=1) (by have:=HRL.out;have:=HLT.out;omega);have ht6:TurnP (Ow (.slice U rs.length uc)) (Ow (.slice U rs.length uc)) w5 w6:=(TurnP.below (bR.alloc nR _)).trans (TurnP.grown hg6 fun k hk=>hk);have HB6:=Hd (HB5.out.trans (ht6.to_below HB5.out.size fun g hg=>(SOwn.block HU5.out hg).1));have HM6:Hid (SeenM w6 w.heap.size (fun i=>Sn i∨i∈row)):=HM5.out.stays (ht6.far _ HM5.out.inside fun e=>SOwn.not_map HU5.out HM5.out e rfl).2
      have HR6:Hid (∀ q∈rs++[⟨A5,c5,row⟩],IOwn w6 w.heap.size q.v q.l):=fun q hq=>by
       have h5:IOwn w5 w.heap.size q.v q.l:=by
        rcases List.mem_append.1 hq with hq | hq
        ·exact HR5.out q hq
        ·rw [List.mem_singleton.1 hq];exact HO5.out
       exact SOwn.apart h5 (ApV.types h5 HU5.out (by decide)) ht6
      have HST6:Hid (StI x.t (tch ((l.map (·.o)).take (j+1))) ((rs++[(⟨A5,c5,row⟩:RwV)]).map (fun q:RwV=>q.l)) (fun i=>Sn i∨i∈row)):=by
       have:=HST5.out
       rwa [show (rs++[(⟨A5,c5,row⟩:RwV)]).map (fun q:RwV=>q.l)=rs.map (fun q:RwV=>q.l)++[row] from by simp]
      obtain ⟨U6,uc6,rfl,-,-,-⟩:=SOwn.row hu6 RwV.cs_len;have HU6:=Hd hu6;clear ho5 hu5 hk5 hm5 ht5 hu6 hg6 hn6 ht6 HUC HST HST5 HM4 HU4 HR4' HM5 HU5 HR5 HO5 HB5 c1 i0;go_wp2_with (first | ((with_reducible refine gB ?_);refine wpl_bs _ _ _ rfl rfl (by simp [go_sem]) (bs_row ⟨A5,c5,row⟩ _) ?_) | (at_builtin;refine wpl_append rfl _ _ tRows tRows tRows rfl rfl _ _ _ _ rfl rfl hrun ?_;clear hrun))
      go_meet
      case rel=>exact ⟨U6,uc6,_,_,by simp,HU6,HR6,HST6,HM6,HB6,by have:=HRL.out;simp;omega⟩
    by_cases h3:q.o.k=3
    ·have t1:(q.o.k==1)=false:=by simpa using h1
     have t3:(q.o.k==3)=true:=by simpa using h3
     have HTQ:Hid (touch q.o):=.inr (.inl h3);clear h1 h3
     go_upto_region 10 with (fail)
     refine wRn [22,23,24,25,26,27,28,29] (fun i=>match i with
      |0|1|2=>rp g 0
      |3=>rV (.iface 102 (.pointer (some ⟨b,0,none⟩)))
      |4=>rp wA.heap.size 1
      |5=>rV (.int .i64 q.o.i)
      | 6=>(⟨fun v wv=>∃ g9,v=.slice (some ⟨g9,0,none⟩) 1 1∧Blk wv g9 [.int .i64 q.o.i],fun v w1 w2 h hb=>h.elim fun g9 h=>⟨g9,h.1,Blk.below' h.2 hb⟩⟩:regs.Say regs.bl)
      |7=>rV (.bool (has x.t q.o.i))
      | _=>ra) ⟨?_,?_,?_,?_,?_,?_,?_,?_,trivial⟩ ?_
     any_goals (first|refine zp fun L a w1 hh=>?_|fail)
     have h0:=hh.p 0 g 0;rotate_left;have h22:=rq (hh.d 0 22);rotate_left;have h23:=rq (hh.d 1 23);have i0:=((HS3.out.below hh.rel).blk.blk).inside;rotate_left;have h24:=rq (hh.d 2 24);have ⟨c0,i0⟩:=((HS3.out.below hh.rel).blk.blk).ci 0 rfl;rotate_left;have h8:=hh.p 8 wA.heap.size 0;have i0:=(Blk.below' HK3.out hh.rel).inside;rotate_left;have h26:=rq (hh.d 4 26);have ⟨c0,i0⟩:=(Blk.below' HK3.out hh.rel).ci 1 rfl;rotate_left
     ·have h27:=rq (hh.d 5 27);have hJ:=hh.j;clear hh;exact wp_bs _ _ _ rfl (by simp [go_sem,h27]) (bs_int1 q.o.i w1) ⟨_,rfl,bR.alloc nR _,⟨_,rfl,blk_new w1 [.int .i64 q.o.i] _⟩,hJ.out⟩
     ·have h25:=rq (hh.d 3 25)
      obtain ⟨g9,e9,hB9⟩:=(show ∃ g9,(a.tmps.getD 28 undef)=.slice (some ⟨g9,0,none⟩) 1 1∧Blk w1 g9 [.int .i64 q.o.i] from hh.d 6 28)
      have h28:a.tmps[28]?.getD undef=.slice (some ⟨g9,0,none⟩) 1 1:=rq (e9);have hinv:=inv_has (.pointer (some ⟨b,0,none⟩));have hC:=Hd (thas (HS3.out.below hh.rel).tree (some ⟨g9,0,none⟩) [q.o.i] 1 (fun _=>⟨g9,0,rfl,fun j hj=>by have:j=0:=(by simp at hj;omega);subst this;exact hB9.cell 0⟩) (fun z hz=>by rw [List.mem_singleton.1 hz];exact HQO.out.i) (by simp));rw [show ([q.o.i].all (has x.t))=has x.t q.o.i from by simp] at hC;clear e9 hB9;have hJ:=hh.j;clear hh;go_simp;refine hC.out.mono ?_;rintro e w9 ⟨rfl,hb9⟩;exact ⟨_,rfl,hb9,rfl,hJ.out⟩
     any_goals (clear hh;go_simp;exact ⟨_,rfl,rB,rfl,trivial⟩)
     intro L w4 val hL hJ hR hv;have h29:val 29=.bool (has x.t q.o.i):=hv 7 29 (by kernel_rfl);have HR4:=Hd hR;clear hv hL hJ hR;simp only [regs.putAll,List.map_cons,List.map_nil,h29];simp only [Act.put,List.setIfInBounds_toArray,List.set_cons_zero,List.set_cons_succ];clear h29;generalize val 22=v22,val 23=v23,val 24=v24,val 25=v25,val 26=v26,val 27=v27,val 28=v28 at *;have HB34:Hid (Below w3.heap.size w3 w4):=HR4.out;have HB04:=Hd (HB03.out.trans (HB34.out.mono HB03.out.size));have HU4:=Hd (SOwn.below HU3.out HB34.out)
     have HR4':Hid (∀ q∈rs,IOwn w4 w.heap.size q.v q.l):=fun q hq=>SOwn.below (HR3.out q hq) HB34.out;have HM4:=Hd (HM3.out.below HB34.out);have HK4:=Hd (Blk.below' HK3.out HB34.out);clear HU3 HR3 HM3 HK3 HS3 c0 c1 i0;cases hh:has x.t q.o.i with
     | false=>
      have HST4:Hid (StI x.t (tch ((l.map (·.o)).take (j+1))) (rs.map (·.l)) Sn):=HST.out.tcs fun i hi hx=>((HTC.out i).1 hi).elim id fun h=>by rw [h.1,hh] at hx;cases hx
      clear hh;go_wp2_with (fail)
      go_meet
      case rel=>exact ⟨U,uc,rs,Sn,rfl,HU4,HR4',HST4,HM4,HB04,Nat.le_succ_of_le HRL.out⟩
     | true=>
      have HHH:=Hd hh;have HUC:=Hd (unseen_any (w:=w4) w.heap.size (fun W ht=>HFS.out W (HB04.out.trans (ht.to_below HB04.out.size fun g e=>by rw [e];exact nR))) HN.out Sn HM4.out HST.out.hs q.o.i hh);unfold UnQ at HUC;clear hh;have c1:=HK4.out.c 1 rfl;have i0:wA.heap.size<w4.heap.size:=HK4.out.inside;go_wp2_with (fail);refine HUC.out.mono ?_;rintro e w5 ⟨A5,c5,row,next,k5,rfl,ho5,hu5,hk5,hm5,ht5⟩
      have HST5:Hid (StI x.t (tch ((l.map (·.o)).take (j+1))) (rs.map (·.l)++[row]) (fun i=>Sn i∨i∈row)):=HST.out.add HTK.out HHH.out hu5 hk5 (fun i hi=>((HTC.out i).1 hi).imp id fun h=>h.1) fun i=>Iff.rfl;have HB5:=Hd (HB04.out.trans (ht5.to_below HB04.out.size fun g e=>by rw [e];exact nR));have HU5:=Hd (SOwn.off HU4.out HM4.out ht5);have HO5:Hid (IOwn w5 w.heap.size (.slice A5 row.length c5) row):=SOwn.weaken ho5 HB04.out.size;have HR5:Hid (∀ q∈rs,IOwn w5 w.heap.size q.v q.l):=fun q hq=>SOwn.off (HR4'.out q hq) HM4.out ht5;have HM5:=Hd hm5
      obtain ⟨v6,w6,hrun,hu6,hg6,hn6⟩:=app_rw HU5.out HB5.out.size ⟨A5,c5,row⟩ (c:=1) (by have:=HRL.out;have:=HLT.out;omega);have ht6:TurnP (Ow (.slice U rs.length uc)) (Ow (.slice U rs.length uc)) w5 w6:=(TurnP.below (bR.alloc nR _)).trans (TurnP.grown hg6 fun k hk=>hk);have HB6:=Hd (HB5.out.trans (ht6.to_below HB5.out.size fun g hg=>(SOwn.block HU5.out hg).1));have HM6:Hid (SeenM w6 w.heap.size (fun i=>Sn i∨i∈row)):=HM5.out.stays (ht6.far _ HM5.out.inside fun e=>SOwn.not_map HU5.out HM5.out e rfl).2
      have HR6:Hid (∀ q∈rs++[⟨A5,c5,row⟩],IOwn w6 w.heap.size q.v q.l):=fun q hq=>by
       have h5:IOwn w5 w.heap.size q.v q.l:=by
        rcases List.mem_append.1 hq with hq | hq
        ·exact HR5.out q hq
        ·rw [List.mem_singleton.1 hq];exact HO5.out
       exact SOwn.apart h5 (ApV.types h5 HU5.out (by decide)) ht6
      have HST6:Hid (StI x.t (tch ((l.map (·.o)).take (j+1))) ((rs++[(⟨A5,c5,row⟩:RwV)]).map (fun q:RwV=>q.l)) (fun i=>Sn i∨i∈row)):=by
       have:=HST5.out
       rwa [show (rs++[(⟨A5,c5,row⟩:RwV)]).map (fun q:RwV=>q.l)=rs.map (fun q:RwV=>q.l)++[row] from by simp]
      obtain ⟨U6,uc6,rfl,-,-,-⟩:=SOwn.row hu6 RwV.cs_len;have HU6:=Hd hu6;clear ho5 hu5 hk5 hm5 ht5 hu6 hg6 hn6 ht6 HUC HST HST5 HM4 HU4 HR4' HM5 HU5 HR5 HO5 HB5 c1 i0;go_wp2_with (first | ((with_reducible refine gB ?_);refine wpl_bs _ _ _ rfl rfl (by simp [go_sem]) (bs_row ⟨A5,c5,row⟩ _) ?_) | (at_builtin;refine wpl_append rfl _ _ tRows tRows tRows rfl rfl _ _ _ _ rfl rfl hrun ?_;clear hrun))
      go_meet
      case rel=>exact ⟨U6,uc6,_,_,by simp,HU6,HR6,HST6,HM6,HB6,by have:=HRL.out;simp;omega⟩
    by_cases h4:q.o.k=4
    ·have t1:(q.o.k==1)=false:=by simpa using h1
     have t3:(q.o.k==3)=false:=by simpa using h3
     have t4:(q.o.k==4)=true:=by simpa using h4
     have HTQ:Hid (touch q.o):=.inr (.inr h4);clear h1 h3 h4
     go_upto_region 10 with (fail)
     refine wRn [22,23,24,25,26,27,28,29] (fun i=>match i with
      |0|1|2=>rp g 0
      |3=>rV (.iface 102 (.pointer (some ⟨b,0,none⟩)))
      |4=>rp wA.heap.size 1
      |5=>rV (.int .i64 q.o.i)
      | 6=>(⟨fun v wv=>∃ g9,v=.slice (some ⟨g9,0,none⟩) 1 1∧Blk wv g9 [.int .i64 q.o.i],fun v w1 w2 h hb=>h.elim fun g9 h=>⟨g9,h.1,Blk.below' h.2 hb⟩⟩:regs.Say regs.bl)
      |7=>rV (.bool (has x.t q.o.i))
      | _=>ra) ⟨?_,?_,?_,?_,?_,?_,?_,?_,trivial⟩ ?_
     any_goals (first|refine zp fun L a w1 hh=>?_|fail)
     have h0:=hh.p 0 g 0;rotate_left;have h22:=rq (hh.d 0 22);rotate_left;have h23:=rq (hh.d 1 23);have i0:=((HS3.out.below hh.rel).blk.blk).inside;rotate_left;have h24:=rq (hh.d 2 24);have ⟨c0,i0⟩:=((HS3.out.below hh.rel).blk.blk).ci 0 rfl;rotate_left;have h8:=hh.p 8 wA.heap.size 0;have i0:=(Blk.below' HK3.out hh.rel).inside;rotate_left;have h26:=rq (hh.d 4 26);have ⟨c0,i0⟩:=(Blk.below' HK3.out hh.rel).ci 1 rfl;rotate_left
     ·have h27:=rq (hh.d 5 27);have hJ:=hh.j;clear hh;exact wp_bs _ _ _ rfl (by simp [go_sem,h27]) (bs_int1 q.o.i w1) ⟨_,rfl,bR.alloc nR _,⟨_,rfl,blk_new w1 [.int .i64 q.o.i] _⟩,hJ.out⟩
     ·have h25:=rq (hh.d 3 25)
      obtain ⟨g9,e9,hB9⟩:=(show ∃ g9,(a.tmps.getD 28 undef)=.slice (some ⟨g9,0,none⟩) 1 1∧Blk w1 g9 [.int .i64 q.o.i] from hh.d 6 28)
      have h28:a.tmps[28]?.getD undef=.slice (some ⟨g9,0,none⟩) 1 1:=rq (e9);have hinv:=inv_has (.pointer (some ⟨b,0,none⟩));have hC:=Hd (thas (HS3.out.below hh.rel).tree (some ⟨g9,0,none⟩) [q.o.i] 1 (fun _=>⟨g9,0,rfl,fun j hj=>by have:j=0:=(by simp at hj;omega);subst this;exact hB9.cell 0⟩) (fun z hz=>by rw [List.mem_singleton.1 hz];exact HQO.out.i) (by simp));rw [show ([q.o.i].all (has x.t))=has x.t q.o.i from by simp] at hC;clear e9 hB9;have hJ:=hh.j;clear hh;go_simp;refine hC.out.mono ?_;rintro e w9 ⟨rfl,hb9⟩;exact ⟨_,rfl,hb9,rfl,hJ.out⟩
     any_goals (clear hh;go_simp;exact ⟨_,rfl,rB,rfl,trivial⟩)
     intro L w4 val hL hJ hR hv;have h29:val 29=.bool (has x.t q.o.i):=hv 7 29 (by kernel_rfl);have HR4:=Hd hR;clear hv hL hJ hR;simp only [regs.putAll,List.map_cons,List.map_nil,h29];simp only [Act.put,List.setIfInBounds_toArray,List.set_cons_zero,List.set_cons_succ];clear h29
     skip
     have HB34:Hid (Below w3.heap.size w3 w4):=HR4.out;have HB04:=Hd (HB03.out.trans (HB34.out.mono HB03.out.size));have HU4:=Hd (SOwn.below HU3.out HB34.out);have HR4':Hid (∀ q∈rs,IOwn w4 w.heap.size q.v q.l):=fun q hq=>SOwn.below (HR3.out q hq) HB34.out;have HM4:=Hd (HM3.out.below HB34.out);have HK4:=Hd (Blk.below' HK3.out HB34.out);clear HU3 HR3 HM3 HK3 HS3 c0 c1 i0;cases hh:has x.t q.o.i with
     | false=>
      have HST4:Hid (StI x.t (tch ((l.map (·.o)).take (j+1))) (rs.map (·.l)) Sn):=HST.out.tcs fun i hi hx=>((HTC.out i).1 hi).elim id fun h=>by rw [h.1,hh] at hx;cases hx
      clear hh;go_wp2_with (fail)
      go_meet
      case rel=>exact ⟨U,uc,rs,Sn,rfl,HU4,HR4',HST4,HM4,HB04,Nat.le_succ_of_le HRL.out⟩
     | true=>
      have HHH:=Hd hh;have HUC:=Hd (unseen_any (w:=w4) w.heap.size (fun W ht=>HFS.out W (HB04.out.trans (ht.to_below HB04.out.size fun g e=>by rw [e];exact nR))) HN.out Sn HM4.out HST.out.hs q.o.i hh);unfold UnQ at HUC;clear hh;have c1:=HK4.out.c 1 rfl;have i0:wA.heap.size<w4.heap.size:=HK4.out.inside;go_wp2_with (fail);refine HUC.out.mono ?_;rintro e w5 ⟨A5,c5,row,next,k5,rfl,ho5,hu5,hk5,hm5,ht5⟩
      have HST5:Hid (StI x.t (tch ((l.map (·.o)).take (j+1))) (rs.map (·.l)++[row]) (fun i=>Sn i∨i∈row)):=HST.out.add HTK.out HHH.out hu5 hk5 (fun i hi=>((HTC.out i).1 hi).imp id fun h=>h.1) fun i=>Iff.rfl;have HB5:=Hd (HB04.out.trans (ht5.to_below HB04.out.size fun g e=>by rw [e];exact nR));have HU5:=Hd (SOwn.off HU4.out HM4.out ht5);have HO5:Hid (IOwn w5 w.heap.size (.slice A5 row.length c5) row):=SOwn.weaken ho5 HB04.out.size;have HR5:Hid (∀ q∈rs,IOwn w5 w.heap.size q.v q.l):=fun q hq=>SOwn.off (HR4'.out q hq) HM4.out ht5;have HM5:=Hd hm5
      obtain ⟨v6,w6,hrun,hu6,hg6,hn6⟩:=app_rw HU5.out HB5.out.size ⟨A5,c5,row⟩ (c:=1) (by have:=HRL.out;have:=HLT.out;omega);have ht6:TurnP (Ow (.slice U rs.length uc)) (Ow (.slice U rs.length uc)) w5 w6:=(TurnP.below (bR.alloc nR _)).trans (TurnP.grown hg6 fun k hk=>hk);have HB6:=Hd (HB5.out.trans (ht6.to_below HB5.out.size fun g hg=>(SOwn.block HU5.out hg).1));have HM6:Hid (SeenM w6 w.heap.size (fun i=>Sn i∨i∈row)):=HM5.out.stays (ht6.far _ HM5.out.inside fun e=>SOwn.not_map HU5.out HM5.out e rfl).2
      have HR6:Hid (∀ q∈rs++[⟨A5,c5,row⟩],IOwn w6 w.heap.size q.v q.l):=fun q hq=>by
       have h5:IOwn w5 w.heap.size q.v q.l:=by
        rcases List.mem_append.1 hq with hq | hq
        ·exact HR5.out q hq
        ·rw [List.mem_singleton.1 hq];exact HO5.out
       exact SOwn.apart h5 (ApV.types h5 HU5.out (by decide)) ht6
      have HST6:Hid (StI x.t (tch ((l.map (·.o)).take (j+1))) ((rs++[(⟨A5,c5,row⟩:RwV)]).map (fun q:RwV=>q.l)) (fun i=>Sn i∨i∈row)):=by
       have:=HST5.out
       rwa [show (rs++[(⟨A5,c5,row⟩:RwV)]).map (fun q:RwV=>q.l)=rs.map (fun q:RwV=>q.l)++[row] from by simp]
      obtain ⟨U6,uc6,rfl,-,-,-⟩:=SOwn.row hu6 RwV.cs_len;have HU6:=Hd hu6;clear ho5 hu5 hk5 hm5 ht5 hu6 hg6 hn6 ht6 HUC HST HST5 HM4 HU4 HR4' HM5 HU5 HR5 HO5 HB5 c1 i0;go_wp2_with (first | ((with_reducible refine gB ?_);refine wpl_bs _ _ _ rfl rfl (by simp [go_sem]) (bs_row ⟨A5,c5,row⟩ _) ?_) | (at_builtin;refine wpl_append rfl _ _ tRows tRows tRows rfl rfl _ _ _ _ rfl rfl hrun ?_;clear hrun))
      go_meet
      case rel=>exact ⟨U6,uc6,_,_,by simp,HU6,HR6,HST6,HM6,HB6,by have:=HRL.out;simp;omega⟩
    have t1:(q.o.k==1)=false:=by simpa using h1
    have t3:(q.o.k==3)=false:=by simpa using h3
    have t4:(q.o.k==4)=false:=by simpa using h4
    have HST4:Hid (StI x.t (tch ((l.map (·.o)).take (j+1))) (rs.map (·.l)) Sn):=HST.out.tcs fun i hi _=>((HTC.out i).1 hi).elim id fun h=>(h.2.elim h1 fun h=>h.elim h3 h4).elim;clear h1 h3 h4;go_wp2_with (fail)
    go_meet
    case rel=>exact ⟨U,uc,rs,Sn,rfl,HU3,HR3,HST4,HM3,HB03,Nat.le_succ_of_le HRL.out⟩
   case rest=>
    obtain ⟨U2,uc2,rs2,Sn2,rfl,HU2,HR2,HST2,HM2,HB2,HRL2⟩:=hcut;clear HST HRL HRG hlt HOA;go_wp2_with (fail)
    go_roundw
    case rel=>exact ⟨j+1,U2,uc2,rs2,Sn2,HLT.out,by go_num,rfl,HU2,HR2,HST2,HM2,HB2,HRL2⟩
    case measure=>have:=HLT.out;simp [intOf];omega
  ·obtain rfl:j=l.length:=by omega
   have t1:decide (l.length<l.length)=false:=by simp
   clear hlt;go_wp2_with (fail);go_ret;refine ⟨U,uc,rs,Sn,rfl,HU.out,HR.out,?_,?_,HB.out⟩
   ·have:=HST.out
    rwa [List.take_of_length_le (by rw [List.length_map];exact nR)] at this
   ·rw [List.length_map];exact HRL.out
end
end
section
open Go.RowKit pxm imm trm Go.Maps itr Go.Shelf
attribute [local go_sem] Oper.semAt_some
theorem cameV {l:LV} {x:Int} {c:Value} {kl:Lit} {y:DataW Value×List MemPlace} (hk:keyOf Tryz.prog 3 (.int .i64 x)=some kl) (hv:anyE c=some y) (hat:∀ zd,(mapV l).atKey kl zd=y.1):kl=.int .i64 x∧I64 x∧omap.look l x=some c:=by
 obtain ⟨x',ex,rfl,hwf⟩:=Maps.keyOf_int_inv Tryz.underlying3 hk
 injection ex with _ ex
 subst ex;simp only [Lit.wf] at hwf;rw [Bool.and_eq_true,decide_eq_true_eq,decide_eq_true_eq] at hwf;refine ⟨rfl,hwf,?_⟩;unfold anyE at hv;simp only [Option.some.injEq] at hv;have h1:=hat .nil;rw [atKey_mapV,← hv] at h1;cases hl:omap.look l x with
 | none=>rw [hl] at h1;cases h1
 | some g=>rw [hl] at h1;simp only [DataW.held.injEq] at h1;rw [h1]
theorem has_mapV_of {l:LV} {k:Int} {g:Value} (h:omap.look l k=some g):Maps.has (mapV l) (.int .i64 k)=true:=by rw [has_mapV,h];rfl
def mixW (ws:Int->Mp) (fr:Int->Option Mp) (left:Lit->Bool):Int->Mp:=fun i=>if left (.int .i64 i)=true then ws i else (fr i).getD (ws i)
theorem mixW_step (ws:Int->Mp) (fr:Int->Option Mp) (left:Lit->Bool) {i:Int} {u:Mp} (h:fr i=some u):upd (mixW ws fr left) i u=mixW ws fr (fun z=>left z && !z.sameKey (.int .i64 i)):=by
 funext j
 unfold upd mixW;by_cases e:j=i
 ·subst e;rw [if_pos rfl,if_neg (by simp [Lit.sameKey]),h];rfl
 ·rw [if_neg e];have:(Lit.int .i64 j).sameKey (.int .i64 i)=false:=by simp [Lit.sameKey,e]
  simp only [this,Bool.not_false,Bool.and_true]
theorem make_fresh (w:World):(Instr.makeMap tFresh none).run Tryz.prog w=.ok (.map (some w.heap.size)) (w.alloc (.map #[] 0)):=rfl
theorem TurnP.up {S S2:Bset} {w w':World} (h:TurnP S S w w') (hs:∀ k,S k->S2 k):TurnP S2 S2 w w':=⟨h.os,h.tape,h.output,h.size,fun k hk hn=>⟨hn,(h.far k hk fun e=>hn (hs k e)).2⟩⟩
theorem flat_step {rs:List RwV} {j:Nat} (hj:j<rs.length) {q:RwV} (hq:rs[rs.length - 1 - j]?=some q):((rs.map (·.l)).reverse.take (j+1)).flatten=((rs.map (·.l)).reverse.take j).flatten++q.l:=by
 rw [List.take_add_one,List.flatten_append]
 congr 1
 have:(rs.map (·.l)).reverse[j]?=some q.l:=by
  rw [List.getElem?_reverse (by simpa using hj),List.length_map,List.getElem?_map,hq];rfl
 rw [this];simp
theorem flat_rest {rs:List RwV} {j:Nat} (hj:j<rs.length) {q:RwV} (hq:rs[rs.length - 1 - j]?=some q) {k:Nat} (hk:k<q.l.length):∃ post,(rs.map (·.l)).reverse.flatten=(((rs.map (·.l)).reverse.take j).flatten++q.l.take k)++q.l[k]::post:=by
 have h1:=flat_step hj hq;refine ⟨q.l.drop (k+1)++((rs.map (·.l)).reverse.drop (j+1)).flatten,?_⟩;have h2:(rs.map (·.l)).reverse.flatten=((rs.map (·.l)).reverse.take (j+1)).flatten++((rs.map (·.l)).reverse.drop (j+1)).flatten:=by rw [← List.flatten_append,List.take_append_drop]
 rw [h2,h1,List.append_assoc,List.append_assoc]
 congr 1
 have h3:q.l=q.l.take k++q.l[k]::q.l.drop (k+1):=by
  rw [← List.drop_eq_getElem_cons hk,List.take_append_drop]
 rw [← List.cons_append,← List.append_assoc,← h3]
theorem BlkT.al {w:World} {k:Nat} {cs:List Value} {T:TypeId} (h:BlkT w k cs T) (o:Obj):BlkT (w.alloc o) k cs T:=BlkT.stays h (Below.heap_alloc w o k (BlkT.inside h))
theorem results_cell_err {fn:Func} {p:Tmp} (h:fn.results=#[.cell p 26]) (tmps:Array Value) (w:World) {g:Nat} {v:Int} (hp:tmps.getD p undef=.pointer (some ⟨g,0,none⟩)) (hc:w.cell? ⟨g,0,none⟩=some (.int .i64 v)) :
  (results fn tmps).run Tryz.prog w=.ok (.int .i64 v) w:=by
 have hp':tmps[p]?.getD undef=.pointer (some ⟨g,0,none⟩):=by simpa using hp
 simp [results,h,hp',asAddr,go_sem,hc]
theorem VM.kind {w:World} {k:Nat} {l:LV} (h:VM w k l):∃ o,w.heap[k]?=some o∧isBk o=false:=by
 obtain ⟨es',clock,h4,_⟩:=h.own;exact ⟨_,h4,rfl⟩
theorem FRm.bk {B:Nat} {w w':World} {mf:Nat} {fr:Int->Option Mp} (h:FRm w mf fr) (hb:Bk B w w'):FRm w' mf fr:=by
 obtain ⟨es,h1,-⟩:=id h;obtain ⟨o,ho,hn⟩:=h1.kind;exact h.stays ((hb.keep ho hn).trans ho.symm)
theorem FRm.put {w:World} {mf:Nat} {fr:Int->Option Mp} (h:FRm w mf fr) {t:T} (hs:∀ j,fr j≠none->has t j=true) (hn:t.length<=100000) {i:Int} (hi:I64 i) (u:Mp) :
  ∃ w',(Instr.mapUpdate tFresh (.map (some mf)) (.int .i64 i) (.agg u.cs.toArray)).run Tryz.prog w=.ok () w'∧FRm w' mf (upd fr i (some u))∧w.grownBy w' (some mf):=by
 obtain ⟨es,h1,h2⟩:=h;have hle:=es_le (t:=t) h1.rises fun j hj=>hs j fun e=>by rw [h2,e] at hj;exact hj rfl
 obtain ⟨w',hrun,hm,hg⟩:=h1.store und_fresh hi (.agg u.cs.toArray) (by have:=vput_len i (.agg u.cs.toArray) es;omega);refine ⟨w',hrun,⟨_,hm,fun j=>?_⟩,hg⟩;rw [omap.look_put];unfold upd;by_cases e:j=i
 ·rw [if_pos e,if_pos e];rfl
 ·rw [if_neg e,if_neg e,h2]
theorem FRm.kb {w w':World} {mf:Nat} {fr:Int->Option Mp} (h:FRm w mf fr) (hg:w.grownBy w' (some mf)):KB w w':=KB.of_grown hg fun j o e ho=>by
 obtain rfl:=Option.some.inj e;obtain ⟨es,h1,-⟩:=h;obtain ⟨o',h4,h5⟩:=h1.kind;rw [ho] at h4;cases h4;exact h5
theorem TurnP.growNew {S S':Bset} {w w1 w2:World} {row:Option Nat} (h:TurnP S S' w w1) (hg:w1.grownBy w2 row) (hr:∀ k,row=some k->w.heap.size<=k):TurnP S S' w w2:=
 ⟨hg.os.trans h.os,hg.tape.trans h.tape,hg.output.trans h.output,Nat.le_trans h.size hg.size,fun k hk hn=>⟨(h.far k hk hn).1,(hg.block k (Nat.lt_of_lt_of_le hk h.size) fun e=>by have:=hr k e.symm;omega).trans (h.far k hk hn).2⟩⟩
theorem TurnP.setNew {S S':Bset} {w w1:World} {a:Addr} (h:TurnP S S' w w1) (hn:w.heap.size<=a.block) (u:Value):TurnP S S' w (w1.setCell a u):=
 ⟨h.os,h.tape,h.output,by simpa [World.setCell] using h.size,fun k hk hk2=>⟨(h.far k hk hk2).1,(Below.heap_setCell w1 a u k (by omega)).trans (h.far k hk hk2).2⟩⟩
structure StJ (g b m:Nat) (s:Sh) (Z:ZZ) (x x':PSc) (i d:Bool) (w:World):Prop where
 no:d=false->SceneAt w g b m s Z x
 yes:d=true->SceneAt w g b m s Z x'
 o:d=true->i=true
theorem StJ.lo {g b m:Nat} {s:Sh} {Z:ZZ} {x x':PSc} {i d:Bool} {w:World} (h:StJ g b m s Z x x' i d w) (hi:i=false):SceneAt w g b m s Z x:=h.no (by
 cases hd:d with
 | false=>rfl
 | true=>have:=h.o hd;rw [hi] at this;cases this)
theorem StJ.fi {g b m:Nat} {s:Sh} {Z:ZZ} {x x':PSc} {i d:Bool} {w:World} (h:StJ g b m s Z x x' i d w):StJ g b m s Z x x' true d w:=⟨h.no,h.yes,fun _=>rfl⟩
theorem ranges_of {H:Type} {P:Program} {k:TypeId} {R:Value->Option (DataW H×List MemPlace)} {w w':World} {b r n:Nat} {D:DataW H} {left:Lit->Bool} {cnt:Nat} (h:w.ranges P k R b r n D left cnt) (h1:w'.heap[b]?=w.heap[b]?) (h2:w'.heap[r]?=w.heap[r]?):w'.ranges P k R b r n D left cnt:=by
 obtain ⟨es,clock,since,seen,c0,hb,F,hs,hD,hr,rest⟩:=h;exact ⟨es,clock,since,seen,c0,h1.trans hb,F,hs,hD,h2.trans hr,rest⟩
def One (k:Nat):Bset:=fun q=>q=k
def Two2 (k j:Nat):Bset:=fun q=>q=k∨q=j
def StI1 (x:PSc) (rs:List RwV) (mf:Nat) (w3:World) (k:Nat) (W:World):Prop:=∃ fr,TurnP (One mf) (One mf) w3 W∧FRm W mf fr∧FrI x (((rs.map (fun q:RwV=>q.l)).reverse.take k).flatten) fr
def StX1 (x:PSc) (mf rc:Nat) (w3:World) (co:Code) (W:World):Prop:=co=.ret∧TurnP (Two2 mf rc) (Two2 mf rc) w3 W∧BlkT W rc [.int .i64 35] 26∧∃ i,has x.t i=true∧worldOf x.t x.nd i=none
section
variable {w:World} {g b m:Nat} {s:Sh} {Z:ZZ} {x:PSc}
theorem settle_any (h:SceneAt w g b m s Z x) (hn:x.t.length<=900) (hg:Good x) (l:List OpR) (A:Option Addr) (c:Nat) (ho:OpsAt (SFoot b m s x.t) w A l) (hok:∀ q∈l,OpOk q.o) (hl:l.length<=1024) (hst:Settled x (tch (l.map (·.o)))) :
  Calls Tryz.prog 74 #[.pointer (some ⟨g,0,none⟩),.slice A l.length c] w (SetQ g b m Z s x (setSt x) w):=by
 have HS:=Hd h;have HN:=Hd hn;have HG:=Hd hg;have HO:=Hd ho;have HOK:=Hd hok;have HL:=Hd hl;have HST:=Hd hst;have hmf:=fun w=>make_fresh w;clear h hn hg ho hok hl hst;refine calls_of_marks Tryz.func74 rfl ?_;simp only [Tryz.ntmps74,List.size_toArray,List.length_cons,List.length_nil,Nat.reduceAdd,Nat.reduceSub,Array.replicate_succ,Array.replicate_zero,List.push_toArray,List.append_toArray,List.nil_append,List.cons_append]
 go_upto_region 2 with (fail)
 clear hmf;have hb0:Below w.heap.size w ((((w.alloc (.cells #[.pointer (some ⟨g,0,none⟩)] 25)).alloc (.cells #[.int .i64 0] 26)).alloc (.map #[] 0)).alloc (.cells #[.map (some (w.heap.size+1+1))] tFresh)):=(((bR.alloc nR _).alloc (by simp) _).alloc (by simp;omega) _).alloc (by simp;omega) _;have HB0:=Hd hb0;have HSZ:Hid (((((w.alloc (.cells #[.pointer (some ⟨g,0,none⟩)] 25)).alloc (.cells #[.int .i64 0] 26)).alloc (.map #[] 0)).alloc (.cells #[.map (some (w.heap.size+1+1))] tFresh)).heap.size=w.heap.size+4):=by show _=_;simp
 have HKB:Hid (BlkT ((((w.alloc (.cells #[.pointer (some ⟨g,0,none⟩)] 25)).alloc (.cells #[.int .i64 0] 26)).alloc (.map #[] 0)).alloc (.cells #[.map (some (w.heap.size+1+1))] tFresh)) w.heap.size [.pointer (some ⟨g,0,none⟩)] 25):=BlkT.al (BlkT.al (BlkT.al (BlkT.new w [.pointer (some ⟨g,0,none⟩)] _) _) _) _
 have HKR:Hid (BlkT ((((w.alloc (.cells #[.pointer (some ⟨g,0,none⟩)] 25)).alloc (.cells #[.int .i64 0] 26)).alloc (.map #[] 0)).alloc (.cells #[.map (some (w.heap.size+1+1))] tFresh)) (w.heap.size+1) [.int .i64 0] 26):=by
  have:=(BlkT.new (w.alloc (.cells #[.pointer (some ⟨g,0,none⟩)] 25)) [.int .i64 0] 26)
  rw [World.size_alloc] at this;exact BlkT.al (BlkT.al this _) _
 have HMF:Hid (FRm ((((w.alloc (.cells #[.pointer (some ⟨g,0,none⟩)] 25)).alloc (.cells #[.int .i64 0] 26)).alloc (.map #[] 0)).alloc (.cells #[.map (some (w.heap.size+1+1))] tFresh)) (w.heap.size+1+1) (fun _=>none)):=by
  have:=VM.made ((w.alloc (.cells #[.pointer (some ⟨g,0,none⟩)] 25)).alloc (.cells #[.int .i64 0] 26));rw [World.size_alloc,World.size_alloc] at this;exact ⟨[],this.below (bR.alloc nR _),fun j=>by simp [omap.look_nil]⟩
 have HKF:Hid (BlkT ((((w.alloc (.cells #[.pointer (some ⟨g,0,none⟩)] 25)).alloc (.cells #[.int .i64 0] 26)).alloc (.map #[] 0)).alloc (.cells #[.map (some (w.heap.size+1+1))] tFresh)) (w.heap.size+1+1+1) [.map (some (w.heap.size+1+1))] tFresh):=by
  have:=(BlkT.new (((w.alloc (.cells #[.pointer (some ⟨g,0,none⟩)] 25)).alloc (.cells #[.int .i64 0] 26)).alloc (.map #[] 0)) [.map (some (w.heap.size+1+1))] tFresh)
  rw [World.size_alloc,World.size_alloc,World.size_alloc] at this;exact this
 clear hb0;generalize ((((w.alloc (.cells #[.pointer (some ⟨g,0,none⟩)] 25)).alloc (.cells #[.int .i64 0] 26)).alloc (.map #[] 0)).alloc (.cells #[.map (some (w.heap.size+1+1))] tFresh))=W0 at *
 obtain ⟨fb,hfb⟩:∃ fb,w.heap.size+1+1+1=fb:=⟨_,rfl⟩
 obtain ⟨mf,hmf⟩:∃ mf,w.heap.size+1+1=mf:=⟨_,rfl⟩
 obtain ⟨rc,hrc⟩:∃ rc,w.heap.size+1=rc:=⟨_,rfl⟩
 have HNO:Hid (rc=w.heap.size+1∧mf=w.heap.size+2∧fb=w.heap.size+3):=⟨by omega,by omega,by omega⟩
 rw [hfb,hmf] at HKF;rw [hmf] at HMF;rw [hrc] at HKR;rw [hfb,hmf,hrc];clear hfb hmf hrc;have HSC:=Hd (stale_any (w:=W0) (fun W hb=>HS.out.below (HB0.out.trans (hb.mono HB0.out.size))) HN.out l A c (HO.out.turn (TurnP.below HB0.out)) HOK.out HL.out);unfold StQ at HSC;have c0:=HKB.out.blk.cell 0;have i0:=HKB.out.inside;simp only [List.getElem?_cons_zero] at c0;go_wp2_with (fail);refine HSC.out.mono ?_;rintro e w2 ⟨U,uc,rs,Sn,rfl,hu,hr,hsti,hrl,hb2⟩;have HSTI:=Hd hsti;have HU:=Hd hu;have HR:=Hd hr;have HRL:=Hd hrl;have HB2:=Hd hb2;clear hsti hu hr hrl hb2 HSC c0 i0;go_wp2_with (fail)
 refine (backr_call U rs.length uc w2).mono ?_;rintro e w3 ⟨rfl,hw3⟩;have hb3:Below w2.heap.size w2 w3:=by rw [hw3];exact bR.alloc nR _
 have hx3:BlkT w3 w2.heap.size [.slice U rs.length uc] 223:=by rw [hw3];exact BlkT.new w2 _ _
 obtain ⟨bx,hbx⟩:∃ bx,w2.heap.size=bx:=⟨_,rfl⟩
 have HBX:Hid (W0.heap.size<=bx∧bx<w3.heap.size):=by rw [← hbx];exact ⟨HB2.out.size,hx3.inside⟩
 rw [hbx] at hx3;have HX3:=Hd hx3;have HB03:Hid (Below W0.heap.size W0 w3):=HB2.out.trans (hb3.mono HB2.out.size);have HBW3:=Hd (HB0.out.trans (HB03.out.mono HB0.out.size));have HU3:=Hd (SOwn.below HU.out hb3);have HR3:Hid (∀ q∈rs,IOwn w3 W0.heap.size q.v q.l):=fun q hq=>SOwn.below (HR.out q hq) hb3;have HNB:Hid (∀ k,One mf k->w.heap.size<=k∧k<W0.heap.size):=fun k e=>by have:=HNO.out;have:=HSZ.out;unfold One at e;omega
 have HNB2:Hid (∀ k,Two2 mf rc k->w.heap.size<=k∧k<W0.heap.size):=fun k e=>by have:=HNO.out;have:=HSZ.out;unfold Two2 at e;omega
 have FBW:Hid (∀ W,TurnP (Two2 mf rc) (Two2 mf rc) w3 W->Below w.heap.size w W):=fun W ht=>HBW3.out.trans (ht.to_below HBW3.out.size fun k e=>(HNB2.out k e).1);have FUP:Hid (∀ W,TurnP (One mf) (One mf) w3 W->TurnP (Two2 mf rc) (Two2 mf rc) w3 W):=fun W ht=>ht.up fun k e=>.inl e
 have FBK:Hid (∀ W,TurnP (Two2 mf rc) (Two2 mf rc) w3 W->BackR bx U uc (rs.map RwV.v) W):=fun W ht=>by
  have hne:∀ k,W0.heap.size<=k->¬ Two2 mf rc k:=fun k hk e=>by have:=(HNB2.out k e).2;omega
  refine ⟨?_,fun j hj=>?_⟩
  ·have:=(HX3.out.stays (ht.far bx HBX.out.2 (hne _ HBX.out.1)).2).blk.cell 0;rw [List.length_map];exact this
  ·rw [List.length_map] at hj;have hu:RwOwn W W0.heap.size (.slice U rs.length uc) rs:=SOwn.stays HU3.out fun k hk=>(ht.far k (SOwn.block HU3.out hk).2 (hne _ (SOwn.block HU3.out hk).1)).2;obtain ⟨g9,c9,e9,-,-,hrow⟩:=SOwn.row0 hu RwV.cs_len (by omega)
   injection e9 with e9 _ _
   obtain ⟨b9,o9,e8,hc⟩:=hrow (by omega)
   injection e8 with e8
   injection e8 with e8 e7
   refine ⟨g9,e9,?_⟩;have:=hc j hj 0 (rs[j].v) rfl;rw [← e8,← e7] at this
   simpa using this
 have FRW:Hid (∀ W,TurnP (Two2 mf rc) (Two2 mf rc) w3 W->∀ q∈rs,Row eI W q.A q.l):=fun W ht q hq=>by
  have h1:=HR3.out q hq;have h2:IOwn W W0.heap.size q.v q.l:=SOwn.stays h1 fun k hk=>(ht.far k (SOwn.block h1 hk).2 fun e=>by have:=(HNB2.out k e).2;have:=(SOwn.block h1 hk).1;omega).2;obtain ⟨A9,c9,e9,-,-,hrow⟩:=IOwn.irow h2;unfold RwV.v at e9
  injection e9 with e9 _ _
  rw [e9];exact hrow
 have FSC:Hid (∀ W,TurnP (Two2 mf rc) (Two2 mf rc) w3 W->SceneAt W g b m s Z x):=fun W ht=>HS.out.below (FBW.out W ht)
 have FCE:Hid (∀ W,TurnP (One mf) (One mf) w3 W->BlkT W w.heap.size [.pointer (some ⟨g,0,none⟩)] 25∧BlkT W fb [.map (some mf)] tFresh∧BlkT W rc [.int .i64 0] 26):=fun W ht=>by
  have h0:=HNO.out;have hst:∀ k,k<W0.heap.size->k≠mf->W.heap[k]?=W0.heap[k]?:=fun k hk hne=>(ht.far k (Nat.lt_of_lt_of_le hk HB03.out.size) hne).2.trans (HB03.out.block k hk);have k1:=HKB.out.stays (hst _ HKB.out.inside (by omega));have k2:=HKF.out.stays (hst _ HKF.out.inside (by omega));exact ⟨k1,k2,HKR.out.stays (hst _ HKR.out.inside (by omega))⟩
 have HM3:Hid (FRm w3 mf (fun _=>none)):=HMF.out.below HB03.out;have HLE:Hid ((rs.map RwV.v).length<=100000):=by show _<=_;rw [List.length_map];have:=HRL.out;rw [List.length_map] at this;have:=HL.out;omega
 rw [hbx];clear hw3 hb3 hx3 hbx HU HR HX3 HU3 HR3 HB2 HKB HKF HKR HMF;go_wp2_with (fail)
 refine wp_range (gf:=136) (lb:=#[.pointer (some ⟨bx,0,none⟩)]) rfl (enters_of Tryz.func136 (by kernel_rfl) rfl) (es:=backrE (rs.map RwV.v)) (R:=fun _=>Eq) (Kp:=fun A B=>BackR bx U uc (rs.map RwV.v) A->BackR bx U uc (rs.map RwV.v) B)
  (fun W1 hb=>backr_iter HLE.out ((FBK.out w3 (TurnP.refl _ _)).bk hb)) (fun h k x=>k (h x)) (fun A B hb h=>h.bk hb) (fun n A B e k o _ hk _=>e ▸ hk)
  (fun e he=>by obtain ⟨j,_,rfl⟩:=List.mem_map.1 he;rfl)
  (StI1 x rs mf w3) (fun co k W=>StX1 x mf rc w3 co W) (fun k A B h hr=>?hI) (fun co k A B h hr=>?hIx) ⟨_,TurnP.refl _ _,HM3.out,FrI.start x⟩ ?a1 ?assign ?body ?done ?stopd
 case hI=>
  obtain ⟨fr,h1,h2,h3⟩:=h;rcases hr with ⟨n,hn,rfl⟩ | hb
  ·exact ⟨fr,h1,h2,h3⟩
  ·exact ⟨fr,h1.bk hb nR,h2.bk hb,h3⟩
 case hIx=>
  obtain ⟨h1,h2,h3,h4⟩:=h;rcases hr with ⟨n,hn,rfl⟩ | hb
  ·exact ⟨h1,h2,h3,h4⟩
  ·exact ⟨h1,h2.bk hb nR,h3.bk hb,h4⟩
 case assign=>
  intro l j hj W9 KK hKK;rw [backrE_at]
  gi_wp2_with (fail)
  exact hKK
 case stopd=>
  rintro D co k W9 hD hle ⟨rfl,ht,hrc,i,hi,hw⟩ hd;have HT:=Hd ht;have HRC:=Hd hrc;have HE:Hid (setSt x=(x,35)):=setSt_bad hi hw;clear ht hrc hi hw;go_wp2_with (fail)
  refine postM_ret w3.heap.size ⟨⟨D,rfl,hD,hd,by simp⟩,trivial⟩ fun w' hb=>⟨_,results_cell_err rfl _ _ rfl ((HRC.out.bk hb).blk.cell 0),?_⟩
  rw [HE.out];have h1:=FBW.out _ HT.out;exact ⟨s,rfl,(FSC.out _ HT.out).bk hb,TurnP.below (h1.trans (hb.below HBW3.out.size h1.size))⟩
 case body=>
  rintro l2 j hj W9 ⟨fr,h1,h2,h3⟩;rw [backrE_len,List.length_map] at hj
  obtain ⟨q,hq⟩:∃ q,rs[rs.length - 1 - j]?=some q:=⟨_,List.getElem?_eq_getElem (by omega)⟩
  have HQM:Hid (q∈rs):=List.mem_of_getElem? hq;have hv:(Option.map RwV.v rs[rs.length - 1 - j]?).getD undef=.slice q.A q.l.length q.c:=by rw [hq];rfl
  have HFR:Hid (∀ k (hk:k<q.l.length),∃ post,(rs.map (fun q:RwV=>q.l)).reverse.flatten=(((rs.map (fun q:RwV=>q.l)).reverse.take j).flatten++q.l.take k)++q.l[k]::post):=fun k hk=>flat_rest hj hq hk;have HFS:Hid (((rs.map (fun q:RwV=>q.l)).reverse.take (j+1)).flatten=((rs.map (fun q:RwV=>q.l)).reverse.take j).flatten++q.l):=flat_step hj hq;have HQ64:Hid (∀ i∈q.l,I64 i):=fun i hi=>has_64 HS.out.tree.ok (HSTI.out.hs i ((HSTI.out.mem i).2 ⟨q.l,List.mem_map.2 ⟨q,HQM.out,rfl⟩,hi⟩))
  have HQL:Hid (q.l.length<=x.t.length+1):=by
   have hnd:q.l.Nodup:=(List.pairwise_flatten.1 HSTI.out.nd).1 q.l (by rw [List.mem_reverse];exact List.mem_map.2 ⟨q,HQM.out,rfl⟩)
   have:=len_of_sub (m:=0::ids x.t) hnd fun i hi=>by
    rcases has_iff.1 (HSTI.out.hs i ((HSTI.out.mem i).2 ⟨q.l,List.mem_map.2 ⟨q,HQM.out,rfl⟩,hi⟩)) with e | e
    ·exact List.mem_cons.2 (.inl e)
    ·exact List.mem_cons_of_mem _ e
   rwa [List.length_cons,ids_len] at this
  rw [hv];clear hv hq hj;generalize ((rs.map (fun q:RwV=>q.l)).reverse.take j).flatten=pre at *;have HT9:=Hd h1;have HM9:=Hd h2;have HF9:=Hd h3;clear h1 h2 h3;have hqb:(q.l.length:Int)<=100000:=by have:=HQL.out;have:=HN.out;omega
  gi_wp2_with (fail)
  gi_loopw [23] (fun x23 wr=>∃ (j2:Nat) (fr:Int->Option Mp),j2<=q.l.length∧x23=.int .i64 j2∧Hid (TurnP (One mf) (One mf) w3 wr)∧Hid (FRm wr mf fr)∧Hid (FrI x (pre++q.l.take j2) fr)∧Hid (KB W9 wr)) (fun x23 _=>q.l.length - (intOf x23).toNat)
  case atStart=>exact ⟨0,fr,Nat.zero_le _,rfl,HT9.out,HM9.out,by show FrI _ _ _;simpa using HF9.out,KB.refl _⟩
  case round=>
   obtain ⟨j2,fr2,hj2,rfl,HT,HM,HF,HK⟩:=hrel;generalize wr=wA at *;clear HT9 HM9 HF9;by_cases hlt:j2<q.l.length
   ·have t1:decide (j2<q.l.length)=true:=by simpa using hlt
    have HLT:=Hd hlt;obtain ⟨rb,ro,rA,rcell⟩:=(FRW.out wA (FUP.out _ HT.out) q HQM.out).at_ hlt
    obtain ⟨i,hi⟩:∃ i,i=q.l[j2]'hlt:=⟨_,rfl⟩
    have HI64:Hid (I64 i):=by rw [hi];exact HQ64.out _ (List.getElem_mem hlt)
    have HPO:Hid (∃ post,(rs.map (fun q:RwV=>q.l)).reverse.flatten=(pre++q.l.take j2)++i::post):=by rw [hi];exact HFR.out j2 hlt
    have HTK:Hid (q.l.take (j2+1)=q.l.take j2++[i]):=by rw [hi];exact List.take_succ_eq_append_getElem hlt
    have HRK:=Hd (reckon_any (FSC.out wA (FUP.out _ HT.out)) i HI64.out HM.out)
    have HSP:Hid (((reckonS x fr2 i).2=0∧FrI x ((pre++q.l.take j2)++[i]) (upd fr2 i (some (reckonS x fr2 i).1)))∨((reckonS x fr2 i).2=35∧has x.t i=true∧worldOf x.t x.nd i=none)):=by
     obtain ⟨post,hp⟩:=HPO.out;exact HF.out.step HS.out.tree.ok HG.out HSTI.out HST.out hp
    obtain ⟨R,hR⟩:∃ R,reckonS x fr2 i=R:=⟨_,rfl⟩
    rw [hR] at HRK HSP;obtain ⟨RM,RE⟩:=R;have hic:wA.cell? ⟨rb,ro+j2,none⟩=some (.int .i64 i):=by rw [hi];exact rcell
    obtain ⟨k0,k1,-⟩:=FCE.out wA HT.out;have c0:=k0.blk.cell 0;have i0:=k0.inside;have c1:=k1.blk.cell 0;have i1:=k1.inside;simp only [List.getElem?_cons_zero] at c0 c1;clear k0 k1;clear hi hR hlt rcell;unfold Mp.cs at HRK
    dsimp only at HRK HSP
    have HPH:Hid (∀ j,fr2 j≠none->has x.t j=true):=fun j hj=>by
     by_cases hm:j∈pre++q.l.take j2
     ·obtain ⟨post,hp⟩:=HPO.out;have:j∈(rs.map (fun q:RwV=>q.l)).reverse.flatten:=by rw [hp];exact List.mem_append_left _ hm
      obtain ⟨r,h1,h2⟩:=List.mem_flatten.1 this;exact HSTI.out.hs j ((HSTI.out.mem j).2 ⟨r,List.mem_reverse.1 h1,h2⟩)
     ·exact absurd (HF.out.no j hm) hj
    clear HPO
    gi_wp2_with (fail)
    refine ⟨trivial,rfl,CallsIn.inRound l2 ((callsIn_wide (n:=0)).2 (HRK.out.mono ?_))⟩;rintro e wB ⟨rfl,hbB⟩;obtain ⟨u1,u2,u3,u4,u5,u6⟩:=RM
    dsimp only at HSP ⊢
    have hbC:Below wB.heap.size wB (wB.alloc (.cells (Vf u1 u2 u3 u4 u5 u6).toArray 65)):=bR.alloc nR _;have HBC:Hid (Below wA.heap.size wA (wB.alloc (.cells (Vf u1 u2 u3 u4 u5 u6).toArray 65))):=hbB.trans (hbC.mono hbB.size);clear hbB hbC HRK c0 i0 c1 i1 hic;have HTC:Hid (TurnP (One mf) (One mf) w3 (wB.alloc (.cells (Vf u1 u2 u3 u4 u5 u6).toArray 65))):=HT.out.trans (TurnP.below HBC.out);have HMC:=Hd (HM.out.below HBC.out);have HKC:Hid (KB W9 (wB.alloc (.cells (Vf u1 u2 u3 u4 u5 u6).toArray 65))):=HK.out.trans (KB.below HBC.out);obtain ⟨-,k1,crc⟩:=FCE.out _ HTC.out
    have c1:=k1.blk.cell 0;have i1:=k1.inside;simp only [List.getElem?_cons_zero] at c1;clear k1;have HCR:=Hd crc;clear crc;rcases HSP.out with ⟨rfl,hfr⟩ | ⟨rfl,hxi,hwi⟩
    ·have HFC:=Hd hfr;obtain ⟨wD,hrun,hmD,hgD⟩:=HMC.out.put HPH.out (by have:=HN.out;omega) HI64.out ⟨u1,u2,u3,u4,u5,u6⟩;have HTD:Hid (TurnP (One mf) (One mf) w3 wD):=HTC.out.trans (TurnP.grown hgD fun k e=>(Option.some.inj e).symm);have HMD:=Hd hmD;have HKD:Hid (KB W9 wD):=HKC.out.trans (HMC.out.kb hgD);have HFD:Hid (FrI x (pre++q.l.take (j2+1)) (upd fr2 i (some ⟨u1,u2,u3,u4,u5,u6⟩))):=by rw [HTK.out,← List.append_assoc];exact HFC.out
     clear hfr hmD hgD HSP HMC HTC HKC HFC HM HT HK HF HBC HCR HPH;unfold Mp.cs at hrun
     gi_wp2_with (fail)
     go_roundw
     case rel=>exact ⟨_,_,_,_,⟨j2+1,HLT.out,by go_num,_,HMD,HFD⟩,rfl,rfl,rfl,rfl⟩
     case measure=>have:=HLT.out;simp [intOf];omega
    ·have HX:=Hd (And.intro hxi hwi);have f0:=HCR.out.blk.free 0;have c0:=HCR.out.blk.cell 0;have i0:=HCR.out.inside;simp only [List.getElem?_cons_zero] at c0;clear hxi hwi HSP HM HT HK HF HBC HPH
     have HEND:Hid (KB W9 ((wB.alloc (.cells (Vf u1 u2 u3 u4 u5 u6).toArray 65)).setCell ⟨rc,0,none⟩ (.int .i64 35))∧StX1 x mf rc w3 .ret ((wB.alloc (.cells (Vf u1 u2 u3 u4 u5 u6).toArray 65)).setCell ⟨rc,0,none⟩ (.int .i64 35))):=
      ⟨HKC.out.trans (KB.set (a:=⟨rc,0,none⟩) HCR.out rfl _),rfl,(FUP.out _ HTC.out).trans (TurnP.set (a:=⟨rc,0,none⟩) (.inr rfl) _),HCR.out.set 0 _,i,HX.out⟩
     gi_wp2_with (fail)
     exact HEND.out
   ·obtain rfl:j2=q.l.length:=by omega
    have t1:decide (q.l.length<q.l.length)=false:=by simp
    have HI:Hid (StI1 x rs mf w3 (j+1) wA):=⟨fr2,HT.out,HM.out,by rw [HFS.out];have:=HF.out;rwa [List.take_length] at this⟩
    have HKP:Hid (BackR bx U uc (rs.map RwV.v) wA):=FBK.out _ (FUP.out _ HT.out);clear hlt
    gi_wp2_with (fail)
    exact ⟨HK.out,fun _=>HKP.out,HI.out⟩
 case done=>
  rintro D W9 hD ⟨fr,h1,h2,h3⟩ hd;rw [backrE_len,List.length_map,List.take_of_length_le (by simp)] at h3;have HDN:=Hd (h3.done HS.out.tree.ok HSTI.out HST.out);have HT9:=Hd h1;have HM9:=Hd h2;have HD9:=Hd hd
  have HPH:Hid (∀ j,fr j≠none->has x.t j=true):=fun j hj=>by
   by_cases hm:j∈(rs.map (fun q:RwV=>q.l)).reverse.flatten
   ·obtain ⟨r,h4,h5⟩:=List.mem_flatten.1 hm;exact HSTI.out.hs j ((HSTI.out.mem j).2 ⟨r,List.mem_reverse.1 h4,h5⟩)
   ·exact absurd (h3.no j hm) hj
  obtain ⟨k0,k1,k2⟩:=FCE.out _ h1;have HK0:=Hd k0;have HK2:=Hd k2;have c1:=k1.blk.cell 0;have i1:=k1.inside;simp only [List.getElem?_cons_zero] at c1;have HSI:Hid (∀ k,SFoot b m s x.t k->k<w.heap.size):=HS.out.inside;have HZI:Hid (∀ k,Z.3 k->k<w.heap.size):=fun k hk=>(HS.out.old k hk).1;have HW9:=Hd (FBW.out _ (FUP.out _ h1));have HS9:=Hd (FSC.out _ (FUP.out _ h1));have HL3:Hid (w3.heap.size<=W9.heap.size):=h1.size;clear h1 h2 h3 hd k0 k1 k2;obtain ⟨es,hvm,hvl⟩:=HM9.out;have HVM:=Hd hvm;have HVL:=Hd hvl;have hown:=hvm.own;clear hvm hvl FBK FRW FSC FCE FBW FUP HM3 HLE HBX HM9 HT9
  go_wp2_with (at_range;refine wpList_range_own _ rfl _ tFresh rfl 3 65 keyedI und_fresh anyE mf es.length (mapV es) rfl hown ?_;intro w0 hrg0 hg0 hs0)
  go_frame
  obtain ⟨r,hr⟩:∃ r,W9.heap.size=r:=⟨_,rfl⟩
  have HR:Hid (r=W9.heap.size):=hr.symm;rw [hr] at hrg0 ⊢;have HRG:=Hd hrg0;have hw0:Below w.heap.size w w0:=HW9.out.trans ⟨hg0.os,hg0.tape,hg0.output,hg0.size,fun k hk=>hg0.block k (Nat.lt_of_lt_of_le hk HW9.out.size) (by simp)⟩
  have HS0:Hid (SceneAt w0 g b m s ⟨Z.1,Z.2,fun k=>Z.3 k∨(w.heap.size<=k∧k<=r)⟩ x):=HS.out.part (fun k h1 _=>hw0.block k h1) fun k hk=>by
   have h2:=hg0.size;have h3:=hs0;rcases hk with e | e
   ·exact ⟨Nat.lt_of_lt_of_le (HS.out.old k e).1 hw0.size,.inl e⟩
   ·exact ⟨by omega,.inr e.1⟩
  have HT0:Hid (TurnP (SFoot b m s x.t) (SFoot b m s x.t) W9 w0):=⟨hg0.os,hg0.tape,hg0.output,hg0.size,fun k hk hn=>⟨hn,hg0.block k hk (by simp)⟩⟩
  clear hrg0 hg0 hs0 hr c1 i1 hown hw0
  go_loopw [] (fun wr=>∃ (left:Lit->Bool) (cnt:Nat),Hid (wr.ranges Tryz.prog 3 anyE mf r es.length (mapV es) left cnt)∧Hid (SceneAt wr g b m s ⟨Z.1,Z.2,fun k=>Z.3 k∨(w.heap.size<=k∧k<=r)⟩ ⟨x.t,x.nd,mixW x.ws fr left⟩)∧Hid (TurnP (SFoot b m s x.t) (SFoot b m s x.t) W9 wr)) (fun wr=>wr.rangeLeft mf r)
  case atStart=>
   refine ⟨_,_,HRG.out,HS0.out.like ⟨HS0.out.tree.ok,fun _=>rfl,fun _ _=>rfl,fun i hi=>?_⟩,HT0.out⟩;show mixW x.ws fr _ i=x.ws i;unfold mixW;by_cases h:Maps.has (mapV es) (.int .i64 i)=true
   ·rw [if_pos h]
   ·rw [if_neg h];have h2:=HVL.out i;rw [has_mapV] at h;cases hl:omap.look es i with
    | none=>
     rw [hl] at h2;cases hf:fr i with
     | none=>rfl
     | some u=>rw [hf] at h2;cases h2
    | some v=>rw [hl] at h;exact absurd rfl h
  case round=>
   obtain ⟨left,cnt,hrg,hsc,htw⟩:=hrel;generalize wr=wA at *;clear HRG HS0 HT0;go_wp2_with (at_next;refine wpList_next_ranges _ rfl _ rfl 3 keyedI anyE (Value.int .i64) id (fun key kl hk=>by obtain ⟨x,hx,_⟩:=Maps.keyOf_int_inv Tryz.underlying3 hk;exact ⟨x,hx⟩) (fun v y hv=>⟨v,rfl⟩) mf r es.length (mapV es) left cnt rfl hrg.out ?_ ?_)
   ·intro _ hl0;have HL0:=Hd hl0;have k2:BlkT wA rc [.int .i64 0] 26:=HK2.out.off (fun e=>by have:=HSI.out _ e;have:=HNO.out;omega) htw.out;have f0:=k2.blk.free 0;have c0:=k2.blk.cell 0;have i0:=k2.inside;simp only [List.getElem?_cons_zero] at c0;have HB2:Hid (BlkT (wA.setCell ⟨rc,0,none⟩ (.int .i64 0)) rc [.int .i64 0] 26):=k2.set 0 _;have HTF:Hid (TurnP (SFoot b m s x.t) (SFoot b m s x.t) w (wA.setCell ⟨rc,0,none⟩ (.int .i64 0))):=((TurnP.below HW9.out).trans htw.out).setNew (by have:=HNO.out;show _<=rc;omega) _
    have HSF:Hid (SceneAt (wA.setCell ⟨rc,0,none⟩ (.int .i64 0)) g b m s Z (setSt x).1):=by
     have h1:SceneAt (wA.setCell ⟨rc,0,none⟩ (.int .i64 0)) g b m s ⟨Z.1,Z.2,Z.3⟩ ⟨x.t,x.nd,mixW x.ws fr left⟩:=hsc.out.part (fun k _ hk=>Below.heap_setCell wA ⟨rc,0,none⟩ _ k fun e=>hk (.inr ⟨by have e':k=rc:=e;have:=HNO.out;omega,by have e':k=rc:=e;have:=HNO.out;have:=HR.out;have:=HK2.out.inside;omega⟩)) fun k hk=>⟨by have:=(hsc.out.old k (.inl hk)).1;simpa [World.setCell] using this,.inl (.inl hk)⟩
     rw [HDN.out.1];refine SceneAt.like h1 ⟨h1.tree.ok,fun _=>rfl,fun _ _=>rfl,fun i hi=>?_⟩;show (worldOf x.t x.nd i).getD (x.ws i)=mixW x.ws fr left i;unfold mixW;rw [if_neg (by rw [HL0.out];simp),HDN.out.2 i hi]
    have HDD:Hid ((wA.setCell ⟨rc,0,none⟩ (.int .i64 0)).heap[D]?=some (.deferred (some []))):=by
     have h1:D<W9.heap.size:=(Array.getElem?_eq_some_iff.1 HD9.out).1;have h2:¬ SFoot b m s x.t D:=fun e=>by have:=HSI.out _ e;have:=HBW3.out.size;omega
     have h3:=(htw.out.far D h1 h2).2.trans HD9.out;exact (Below.heap_setCell wA ⟨rc,0,none⟩ _ D (fun e=>by have e':D=rc:=e;have:=HNO.out;have:=HSZ.out;have:=HB03.out.size;omega)).trans h3
    have HZ:Hid ((setSt x).2=0):=by show _=_;rw [HDN.out.1]
    clear hl0 k2;go_wp2_with (fail)
    refine postM_ret w3.heap.size ⟨⟨D,rfl,hD,HDD.out,by simp⟩,trivial⟩ fun w' hb=>⟨_,results_cell_err rfl _ _ rfl ((HB2.out.bk hb).blk.cell 0),?_⟩
    rw [← HZ.out];refine ⟨s,rfl,HSF.out.bk hb,?_⟩;rw [setSt_t];exact HTF.out.bk hb HBW3.out.size
   ·intro x2 c2 kl yd yp w2 cnt1 hkey hlk hv hat hrg1 hlt hg1 hs1 hen;obtain ⟨rfl,hx64,hlb⟩:=cameV hkey hv hat
    obtain ⟨u,hu,rfl⟩:∃ u,fr x2=some u∧c2=.agg u.cs.toArray:=by
     have h2:=HVL.out x2;rw [hlb] at h2;cases hf:fr x2 with
     | none=>rw [hf] at h2;cases h2
     | some u=>rw [hf] at h2;exact ⟨u,rfl,Option.some.inj h2⟩
    have HX64:=Hd hx64;have HHX:Hid (has x.t x2=true):=HPH.out x2 (by rw [hu];simp);have HMX:Hid (upd (mixW x.ws fr left) x2 u=mixW x.ws fr (fun z=>left z && !z.sameKey (.int .i64 x2))):=mixW_step x.ws fr left hu;have HRG1:=Hd hrg1;have HME:Hid (w2.rangeLeft mf r<wA.rangeLeft mf r):=by show _<_;rw [hrg1.left_eq,hrg.out.left_eq];exact hlt
    have HT2:Hid (TurnP (SFoot b m s x.t) (SFoot b m s x.t) W9 w2):=htw.out.growNew hg1 fun k e=>by have:=Option.some.inj e;have:=HR.out;omega
    have HS2:Hid (SceneAt w2 g b m s ⟨Z.1,Z.2,fun k=>Z.3 k∨(w.heap.size<=k∧k<=r)⟩ ⟨x.t,x.nd,mixW x.ws fr left⟩):=hsc.out.part (fun k hk hn=>hg1.block k hk fun e=>hn (.inr (by have e':k=r:=Option.some.inj e;have:=HR.out;have:=HW9.out.size;omega))) fun k hk=>⟨Nat.lt_of_lt_of_le (hsc.out.old k hk).1 hg1.size,.inl hk⟩
    have hbC:Below w2.heap.size w2 (w2.alloc (.cells (Vf u.a u.b u.c u.d u.e u.f).toArray 65)):=bR.alloc nR _;have HKC:Hid (Blk (w2.alloc (.cells (Vf u.a u.b u.c u.d u.e u.f).toArray 65)) w2.heap.size u.cs):=blk_new w2 u.cs _;have HBC:=Hd hbC;have HL2:Hid (w.heap.size<=w2.heap.size):=Nat.le_trans HW9.out.size HT2.out.size;unfold Mp.cs at hen;clear hkey hlk hv hat hrg1 hlt hg1 hs1 hlb hx64 hu hbC
    go_upto_region 15 with (fail)
    generalize (w2.alloc (.cells (Vf u.a u.b u.c u.d u.e u.f).toArray 65))=wC at *
    obtain ⟨k13,hk13⟩:∃ k13,w2.heap.size=k13:=⟨_,rfl⟩
    have HL13:Hid (w.heap.size<=k13):=by rw [← hk13];exact HL2.out
    rw [hk13] at HKC ⊢;have HSC2:Hid (SceneAt wC g b m s ⟨Z.1,Z.2,fun k=>Z.3 k∨(w.heap.size<=k∧k<=r)⟩ ⟨x.t,x.nd,mixW x.ws fr left⟩):=HS2.out.below HBC.out;have HTC:Hid (TurnP (SFoot b m s x.t) (SFoot b m s x.t) W9 wC):=HT2.out.trans (TurnP.below HBC.out);have HRC1:Hid (wC.ranges Tryz.prog 3 anyE mf r es.length (mapV es) (fun z=>left z && !z.sameKey (.int .i64 x2)) cnt1):=HRG1.out.kept (below_grown HBC.out) (by simp) (by simp);have HME2:Hid (wC.rangeLeft mf r<wA.rangeLeft mf r):=by show _<_;rw [HRC1.out.left_eq,← HRG1.out.left_eq];exact HME.out
    clear hk13 HL2 HS2 HT2 HRG1 HBC HME hen hrg hsc htw;obtain ⟨An,cn,hlk⟩:=HSC2.out.look_b HX64.out HHX.out;have HKB:Hid (BlkT wC w.heap.size [.pointer (some ⟨g,0,none⟩)] 25):=HK0.out.off (fun e=>by have:=HSI.out _ e;omega) HTC.out
    have HBB:Hid (∀ W,TurnP (SFoot b m s x.t) (SFoot b m s x.t) wC W->Blk W w.heap.size [.pointer (some ⟨g,0,none⟩)]∧Blk W k13 u.cs):=fun W ht=>⟨(HKB.out.off (fun e=>by have:=HSI.out _ e;omega) ht).blk,HKC.out.stays (ht.far k13 HKC.out.inside fun e=>by have:=HSI.out _ e;have:=HL13.out;omega).2⟩
    have HGT:=Hd HSC2.out.blk;have HNG:=Hd HSC2.out.gfar
    obtain ⟨n0,hn0⟩:∃ n0,x.nd x2=n0:=⟨_,rfl⟩
    have HND:Hid (x.nd x2=n0):=hn0;have HNF:Hid (NdOff (fun k=>Z.3 k∨(w.heap.size<=k∧k<=r)) (SFoot b m s x.t) wC n0 An):=by rw [← hn0];exact (hlk wC bR).2.2
    obtain ⟨u0,hu0⟩:∃ u0,mixW x.ws fr left x2=u0:=⟨_,rfl⟩
    have HLKA:Hid (∀ W,SceneAt W g b m s ⟨Z.1,Z.2,fun k=>Z.3 k∨(w.heap.size<=k∧k<=r)⟩ ⟨x.t,x.nd,mixW x.ws fr left⟩->∃ A c,(Instr.lookup tPlaces (.map (some m)) (.int .i64 x2) false).run Tryz.prog W=.ok (.agg (plcs n0 A c u0).toArray) W∧NdOff (fun k=>Z.3 k∨(w.heap.size<=k∧k<=r)) (SFoot b m s x.t) W n0 A):=fun W hs=>by
     obtain ⟨A,c,hl⟩:=hs.look_b HX64.out HHX.out;have h2:=hl W bR;rw [show (⟨x.t,x.nd,mixW x.ws fr left⟩:PSc).nd x2=n0 from hn0,show (⟨x.t,x.nd,mixW x.ws fr left⟩:PSc).ws x2=u0 from hu0] at h2;exact ⟨A,c,h2.1,h2.2.2⟩
    clear hlk hn0 hu0
    refine wR (TurnP (SFoot b m s x.t) (SFoot b m s x.t)) (fun L wx=>StJ g b m s ⟨Z.1,Z.2,fun k=>Z.3 k∨(w.heap.size<=k∧k<=r)⟩ ⟨x.t,x.nd,mixW x.ws fr left⟩ ⟨x.t,upd x.nd x2 n0,upd (mixW x.ws fr left) x2 u⟩ (L 10) (L 14) wx) [48,49,50,51,52,53,54,55,56,57,58,59,60,61] (fun _=>TurnP.refl _ _) (fun _ _ _ h k=>h.trans k) (fun i=>match i with
     |0|1|5|6=>rp g 0
     |2|7=>rp g 5
     |3|8=>rV (.map (some m))
     |4|9=>rV (.int .i64 x2)
     | 10=>(⟨fun v wv=>∃ A c,v=.agg (plcs n0 A c u0).toArray∧NdOff (fun k=>Z.3 k∨(w.heap.size<=k∧k<=r)) (SFoot b m s x.t) wv n0 A,fun v w1 w2 h hb=>h.elim fun A h=>h.elim fun c h=>⟨A,c,h.1,h.2.turn hb⟩⟩:regs.Say (TurnP (SFoot b m s x.t) (SFoot b m s x.t)))
     | 11=>(⟨fun v wv=>∃ A c,v=.agg (n0.cs A c).toArray∧NdOff (fun k=>Z.3 k∨(w.heap.size<=k∧k<=r)) (SFoot b m s x.t) wv n0 A,fun v w1 w2 h hb=>h.elim fun A h=>h.elim fun c h=>⟨A,c,h.1,h.2.turn hb⟩⟩:regs.Say (TurnP (SFoot b m s x.t) (SFoot b m s x.t)))
     |12=>rV (.agg (u.cs).toArray)
     | 13=>(⟨fun v wv=>∃ A c,v=.agg (plcs n0 A c u).toArray∧NdOff (fun k=>Z.3 k∨(w.heap.size<=k∧k<=r)) (SFoot b m s x.t) wv n0 A,fun v w1 w2 h hb=>h.elim fun A h=>h.elim fun c h=>⟨A,c,h.1,h.2.turn hb⟩⟩:regs.Say (TurnP (SFoot b m s x.t) (SFoot b m s x.t)))
     | _=>ra) (TurnP.below bR.drew) (⟨fun _=>HSC2.out.below bR.drew,nofun,nofun⟩) ⟨?_,?_,?_,?_,?_,?_,?_,?_,?_,?_,?_,?_,?_,?_,?_,trivial⟩ ?_
    any_goals (first|refine zp fun L a w1 hh=>?_|fail)
    have h2:=hh.p 2 w.heap.size 0;have ⟨c0,i0⟩:=((HBB.out _ hh.rel).1).ci 0 rfl;rotate_left;have h48:=rq (hh.d 0 48);rotate_left;have h49:=rq (hh.d 1 49);have i0:=((BlkT.off HGT.out HNG.out hh.rel).blk).inside;rotate_left;have h50:=rq (hh.d 2 50);have ⟨c0,i0⟩:=((BlkT.off HGT.out HNG.out hh.rel).blk).ci 5 rfl;rotate_left;have h12:=hh.o 12 (v:=.int .i64 x2) rfl;rotate_left;have h2:=hh.p 2 w.heap.size 0;have ⟨c0,i0⟩:=((HBB.out _ hh.rel).1).ci 0 rfl;rotate_left;have h53:=rq (hh.d 5 53);rotate_left;have h54:=rq (hh.d 6 54);have i0:=((BlkT.off HGT.out HNG.out hh.rel).blk).inside;rotate_left
    have h55:=rq (hh.d 7 55);have ⟨c0,i0⟩:=((BlkT.off HGT.out HNG.out hh.rel).blk).ci 5 rfl;rotate_left;have h12:=hh.o 12 (v:=.int .i64 x2) rfl;rotate_left
    ·have h56:=rq (hh.d 8 56);have h57:=rq (hh.d 9 57);obtain ⟨A8,c8,hlk,hn8⟩:=HLKA.out w1 (hh.st.lo hh.un);have hJ:=hh.j;clear hh;go_simp;exact ⟨_,rfl,TurnP.refl _ _,⟨A8,⟨c8,rfl⟩,hn8⟩,hJ.out.fi⟩
    ·obtain ⟨A8,c8,e8,hn8⟩:=(show ∃ A c,(a.tmps.getD 58 undef)=.agg (plcs n0 A c u0).toArray∧NdOff (fun k=>Z.3 k∨(w.heap.size<=k∧k<=r)) (SFoot b m s x.t) w1 n0 A from hh.d 10 58)
     have h58:a.tmps[58]?.getD undef=.agg (plcs n0 A8 c8 u0).toArray:=rq (e8);have hf1:=field_node n0 A8 c8 u0 w1;have hJ:=hh.j;clear hh;go_simp;exact ⟨_,rfl,TurnP.refl _ _,⟨A8,⟨c8,rfl⟩,hn8⟩,hJ.out⟩
    ·have h13:=hh.p 13 k13 0;have hB:=Hd ((HBB.out _ hh.rel).2);have hJ:=Hd hh.st;exact wp_take 65 _ rfl k13 0 (by simpa [go_sem] using h13) _ hB.out (u.cs) rfl _ Tryz.underlying65 rfl (by kernel_rfl) ⟨_,rfl,TurnP.refl _ _,rfl,hJ.out⟩
    ·have h60:=rq (hh.d 12 60)
     obtain ⟨A8,c8,e8,hn8⟩:=(show ∃ A c,(a.tmps.getD 59 undef)=.agg (n0.cs A c).toArray∧NdOff (fun k=>Z.3 k∨(w.heap.size<=k∧k<=r)) (SFoot b m s x.t) w1 n0 A from hh.d 11 59)
     have h59:a.tmps[59]?.getD undef=.agg (n0.cs A8 c8).toArray:=rq (e8);have hJ:=Hd hh.st;exact wp_build _ _ rfl (by simp [go_sem,h59,h60]) (build_placed n0 A8 c8 u w1) ⟨_,rfl,TurnP.refl _ _,⟨A8,c8,rfl,hn8⟩,hJ.out⟩
    ·have h51:=rq (hh.d 3 51);have h52:=rq (hh.d 4 52)
     obtain ⟨A8,c8,e8,hn8⟩:=(show ∃ A c,(a.tmps.getD 61 undef)=.agg (plcs n0 A c u).toArray∧NdOff (fun k=>Z.3 k∨(w.heap.size<=k∧k<=r)) (SFoot b m s x.t) w1 n0 A from hh.d 13 61)
     have h61:a.tmps[61]?.getD undef=.agg (plcs n0 A8 c8 u).toArray:=rq (e8);obtain ⟨w9,hrun,hs9,ht9⟩:=(hh.st.no hh.un).store (by have:=HN.out;show x.t.length<=_;omega) HX64.out HHX.out (show PlAt _ (SFoot b m s x.t) w1 (.agg (plcs n0 A8 c8 u).toArray) n0 u from ⟨_,_,rfl,hn8⟩);have hS9:=Hd hs9;have hT9:=Hd ht9;have hO9:=Hd (hh.up 10 (by kernel_rfl));clear hh hs9 ht9;go_simp;exact ⟨hT9.out,⟨undef,trivial⟩,nofun,fun _=>hS9.out,fun _=>hO9.out⟩
    any_goals (have hJ:=hh.j;clear hh;go_simp;exact ⟨_,rfl,TurnP.refl _ _,rfl,hJ.out⟩)
    intro L w11 val hL hJ hR hv;have HR11:=Hd hR;have HJ11:=Hd (hJ.yes (hL 14 (by decide)));clear hv hL hJ hR;simp only [regs.putAll,List.map_cons,List.map_nil];simp only [Act.put,List.setIfInBounds_toArray,List.set_cons_zero,List.set_cons_succ]
    skip
    have HS11:Hid (SceneAt w11 g b m s ⟨Z.1,Z.2,fun k=>Z.3 k∨(w.heap.size<=k∧k<=r)⟩ ⟨x.t,x.nd,mixW x.ws fr (fun z=>left z && !z.sameKey (.int .i64 x2))⟩):=by
     have h1:=HJ11.out;rw [← HND.out,upd_self,HMX.out] at h1;exact h1
    have HT11:Hid (TurnP (SFoot b m s x.t) (SFoot b m s x.t) W9 w11):=HTC.out.trans HR11.out
    have HRG11:Hid (w11.ranges Tryz.prog 3 anyE mf r es.length (mapV es) (fun z=>left z && !z.sameKey (.int .i64 x2)) cnt1):=by
     have h1:=HRC1.out.lt;have h2:=HRC1.out.owns.lt;refine ranges_of HRC1.out (HR11.out.far mf h2 fun e=>?_).2 (HR11.out.far r h1 fun e=>?_).2
     ·have:=HSI.out _ e;have:=HNO.out;omega
     ·have:=HSI.out _ e;have:=HR.out;have:=HW9.out.size;omega
    have HME11:Hid (w11.rangeLeft mf r<wA.rangeLeft mf r):=by show _<_;rw [HRG11.out.left_eq,← HRC1.out.left_eq];exact HME2.out
    clear HJ11 HBB HKB HKC HLKA HNF HGT HNG HSC2 HTC HRC1 HME2 HR11;go_wp2_with (fail)
    go_roundw
    case rel=>exact ⟨_,_,HRG11,HS11,HT11⟩
    case measure=>exact HME11.out
end
end
section
open Go.Shelf
def l_mclone_ren:Go.Shelf.Ren:=⟨fun | 5=>42 | 7=>82 | n=>n,fun | 23=>105 | 25=>3 | 3=>121 | 4=>4 | 20=>20 | n=>n,fun | n=>n⟩
theorem l_mclone:Go.Proofs.SlLaysW.n5 Tryz.prog l_mclone_ren:={
 mixed:=by kernel_rfl
 f5:=⟨Tryz.f42.name,by decide,Tryz.func42.trans (congrArg some (by kernel_rfl))⟩
 f7:=Tryz.func82.trans (congrArg some (by kernel_rfl))
 t4:=Tryz.underlying4
 a4:=Tryz.isAgg4
 z4:=Tryz.sizeOf4
 v4:=Tryz.zeroValue4
 t20:=Tryz.underlying20
 a20:=Tryz.isAgg20
 z20:=Tryz.sizeOf20
 v20:=Tryz.zeroValue20
 t23:=Tryz.underlying105
 a23:=Tryz.isAgg105
 z23:=Tryz.sizeOf105
 v23:=Tryz.zeroValue105 }
end
section
open Go.RowKit pxm imm trm Go.Maps
theorem mclone {w:World} {m:Nat} {es:LV} (h:VM w m es):Calls Tryz.prog 42 #[.map (some m)] w fun e w'=>e=.returned (.map (some w.heap.size))∧VM w' w.heap.size es∧Below w.heap.size w w':=by
 refine (AnyW.maps_Clone_owns l_mclone 3 anyE m es.length (mapV es) w h.own).mono ?_;rintro e w' ⟨rfl,h1,-,h3⟩;exact ⟨rfl,⟨h.rises,h1,h.few⟩,h3⟩
structure CpJ (base:Nat) (Z:ZZ) (t:T) (es:LV) (i8 i13 i14 i15:Bool) (v11 v16 v17 v2:Value) (w:World):Prop where
 bsz:base<=w.heap.size
 tree:i8=true->∃ b s,v11=.pointer (some ⟨b,0,none⟩)∧TreeAt w b s t∧(∀ k,FootT b s t k->base<=k)∧(i13=true->∀ m,v16=.map (some m)->¬ FootT b s t m)
 map:i13=true->∃ m,v16=.map (some m)∧VM w m es∧base<=m
 scn:i14=true->∃ g b s m,v17=.pointer (some ⟨g,0,none⟩)∧base<=g∧BlkT w g (sccs b m Z) tScene∧TreeAt w b s t∧VM w m es∧(∀ k,SFoot b m s t k->base<=k)∧¬ FootT b s t m∧¬ SFoot b m s t g
 out:i15=true->v2=v17
 o14:i14=true->i8=true∧i13=true
 o15:i15=true->i14=true
section
variable {base:Nat} {Z:ZZ} {t:T} {es:LV} {i8 i13 i14 i15:Bool} {v11 v16 v17 v2:Value} {w w':World}
theorem CpJ.slots {u11 u16 u17 u2:Value} (h:CpJ base Z t es i8 i13 i14 i15 v11 v16 v17 v2 w) (e1:u11=v11) (e2:u16=v16) (e3:u17=v17) (e4:u2=v2):CpJ base Z t es i8 i13 i14 i15 u11 u16 u17 u2 w:=by
 rw [e1,e2,e3,e4];exact h
theorem CpJ.below (h:CpJ base Z t es i8 i13 i14 i15 v11 v16 v17 v2 w) (hb:Below w.heap.size w w'):CpJ base Z t es i8 i13 i14 i15 v11 v16 v17 v2 w' where
 bsz:=Nat.le_trans h.bsz hb.size
 tree e:=by
  obtain ⟨b,s,h1,h2,h3⟩:=h.tree e;exact ⟨b,s,h1,h2.below hb,h3⟩
 map e:=by
  obtain ⟨m,h1,h2,h3⟩:=h.map e;exact ⟨m,h1,h2.below hb,h3⟩
 scn e:=by
  obtain ⟨g,b,s,m,h1,h2,h3,h4,h5,h6⟩:=h.scn e;exact ⟨g,b,s,m,h1,h2,h3.stays (hb.block _ h3.inside),h4.below hb,h5.below hb,h6⟩
 out:=h.out
 o14:=h.o14
 o15:=h.o15
theorem CpJ.start (hb:base<=w.heap.size):CpJ base Z t es false false false false v11 v16 v17 v2 w:=
 ⟨hb,nofun,nofun,nofun,nofun,nofun,nofun⟩
theorem CpJ.grow (h:CpJ base Z t es i8 i13 i14 i15 v11 v16 v17 v2 w) (h8:i8=false) {b:Nat} {s:Sh} {u11:Value} (hb:Below w.heap.size w w') (h1:TreeAt w' b s t) (h2:∀ k,FootT b s t k->w.heap.size<=k) (e11:u11=.pointer (some ⟨b,0,none⟩)):CpJ base Z t es true i13 i14 i15 u11 v16 v17 v2 w':=
 have h14:=not_of (fun e=>(h.o14 e).1) h8;have h15:=not_of h.o15 h14;have h':=h.below hb
 ⟨h'.bsz,fun _=>⟨b,s,e11,h1,fun k hk=>Nat.le_trans h.bsz (h2 k hk),fun e m em hm=>by
  obtain ⟨m',e1,e2,-⟩:=h.map e;rw [em] at e1
  injection e1 with e1
  injection e1 with e1
  have:=h2 m hm;have:=e2.inside
  omega⟩,h'.map,(fun e=>by rw [h14] at e;cases e),(fun e=>by rw [h15] at e;cases e),(fun e=>⟨rfl,(h'.o14 e).2⟩),h'.o15⟩
theorem CpJ.make {u16:Value} (h:CpJ base Z t es i8 i13 i14 i15 v11 v16 v17 v2 w) (h13:i13=false) (hb:Below w.heap.size w w') (h1:VM w' w.heap.size es) (e16:u16=.map (some w.heap.size)):CpJ base Z t es i8 true i14 i15 v11 u16 v17 v2 w':=by
 have h14:=not_of (fun e=>(h.o14 e).2) h13;subst e16 h13 h14;have h':=h.below hb;refine ⟨h'.bsz,fun e=>?_,fun _=>⟨_,rfl,h1,h.bsz⟩,h'.scn,h'.out,nofun,h'.o15⟩;obtain ⟨b0,s0,h10,h20,h30,-⟩:=h.tree e;refine ⟨b0,s0,h10,h20.below hb,h30,fun _ m em hm=>?_⟩
 injection em with em
 injection em with em
 have:=h20.raw.inside m hm;omega
theorem CpJ.last (h:CpJ base Z t es i8 i13 i14 i15 v11 v16 v17 v2 w) (h8:i8=true) (h13:i13=true) (h14:i14=false):∃ b m,v11=.pointer (some ⟨b,0,none⟩)∧v16=.map (some m)∧∀ e w',OfQ b m Z w e w'->∃ u,e=.returned u∧Below w.heap.size w w'∧CpJ base Z t es i8 i13 true i15 v11 v16 u v2 w':=by
 have h15:=not_of h.o15 h14;subst h8 h13 h14;obtain ⟨b,s,e1,e2,e3,e4⟩:=h.tree rfl;obtain ⟨m,f1,f2,f3⟩:=h.map rfl;refine ⟨b,m,e1,f1,?_⟩;rintro e w' ⟨g,rfl,g1,g2,g3⟩;have h':=h.below g3;have hnf:=e4 rfl m f1;refine ⟨_,rfl,g3,⟨h'.bsz,h'.tree,h'.map,fun _=>⟨g,b,s,m,rfl,Nat.le_trans h.bsz g1,g2,e2.below g3,f2.below g3,fun k hk=>?_,hnf,fun hk=>?_⟩,(fun e=>by rw [h15] at e;cases e),(fun _=>⟨rfl,rfl⟩),(fun _=>rfl)⟩⟩
 ·rcases hk with e | e
  ·rw [e];exact f3
  ·exact e3 k e
 ·rcases hk with e | e
  ·have:=f2.inside;omega
  ·have:=e2.raw.inside g e;omega
theorem CpJ.tell {u2:Value} (h:CpJ base Z t es i8 i13 i14 i15 v11 v16 v17 v2 w) (h14:i14=true) (e2:u2=v17):CpJ base Z t es i8 i13 i14 true v11 v16 v17 u2 w:=⟨h.bsz,h.tree,h.map,h.scn,fun _=>e2,h.o14,fun _=>h14⟩
end
def SCopyQ (Z:ZZ) (S:Bset) (x:PSc) (w:World) (e:Ending) (w':World):Prop:=
 ∃ g b m s,e=.returned (.pointer (some ⟨g,0,none⟩))∧SceneAt w' g b m s ⟨Z.1,Z.2,fun k=>Z.3 k∨S k⟩ x∧Below w.heap.size w w'∧(∀ k,SFoot b m s x.t k->w.heap.size<=k)∧w.heap.size<=g
section
variable {w:World} {g b m:Nat} {s:Sh} {Z:ZZ} {x:PSc}
theorem scopy_any (h:SceneAt w g b m s Z x) (hn:x.t.length<=1000) :
  Calls Tryz.prog 13 #[.pointer (some ⟨g,0,none⟩)] w (SCopyQ Z (SFoot b m s x.t) x w):=by
 have HS:=Hd h;have HN:=Hd hn;have HFS:Hid (∀ W,Below w.heap.size w W->SceneAt W g b m s Z x):=fun W hb=>h.below hb;obtain ⟨es,hm,h1,h2⟩:=h.map;have HVM:Hid (∀ W,Below w.heap.size w W->VM W m es):=fun W hb=>hm.below hb;have HE1:=Hd h1;have HE2:=Hd h2;clear h hn hm h1 h2;go_enter Tryz.func13,Tryz.ntmps13
 go_upto_region 1 with (fail)
 refine wRv (Below w.heap.size) (fun L V wx=>CpJ w.heap.size Z x.t es (L 8) (L 13) (L 14) (L 15) (V 11) (V 16) (V 17) (V 2) wx) [3,4,5,6,7,8,9,10,11,12,13,14,15,16,17,2] (fun _=>bR) (fun _ _ _ h k=>h.trans k) (fun i=>match i with
  |0|1|4|5|9|10=>rp g 0
  |2=>rp g 2
  |3=>rV (.agg ((Vn Z.1 Z.2.1 Z.2.2)).toArray)
  |6=>rp g 1
  |7=>rp b 0
  |11=>rp g 5
  |12=>rV (.map (some m))
  | _=>ra) (bR.drew) (CpJ.start (Below.refl 0 w).drew.size) ⟨?_,?_,?_,?_,?_,?_,?_,?_,?_,?_,?_,?_,?_,?_,?_,?_,trivial⟩ ?_
 any_goals (first|refine zpv fun L a w1 hh=>?_|fail)
 have h0:=hh.p 0 g 0;rotate_left;have h3:=rq (hh.d 0 3);rotate_left;have h4:=rq (hh.d 1 4);have i0:=((HFS.out _ hh.rel).blk.blk).inside;rotate_left
 ·have h5:=rq (hh.d 2 5);have hB:=Hd ((HFS.out _ hh.rel).blk.blk);have hJ:=Hd hh.st;exact wp_take 104 _ rfl g 2 (by simpa [go_sem] using h5) _ hB.out ((Vn Z.1 Z.2.1 Z.2.2)) rfl _ Tryz.underlying104 rfl (by kernel_rfl) ⟨_,rfl,bR,rfl,CpJ.slots hJ.out sn sn sn sn⟩
 have h0:=hh.p 0 g 0;rotate_left;have h7:=rq (hh.d 4 7);rotate_left;have h8:=rq (hh.d 5 8);have i0:=((HFS.out _ hh.rel).blk.blk).inside;rotate_left;have h9:=rq (hh.d 6 9);have ⟨c0,i0⟩:=((HFS.out _ hh.rel).blk.blk).ci 1 rfl;rotate_left
 ·have h10:=rq (hh.d 7 10);have hJ:=Hd hh.st;have hsz:=Hd hh.size;have hC:=Hd (tclone (HFS.out _ hh.rel).tree HN.out);unfold CloneQ at hC;have hun:=Hd hh.un;clear hh;go_simp;refine hC.out.mono ?_;rintro e w9 ⟨b9,s9,rfl,ht9,hf9,hb9⟩;exact ⟨_,rfl,hb9.mono hJ.out.bsz,trivial,CpJ.slots (hJ.out.grow hun.out hb9 ht9 hf9 rfl) (regv.sl_same (by rw [hsz.out];simp)) sn sn sn⟩
 have h0:=hh.p 0 g 0;rotate_left;have h12:=rq (hh.d 9 12);rotate_left;have h13:=rq (hh.d 10 13);have i0:=((HFS.out _ hh.rel).blk.blk).inside;rotate_left;have h14:=rq (hh.d 11 14);have ⟨c0,i0⟩:=((HFS.out _ hh.rel).blk.blk).ci 5 rfl;rotate_left
 ·have h15:=rq (hh.d 12 15);have hJ:=Hd hh.st;have hsz:=Hd hh.size;have hC:=Hd (mclone (HVM.out _ hh.rel));have hun:=Hd hh.un;clear hh;go_simp;refine hC.out.mono ?_;rintro e w9 ⟨rfl,hm9,hb9⟩;exact ⟨_,rfl,hb9.mono hJ.out.bsz,trivial,CpJ.slots (hJ.out.make hun.out hb9 hm9 rfl) sn (regv.sl_same (by rw [hsz.out];simp)) sn sn⟩
 ·have h6:=rq (hh.d 3 6);have hJ:=Hd hh.st;have hsz:=Hd hh.size;obtain ⟨b9,m9,e11,e16,hQ0⟩:=hh.st.last (hh.up 8 (by kernel_rfl)) (hh.up 13 (by kernel_rfl)) hh.un;have h11:a.tmps[11]?.getD undef=.pointer (some ⟨b9,0,none⟩):=rq (e11);have h16:a.tmps[16]?.getD undef=.map (some m9):=rq (e16);have hQ:=Hd hQ0;have hC:=Hd (of_any Z b9 m9 w1);clear hQ0;clear hh;go_simp;refine hC.out.mono ?_;intro e w9 hq;obtain ⟨u9,rfl,hb9,hs9⟩:=hQ.out e w9 hq;exact ⟨_,rfl,hb9.mono hJ.out.bsz,trivial,CpJ.slots hs9 sn sn (regv.sl_same (by rw [hsz.out];simp)) sn⟩
 ·have hsz:=Hd hh.size;have h17:a.tmps[17]?.getD undef=regv.sl a 17:=by unfold regv.sl;rw [Array.getD_eq_getD_getElem?]
  have hu:=Hd (hh.st.tell (hh.up 14 (by kernel_rfl)) rfl);clear hh;go_simp;exact ⟨_,rfl,bR,trivial,CpJ.slots hu.out sn sn sn (regv.sl_same (by rw [hsz.out];simp))⟩
 any_goals (have hJ:=hh.j;clear hh;go_simp;exact ⟨_,rfl,bR,rfl,CpJ.slots hJ.out sn sn sn sn⟩)
 intro L w4 val hL hJ hR hv;have HR4:=Hd hR
 have hN:CpJ w.heap.size Z x.t es (L 8) (L 13) true true (val 11) (val 16) (val 17) (val 2) w4:=by
  have h:=hJ;rw [hL 14 (by decide),hL 15 (by decide)] at h;exact h
 obtain ⟨g9,b9,s9,m9,e17,hgb,hblk,htr,hvm,hft,hmf,hgf⟩:=hN.scn rfl;have e2:=(hN.out rfl).trans e17;have HSC:=Hd (And.intro hgb (And.intro hblk (And.intro htr (And.intro hvm (And.intro hft (And.intro hmf hgf))))));clear hv hL hJ hR hN hgb hblk htr hvm hft hmf hgf;simp only [regs.putAll,List.map_cons,List.map_nil];simp only [Act.put,List.setIfInBounds_toArray,List.set_cons_zero,List.set_cons_succ]
 skip
 rw [e17];clear e17;rw [e2];clear e2;go_wp2_with (fail);go_ret;obtain ⟨hgb,hblk,htr,hvm,hft,hmf,hgf⟩:=HSC.out;refine ⟨g9,b9,m9,s9,rfl,⟨hblk,htr,⟨es,hvm,HE1.out,fun i hi=>?_⟩,hgf,hmf,fun k hk=>?_⟩,HR4.out,hft,hgb⟩
 ·obtain ⟨v,e,A,c,e2,hv⟩:=HE2.out i hi;refine ⟨v,e,A,c,e2,Row.below hv.1 (HR4.out.mono nR),fun a ea hne hk=>?_,fun a ea hne hk=>?_⟩
  ·have:=Row.lt hv.1 ea hne;have:=hft _ hk;omega
  ·exact hk.elim (hv.3 a ea hne) (hv.2 a ea hne)
 ·have hlt:k<w.heap.size:=hk.elim (fun e=>(HS.out.old k e).1) (fun e=>HS.out.inside k e);exact ⟨Nat.lt_of_lt_of_le hlt HR4.out.size,fun e=>by have:=hft k e;omega,by omega⟩
end
end
end Go.Proofs.YthoildbfghfhpaaGreat
