import Derived.Test.YthoildbfghfhpaaGreatYScB
import Derived.Laws.BitsAllLaws
import Derived.Shelf.Abstract
import Derived.Laws.Cover1
import Derived.Laws.Small
import Derived.Deep.RegionHeld3
import Derived.Laws.Cover3
import Derived.ChangeKeysEq
import Derived.Deep.Grids
import Derived.Deep.DeepCutAuto
import Derived.Deep.CutBlock
set_option maxHeartbeats 16000000
set_option maxRecDepth 100000
namespace Go.Proofs.YthoildbfghfhpaaGreat
open Go.RowKit pxm
theorem part_any (p:P4) (hp:p.Bytes) (k:Nat) (hk:k<4) (w:World) :
  Calls Tryz.prog 129 #[.int .u32 (p.num:Nat),.int .i64 (k:Nat)] w fun e w'=>e=.returned (.int .i64 (p.at_ k:Nat))∧Drew w w':=by
 obtain ⟨h1,h2,h3,h4⟩:=hp;obtain rfl | rfl | rfl | rfl:k=0∨k=1∨k=2∨k=3:=by omega
 all_goals
  go_enter Tryz.func129,Tryz.ntmps129;go_wp2_with (fail);go_ret;refine ⟨ret_num ?_,Drew.refl _⟩;simp only [P4.at_,P4.num];omega
theorem by_any (x q:Nat) (hx:x<256) (hq:q<256) (w:World) :
  Calls Tryz.prog 88 #[.int .i64 (x:Nat),.int .i64 (q:Nat)] w fun e w'=>e=.returned (.int .i64 (by_ x q:Nat))∧Drew w w':=by
 have hm:=mul_lt hx hq
 obtain ⟨P,hP⟩:∃ P:Nat,x*q=P:=⟨_,rfl⟩
 have e:(x:Int)*(q:Int)=(P:Nat):=by rw [← hP];simp
 have HB:Hid (by_ x q=(P+127) / 255):=by rw [← hP];rfl
 rw [hP] at hm;clear hP;go_enter Tryz.func88,Tryz.ntmps88;go_wp2_with (fail)
 all_goals
  go_ret;exact ⟨ret_num (by rw [HB.out];simp),Drew.refl _⟩
theorem enters_by1:Enters Tryz.prog 128:=enters_of Tryz.func128 (by kernel_rfl) rfl
theorem by1_any (p:P4) (hp:p.Bytes) (q:Nat) (hq:q<256) (bp bq:Nat) (k:Nat) (hk:k<4) (w:World) (h1:Blk w bp [.int .u32 (p.num:Nat)]) (h2:Blk w bq [.int .i64 (q:Nat)]) :
  Calls Tryz.prog 128 #[.int .i64 (k:Nat),.pointer (some ⟨bp,0,none⟩),.pointer (some ⟨bq,0,none⟩)] w fun e w'=>e=.returned (.int .i64 (by_ (p.at_ k) q:Nat))∧Drew w w':=by
 have c1:=h1.c 0 rfl;have c2:=h2.c 0 rfl;have i1:=h1.inside;have i2:=h2.inside;have HP:=Hd (fun w=>part_any p hp k hk w);have HB:=Hd (fun w=>by_any (p.at_ k) q (hp.at_ k) hq w);clear h1 h2 hp hk hq;generalize p.at_ k=x at *;go_enter Tryz.func128,Tryz.ntmps128;go_wp2_with (fail)
 go_quiet ((first | (go_at_call 129;exact Calls.quiet_of (HP.out _)) | (go_at_call 88;exact Calls.quiet_of (HB.out _))))
 go_wp2_with (fail);go_ret;exact ⟨rfl,(Drew.refl _).more _⟩
end Go.Proofs.YthoildbfghfhpaaGreat
namespace Go.Proofs.YthoildbfghfhpaaGreat
open Go.RowKit pxm
theorem or_part (f:Nat->Nat) (hf:∀ k,k<4->f k<256) (k:Nat) (hk:k<4):bits .or .u32 (part4 f k:Nat) ((f k:Int)*(256 ^ k:Nat))=(part4 f (k+1):Nat):=by
 have h1:=part4_lt hf k (by omega);have h2:=part4_lt hf (k+1) (by omega);have e:(f k:Int)*(256 ^ k:Nat)=((f k*256 ^ k:Nat):Int):=by rw [Int.natCast_mul]
 have h3:256 ^ (k+1)<=256 ^ 4:=Nat.pow_le_pow_right (by omega) (by omega);have h4:(256:Nat) ^ 4=4294967296:=by decide
 have h5:part4 f (k+1)=part4 f k+f k*256 ^ k:=rfl;rw [e,u32_or_nat _ _ (by omega) (by omega),or_add h1];rfl
theorem each_any (f:Nat->Nat) (hf:∀ k,k<4->f k<256) (gl:Nat) (cl:Array Value) (he:Enters Tryz.prog gl) (w:World)
  (hcall:∀ k,k<4->∀ w1,Drew w w1->Calls Tryz.prog gl (#[.int .i64 (k:Nat)]++cl) w1 fun e w2=>e=.returned (.int .i64 (f k:Nat))∧Drew w1 w2) :
  Calls Tryz.prog 127 #[.func (.func gl) #[] cl] w fun e w'=>e=.returned (.int .u32 (part4 f 4:Nat))∧Drew w w':=by
 have he':∀ (args:Array Value) (w:World),(callFunc gl args).run Tryz.prog w=.ok (.enter gl args) w:=he;have HC:=Hd hcall;have HO:=Hd (or_part f hf);have HF:=Hd hf;have HL:=Hd (fun k hk=>part4_lt hf k hk);clear hcall hf he;go_enter Tryz.func127,Tryz.ntmps127;go_wp2_with (fail)
 go_loopw [3,5] (fun x i wr=>∃ k:Nat,k<=4∧i=.int .i64 k∧x=.int .u32 (part4 f k:Nat)∧Hid (Drew w wr)) (fun _ i _=>4 - (intOf i).toNat)
 case atStart=>exact ⟨0,by omega,rfl,rfl,Drew.refl _⟩
 case round=>
  obtain ⟨k,hk,rfl,rfl,HD⟩:=hrel;by_cases hlt:k<4
  ·have o:=Hd (HO.out k hlt);have hz:=HF.out k hlt;have C:=Hd (HC.out k hlt);clear HO HF HC HL
   have o2:∃ y2,Hid (part4 f (k+1)=y2)∧Hid (bits .or .u32 (part4 f k:Nat) ((f k:Int)*(256 ^ k:Nat))=(y2:Nat)):=⟨_,rfl,o⟩
   clear o;obtain ⟨y2,o1,o2⟩:=o2;generalize part4 f k=y1 at *;generalize f k=z at *;go_wp2_with (fail);refine (C.out _ HD.out).mono ?_;rintro e w2 ⟨rfl,hd⟩;have HD2:=Hd (HD.out.trans hd);clear C HD hd;obtain rfl | rfl | rfl | rfl:k=0∨k=1∨k=2∨k=3:=by omega
   all_goals
    go_wp2_with (fail)
    go_roundw
    case rel=>exact ⟨_,by decide,rfl,by rw [o1.out,← o2.out];simp,HD2⟩
    case measure=>simp [intOf]
  ·obtain rfl:k=4:=by omega
   clear HO HC HF HL;go_wp2_with (fail);go_ret;exact ⟨rfl,HD.out⟩
theorem part4_congr {f g:Nat->Nat} (h:∀ k,k<4->f k=g k):part4 f 4=part4 g 4:=by
 simp only [part4];rw [h 0 (by omega),h 1 (by omega),h 2 (by omega),h 3 (by omega)]
theorem part4_times (p:P4) (q:Nat):part4 (fun k=>by_ (p.at_ k) q) 4=(p.times q).num:=by
 rw [← part4_num]
 exact part4_congr fun k hk=>by
  obtain rfl | rfl | rfl | rfl:k=0∨k=1∨k=2∨k=3:=by omega
  all_goals rfl
theorem Drew.blk {w w':World} {g:Nat} {cs:List Value} (h:Drew w w') (hb:Blk w g cs):Blk w' g cs:=hb.below' (h.below _)
theorem mby_any (p:P4) (hp:p.Bytes) (q:Nat) (hq:q<256) (w:World) :
  Calls Tryz.prog 99 #[.int .u32 (p.num:Nat),.int .i64 (q:Nat)] w fun e w'=>e=.returned (.int .u32 ((p.times q).num:Nat))∧Below w.heap.size w w':=by
 have HC:=Hd (fun w1 (h1:Blk w1 w.heap.size [.int .u32 (p.num:Nat)]) (h2:Blk w1 (w.heap.size+1) [.int .i64 (q:Nat)])=>
  each_any (fun k=>by_ (p.at_ k) q) (fun k _=>by_lt (hp.at_ k) hq) 128 #[.pointer (some ⟨w.heap.size,0,none⟩),.pointer (some ⟨w.heap.size+1,0,none⟩)] enters_by1 w1
   (fun k hk w2 hd=>by1_any p hp q hq w.heap.size (w.heap.size+1) k hk w2 (hd.blk h1) (hd.blk h2)))
 have HT:=Hd (part4_times p q);have hn:=hp.lt;go_enter Tryz.func99,Tryz.ntmps99;go_wp2_with (fail);refine (HC.out _ ((blk_new w [.int .u32 (p.num:Nat)] _).alloc _) (blk_at (w.alloc _) _ (by simp) [.int .i64 (q:Nat)] _)).mono ?_;rintro e w2 ⟨rfl,hd⟩;have HB:Hid (Below w.heap.size w w2):=((bR.alloc nR _).alloc (by simp) _).trans (hd.below _);clear hd;go_wp2_with (fail);go_ret;exact ⟨ret_num (by rw [HT.out]),HB.out⟩
theorem results_tmp4 {fn:Func} {t u v x:Tmp} (h:fn.results=#[.tmp t,.tmp u,.tmp v,.tmp x]) (tmps:Array Value) (P:Program) (w:World) :
  (results fn tmps).run P w=.ok (.tuple #[tmps.getD t undef,tmps.getD u undef,tmps.getD v undef,tmps.getD x undef]) w:=by
 simp [results,h]
theorem parts_any (p:P4) (hp:p.Bytes) (w:World) :
  Calls Tryz.prog 186 #[.int .u32 (p.num:Nat)] w fun e w'=>e=.returned (.tuple (Vk (p.r:Nat) (p.g:Nat) (p.b:Nat) (p.a:Nat)).toArray)∧Drew w w':=by
 have H3:=Hd (fun w=>part_any p hp 3 (by omega) w);have H2:=Hd (fun w=>part_any p hp 2 (by omega) w);have H1:=Hd (fun w=>part_any p hp 1 (by omega) w);have H0:=Hd (fun w=>part_any p hp 0 (by omega) w);have hn:=hp.lt;clear hp;go_enter Tryz.func186,Tryz.ntmps186;go_wp2_with (fail);refine (H3.out _).mono ?_;rintro e w1 ⟨rfl,hd1⟩;have D1:=Hd hd1;clear hd1;go_wp2_with (fail);refine (H2.out _).mono ?_;rintro e w2 ⟨rfl,hd2⟩;have D2:=Hd (D1.out.trans hd2);clear hd2 D1;go_wp2_with (fail);refine (H1.out _).mono ?_;rintro e w3 ⟨rfl,hd3⟩;have D3:=Hd (D2.out.trans hd3);clear hd3 D2;go_wp2_with (fail)
 refine (H0.out _).mono ?_;rintro e w4 ⟨rfl,hd4⟩;have D4:=Hd (D3.out.trans hd4);clear hd4 D3;go_wp2_with (fail);exact bodyPost_ret (results_tmp4 rfl _ _ _) rfl ⟨rfl,D4.out⟩
theorem max3 (x y z:Int):∃ M:Int,(∀ (P:Program) (w:World) (ts:Array TypeId) (t:TypeId),(Builtin.max_ ts t (Vn x y z).toArray).run P w=.ok (.int .i64 M) w)∧(∀ a,M<=a↔x<=a∧y<=a∧z<=a):=by
 refine ⟨_,fun P w ts t=>run_max_int3 w ts t _ _ _ x y z,fun a=>?_⟩;split<;>split<;>omega
theorem pright_any (p:P4) (hp:p.Bytes) (w:World) :
  Calls Tryz.prog 180 #[.int .u32 (p.num:Nat)] w fun e w'=>e=.returned (.bool p.rightB)∧Drew w w':=by
 have H:=Hd (fun w=>parts_any p hp w);have HR2:Hid (p.rightB=(decide (p.r<=p.a)&&(decide (p.g<=p.a)&&(decide (p.b<=p.a)&&decide (p.a<=255))))):=rfl;generalize p.rightB=R at *;obtain ⟨h1,h2,h3,h4⟩:=hp;generalize p.num=n at *;obtain ⟨r,g,b,a⟩:=p;simp only at H HR2 h1 h2 h3 h4;obtain ⟨M,hrun,hM⟩:=max3 r g b
 have HM:Hid (decide (M<=(a:Int))=R):=by
  rw [HR2.out];have:=hM a;have h5:a<=255:=by omega
  show _=_;rw [decide_eq_true h5,Bool.and_true,← Bool.decide_and,← Bool.decide_and,decide_eq_decide];omega
 clear hM HR2;go_enter Tryz.func180,Tryz.ntmps180;go_wp2_with (fail);refine (H.out _).mono ?_;rintro e w1 ⟨rfl,hd1⟩;have D1:=Hd hd1;clear hd1;go_wp2_with (fail);go_ret;exact ⟨ret_bool HM.out,D1.out⟩
end Go.Proofs.YthoildbfghfhpaaGreat
namespace Go.Proofs.YthoildbfghfhpaaGreat
open Go.RowKit pxm
def eN (q:Nat):Value:=.int .i64 (q:Nat)
theorem foldl_take {α β:Type} (f:β->α->β) (b:β) {l:List α} {k:Nat} (hk:k<l.length):(l.take (k+1)).foldl f b=f ((l.take k).foldl f b) l[k]:=by
 rw [List.take_succ_eq_append_getElem hk,List.foldl_append];rfl
theorem timesAll_take {p:P4} {l:List Nat} {k:Nat} (hk:k<l.length):timesAll p (l.take (k+1))=(timesAll p (l.take k)).times l[k]:=foldl_take _ _ hk
theorem bys_any (p:P4) (hp:p.Right) (A:Option Addr) (l:List Nat) (c:Nat) (w:World) (hl:∀ q∈l,q<256) (hrow:Row eN w A l) (hn:l.length<=maxLen) :
  Calls Tryz.prog 60 #[.int .u32 (p.num:Nat),.slice A l.length c] w fun e w'=>e=.returned (.int .u32 ((timesAll p l).num:Nat))∧Below w.heap.size w w':=by
 unfold maxLen at hn;have HROW:=Hd hrow;have HL:=Hd hl;have HP:=Hd hp;clear hrow hl hp;go_enter Tryz.func60,Tryz.ntmps60;go_wp2_with (fail)
 go_loopw [0,9] (fun x i wr=>∃ k:Nat,k<=l.length∧i=.int .i64 k∧x=.int .u32 ((timesAll p (l.take k)).num:Nat)∧Hid (Below w.heap.size w wr)) (fun _ i _=>l.length - (intOf i).toNat)
 case atStart=>exact ⟨0,Nat.zero_le _,rfl,rfl,bR⟩
 case round=>
  obtain ⟨k,hk,rfl,rfl,HB⟩:=hrel;by_cases hlt:k<l.length
  ·obtain ⟨b,off,rfl,hc⟩:=Row.at_ (HROW.out.below HB.out) hlt;unfold eN at hc;have HS:=Hd (timesAll_take (p:=p) hlt);have HC:=Hd (mby_any (timesAll p (l.take k)) (timesAll_right HP.out (fun q hq=>HL.out q (List.mem_of_mem_take hq))).bytes l[k] (HL.out _ (List.getElem_mem hlt)) wr);generalize timesAll p (l.take k)=q at *;generalize l[k]=d at *;go_wp2_with (fail);refine HC.out.mono ?_;rintro e w2 ⟨rfl,hb⟩;have HB2:=Hd (bel_step HB.out nR hb);clear hb HB hc HC;go_wp2_with (fail)
   go_roundw
   case rel=>exact ⟨k+1,by omega,by go_num,by rw [HS.out],HB2⟩
   case measure=>simp [intOf];omega
  ·obtain rfl:k=l.length:=by omega
   go_wp2_with (fail);go_ret;exact ⟨ret_num (by rw [List.take_length]),HB.out⟩
end Go.Proofs.YthoildbfghfhpaaGreat
namespace Go.Proofs.YthoildbfghfhpaaGreat
open Go.RowKit pxm
def pxm.P4.cs (p:P4):List Value:=(Vk (p.r:Nat) (p.g:Nat) (p.b:Nat) (p.a:Nat))
theorem dfrom_any (n:Nat) (hn:n<4294967296) (w:World) :
  Calls Tryz.prog 65 #[.int .u32 (n:Nat)] w fun e w'=>e=.returned (.agg (Vk ((frm n).r:Nat) ((frm n).g:Nat) ((frm n).b:Nat) ((frm n).a:Nat)).toArray)∧Below w.heap.size w w':=by
 have e1:(n:Int) / 16777216=((n / 16777216:Nat):Int):=by simp
 have e2:(n:Int) / 65536 % 256=((n / 65536 % 256:Nat):Int):=by simp
 have e3:(n:Int) / 256 % 256=((n / 256 % 256:Nat):Int):=by simp
 have e4:(n:Int) % 256=((n % 256:Nat):Int):=by simp
 have hr:n / 16777216<256:=by omega
 have hg:n / 65536 % 256<256:=by omega
 have hb:n / 256 % 256<256:=by omega
 have ha:n % 256<256:=by omega
 unfold frm;simp only;generalize n / 16777216=r at *;generalize n / 65536 % 256=g at *;generalize n / 256 % 256=b at *;generalize n % 256=a at *;go_enter Tryz.func65,Tryz.ntmps65;go_wp2_with (fail);exact blk_ret rfl rfl (blk_new w (Vk (r:Nat) (g:Nat) (b:Nat) (a:Nat)) _) Tryz.underlying163 rfl (by kernel_rfl) ⟨rfl,bR.alloc nR _⟩
theorem all_snocI {α:Type} {p:α->Bool} {l:List α} {k:Nat} (h:(l.take k).all p=true) (hk:k<l.length) (hp:p l[k]=true):(l.take (k+1)).all p=true:=by
 rw [List.take_succ_eq_append_getElem hk,List.all_append,h];simp [hp]
theorem all_badI {α:Type} {p:α->Bool} {l:List α} {k:Nat} (hk:k<l.length) (hp:p l[k]=false):l.all p=false:=by
 rw [List.all_eq_false];exact ⟨_,List.getElem_mem hk,by rw [hp];simp⟩
def okp (a x:Int):Bool:=decide (0<=x)&&(decide (x<=255)&&decide (x<=a))
def drB (x0 x1 x2 x3:Int):Bool:=[x0,x1,x2,x3].all (okp x3)
theorem drB_right (p:P4) (hp:p.Bytes):drB (p.r:Nat) (p.g:Nat) (p.b:Nat) (p.a:Nat)=p.rightB:=by
 obtain ⟨h1,h2,h3,h4⟩:=hp;rw [Bool.eq_iff_iff,P4.rightB_iff];unfold drB okp P4.Right;simp only [List.all_cons,List.all_nil,Bool.and_eq_true,Bool.and_true,decide_eq_true_eq];omega
theorem okp_no1 {a x:Int} (h:x<0):okp a x=false:=by unfold okp;simp;omega
theorem okp_no2 {a x:Int} (h:255<x):okp a x=false:=by unfold okp;simp;omega
theorem okp_no3 {a x:Int} (h:a<x):okp a x=false:=by unfold okp;simp;omega
theorem okp_yes {a x:Int} (h:¬ x<0) (h2:¬ 255<x) (h3:¬ a<x):okp a x=true:=by unfold okp;simp;omega
theorem pdright_any (x0 x1 x2 x3:Int) (w:World) :
  Calls Tryz.prog 159 #[.agg (Vk x0 x1 x2 x3).toArray] w fun e w'=>e=.returned (.bool (drB x0 x1 x2 x3))∧Below w.heap.size w w':=by
 obtain ⟨l,hl⟩:∃ l,l=[x0,x1,x2,x3]:=⟨_,rfl⟩
 have HR:Hid (drB x0 x1 x2 x3=l.all (okp x3)):=by rw [hl];rfl
 have HE:Hid ((Vk x0 x1 x2 x3)=l.map eI):=by rw [hl];rfl
 have H3:Hid ((l.map eI)[3]?=some (.int .i64 x3)):=by rw [hl];rfl
 have HL:Hid (l.length=4):=by rw [hl];rfl
 clear hl;generalize drB x0 x1 x2 x3=R at *;go_enter Tryz.func159,Tryz.ntmps159;go_wp2_with (fail)
 go_loopw [3] (fun i wr=>∃ k:Nat,k<=4∧i=.int .i64 k∧Hid ((l.take k).all (okp x3)=true)∧Hid (Below w.heap.size w wr)∧Hid (Blk wr w.heap.size (l.map eI))) (fun i _=>4 - (intOf i).toNat)
 case atStart=>exact ⟨0,Nat.zero_le _,rfl,rfl,bR.alloc nR _,by rw [← HE.out];exact blk_new w (Vk x0 x1 x2 x3) _⟩
 case round=>
  obtain ⟨k,hk,rfl,HK,HB,HM⟩:=hrel;by_cases hlt:k<4
  ·have hkl:k<l.length:=by rw [HL.out];exact hlt
   have c3:wr.cell? ⟨w.heap.size,3,none⟩=some (.int .i64 x3):=(HM.out.cell 3).trans H3.out;have ck:wr.cell? ⟨w.heap.size,k,none⟩=some (.int .i64 l[k]):=by rw [HM.out.cell k,List.getElem?_map,List.getElem?_eq_getElem hkl];rfl
   have hin:=HM.out.inside;have H1:=Hd (all_snocI HK.out hkl);have H0:=Hd (all_badI (p:=okp x3) hkl);clear HK HE H3;generalize l[k]=x at *;clear hkl;by_cases t1:x<0
   ·have t:decide (x<0)=true:=by simpa using t1
    have HF:=Hd (HR.out.trans (H0.out (okp_no1 t1)));clear t1 H1 H0 HR;go_wp2_with (fail)
    go_quiet (fail)
    go_wp2_with (fail);go_ret;exact ⟨ret_bool HF.out.symm,Below.drewN' HB.out _⟩
   ·have t:decide (x<0)=false:=by simpa using t1
    by_cases t2:255<x
    ·have t3:decide (255<x)=true:=by simpa using t2
     have HF:=Hd (HR.out.trans (H0.out (okp_no2 t2)));clear t1 t2 H1 H0 HR;go_wp2_with (fail)
     go_quiet (fail)
     go_wp2_with (fail);go_ret;exact ⟨ret_bool HF.out.symm,Below.drewN' HB.out _⟩
    ·have t3:decide (255<x)=false:=by simpa using t2
     by_cases t4:x3<x
     ·have t5:decide (x3<x)=true:=by simpa using t4
      have HF:=Hd (HR.out.trans (H0.out (okp_no3 t4)));clear t1 t2 t4 H1 H0 HR;go_wp2_with (fail)
      go_quiet (fail)
      go_wp2_with (fail);go_ret;exact ⟨ret_bool HF.out.symm,Below.drewN' HB.out _⟩
     ·have t5:decide (x3<x)=false:=by simpa using t4
      have HF:=Hd (H1.out (okp_yes t1 t2 t4));clear t1 t2 t4 H1 H0 HR;go_wp2_with (fail)
      go_quiet (fail)
      go_wp2_with (fail)
      go_roundw
      case rel=>exact ⟨k+1,by omega,by go_num,HF,Below.drewN' HB.out _,HM.out.drewN _⟩
      case measure=>simp [intOf];omega
  ·obtain rfl:k=4:=by omega
   have HA:=HK.out;rw [List.take_of_length_le (Nat.le_of_eq HL.out)] at HA;have HF:Hid (R=true):=HR.out.trans HA;clear HA;clear HR HK HE H3;go_wp2_with (fail);go_ret;exact ⟨ret_bool HF.out.symm,HB.out⟩
theorem cs_len (p:P4):p.cs.length=4:=rfl
end Go.Proofs.YthoildbfghfhpaaGreat
namespace Go.Proofs.YthoildbfghfhpaaGreat
open Go.RowKit
structure Bx where
 a:Int
 b:Int
 c:Int
 d:Int
deriving DecidableEq
def Bx.v (r:Bx):Value:=.agg (Vk r.a r.b r.c r.d).toArray
def Bx.cs (r:Bx):List Value:=(Vk r.a r.b r.c r.d)
def Bx.o:Bx:=⟨0,0,0,0⟩
def Bx.emp (r:Bx):Bool:=decide (r.c<=r.a)||decide (r.d<=r.b)
def Bx.nrm (r:Bx):Bx:=if r.emp=true then Bx.o else r
def Bx.has (r:Bx) (x y:Int):Bool:=decide (r.a<=x)&&(decide (x<r.c)&&(decide (r.b<=y)&&decide (y<r.d)))
theorem bx_eq (r s:Bx) (w:World):(binOp .eql 91 r.v s.v).run Tryz.prog w=.ok (.bool (decide (r=s))) w:=by
 obtain ⟨a,b,c,d⟩:=r;obtain ⟨a2,b2,c2,d2⟩:=s;unfold Bx.v;simp only;by_cases h0:a=a2
 ·by_cases h1:b=b2
  ·by_cases h2:c=c2
   ·by_cases h3:d=d2
    ·subst h0;subst h1;subst h2;subst h3;simp only [decide_true];go_simp
    ·rw [decide_eq_false (by simp [h3])];subst h0;subst h1;subst h2;have t:(d==d2)=false:=by simpa using h3
     go_simp
   ·rw [decide_eq_false (by simp [h2])];subst h0;subst h1;have t:(c==c2)=false:=by simpa using h2
    go_simp
  ·rw [decide_eq_false (by simp [h1])];subst h0;have t:(b==b2)=false:=by simpa using h1
   go_simp
 ·rw [decide_eq_false (by simp [h0])];have t:(a==a2)=false:=by simpa using h0
  go_simp
theorem bx_neq (r s:Bx) (w:World):(binOp .neq 91 r.v s.v).run Tryz.prog w=.ok (.bool (!decide (r=s))) w:=by
 obtain ⟨a,b,c,d⟩:=r;obtain ⟨a2,b2,c2,d2⟩:=s;unfold Bx.v;simp only;by_cases h0:a=a2
 ·by_cases h1:b=b2
  ·by_cases h2:c=c2
   ·by_cases h3:d=d2
    ·subst h0;subst h1;subst h2;subst h3;simp only [decide_true];go_simp
    ·rw [decide_eq_false (by simp [h3])];subst h0;subst h1;subst h2;have t:(d==d2)=false:=by simpa using h3
     go_simp
   ·rw [decide_eq_false (by simp [h2])];subst h0;subst h1;have t:(c==c2)=false:=by simpa using h2
    go_simp
  ·rw [decide_eq_false (by simp [h1])];subst h0;have t:(b==b2)=false:=by simpa using h1
   go_simp
 ·rw [decide_eq_false (by simp [h0])];have t:(a==a2)=false:=by simpa using h0
  go_simp
end Go.Proofs.YthoildbfghfhpaaGreat
namespace Go.Proofs.YthoildbfghfhpaaGreat
open Go.RowKit
def mn (x y:Int):Int:=if y<x then y else x
def BRow (w:World) (A:Option Addr) (l:List Bx):Prop:=SRow 4 Bx.cs w A l
theorem BRow.below {w w':World} {A:Option Addr} {l:List Bx} (h:BRow w A l) (hb:Below w.heap.size w w'):BRow w' A l:=SRow.below h hb
theorem BRow.at_ {w:World} {A:Option Addr} {l:List Bx} (h:BRow w A l) {j:Nat} (hj:j<l.length):∃ b off,A=some ⟨b,off,none⟩∧w.cell? ⟨b,off+j*4,none⟩=some (.int .i64 l[j].a)∧w.cell? ⟨b,off+j*4+1,none⟩=some (.int .i64 l[j].b)∧w.cell? ⟨b,off+j*4+2,none⟩=some (.int .i64 l[j].c)∧w.cell? ⟨b,off+j*4+3,none⟩=some (.int .i64 l[j].d):=by
 obtain ⟨b,off,e,hc⟩:=h (by omega);exact ⟨b,off,e,hc j hj 0 _ rfl,hc j hj 1 _ rfl,hc j hj 2 _ rfl,hc j hj 3 _ rfl⟩
def JJ (g0 g1 z:Nat) (qs ss us os:List Value) (L:Nat->Bool) (wx:World):Prop:=(L 0=false∨L 4=false->Blk wx g0 qs)∧(L 4=true->Blk wx g0 us)∧Blk wx g1 ss∧Blk wx z os
theorem JJ.below {g0 g1 z:Nat} {qs ss us os:List Value} {L:Nat->Bool} {w w':World} (h:JJ g0 g1 z qs ss us os L w) (hb:Below w.heap.size w w'):JJ g0 g1 z qs ss us os L w':=
 ⟨fun e=>(h.1 e).below' hb,fun e=>(h.2.1 e).below' hb,h.2.2.1.below' hb,h.2.2.2.below' hb⟩
end Go.Proofs.YthoildbfghfhpaaGreat
namespace Go.Proofs.YthoildbfghfhpaaGreat
open Go.RowKit
def J2I (g0 g1:Nat) (p q:List Value) (w:World):Prop:=Blk w g0 p∧Blk w g1 q
theorem J2I.below {g0 g1:Nat} {p q:List Value} {w w':World} (h:J2I g0 g1 p q w) (hb:Below w.heap.size w w'):J2I g0 g1 p q w':=⟨h.1.below' hb,h.2.below' hb⟩
def Bx.rt (r:Bx):Bool:=decide ((-1073741824<=r.a∧r.a<=1073741824)∧(-1073741824<=r.b∧r.b<=1073741824)∧(-1073741824<=r.c∧r.c<=1073741824)∧(-1073741824<=r.d∧r.d<=1073741824))
def Bx.grow (r:Bx) (n:Int):Bx:=if r.emp=true then Bx.o else Bx.nrm ⟨r.a - n,r.b - n,r.c+n,r.d+n⟩
def Bx.wide (r:Bx):Bool:=decide ((-1099511627776<=r.a∧r.a<=1099511627776)∧(-1099511627776<=r.b∧r.b<=1099511627776)∧(-1099511627776<=r.c∧r.c<=1099511627776)∧(-1099511627776<=r.d∧r.d<=1099511627776))
end Go.Proofs.YthoildbfghfhpaaGreat
namespace Go.Proofs.YthoildbfghfhpaaGreat
namespace imm
structure Eg where
 y:Int
 x0:Int
 x1:Int
 m:Int
instance:Inhabited Eg:=⟨⟨0,0,0,0⟩⟩
def ind (p:Bool):Int:=if p=true then 1 else 0
def Eg.st (e:Eg) (x:Int):Int:=e.m*(ind (decide (e.x0=x)) - ind (decide (e.x1=x)))
def tot (f:Eg->Int):List Eg->Int
 | []=>0
 | e::l=>f e+tot f l
def cnt (F:Nat->Bool):Nat->Nat
 | 0=>0
 | n+1=>cnt F n+if F n=true then 1 else 0
end imm
end Go.Proofs.YthoildbfghfhpaaGreat
namespace Go.Proofs.YthoildbfghfhpaaGreat
open Go.RowKit pxm imm
def imV (W H:Int) (A:Option Addr) (n c:Nat):Value:=.agg (Vp W H A n c).toArray
def eW (n:Nat):Value:=.int .u32 (n:Nat)
theorem Blk.c3 {w:World} {g:Nat} {p q r:Value} (h:Blk w g [p,q,r]):(w.cell? ⟨g,0,none⟩=some p∧w.cell? ⟨g,1,none⟩=some q∧w.cell? ⟨g,2,none⟩=some r) ∧
  (w.frozen? ⟨g,0,none⟩=false∧w.frozen? ⟨g,1,none⟩=false∧w.frozen? ⟨g,2,none⟩=false)∧g<w.heap.size:=
 ⟨⟨h.cell 0,h.cell 1,h.cell 2⟩,⟨h.free 0,h.free 1,h.free 2⟩,h.inside⟩
theorem mx2 (x y:Int):∃ M:Int,(∀ (P:Program) (w:World) (ts:Array TypeId) (t:TypeId),(Builtin.max_ ts t #[.int .i64 x,.int .i64 y]).run P w=.ok (.int .i64 M) w)∧(∀ a,M<=a↔x<=a∧y<=a):=by
 refine ⟨_,fun P w ts t=>run_max_int2 w ts t _ _ x y,fun a=>?_⟩;split<;>omega
theorem mn2 (x y:Int):∃ M:Int,(∀ (P:Program) (w:World) (ts:Array TypeId) (t:TypeId),(Builtin.min_ ts t #[.int .i64 x,.int .i64 y]).run P w=.ok (.int .i64 M) w)∧(∀ a,a<=M↔a<=x∧a<=y):=by
 refine ⟨_,fun P w ts t=>run_min_int2 w ts t _ _ x y,fun a=>?_⟩;split<;>omega
def sidesB (W H:Int):Bool:=decide (1<=W∧1<=H∧W<=4096∧H<=4096)
theorem sides_any (W H:Int) (w:World):Calls Tryz.prog 189 #[.int .i64 W,.int .i64 H] w fun e w'=>e=.returned (.bool (sidesB W H))∧Below w.heap.size w w':=by
 obtain ⟨M,hmax,hM⟩:=mx2 W H;obtain ⟨m,hmin,hm⟩:=mn2 W H;specialize hM 4096;specialize hm 1;by_cases t1:1<=m
 ·have t:decide (1<=m)=true:=by simpa using t1
  have HS:Hid (sidesB W H=decide (M<=4096)):=decide_eq_decide.2 (by omega);generalize sidesB W H=S at *;generalize hd:decide (M<=4096)=d at *;clear hM hm t1;go_enter Tryz.func189,Tryz.ntmps189;go_wp2_with (fail);go_ret;exact ⟨ret_bool HS.out.symm,bR⟩
 ·have t:decide (1<=m)=false:=by simpa using t1
  have HS:Hid (sidesB W H=false):=decide_eq_false (by omega);generalize sidesB W H=S at *;clear hM hm t1;go_enter Tryz.func189,Tryz.ntmps189;go_wp2_with (fail);go_ret;exact ⟨ret_bool HS.out.symm,bR⟩
def wholeB (W H:Int) (n:Nat):Bool:=sidesB W H&&decide ((n:Int)=W*H)
theorem sidesB_iff {W H:Int}:sidesB W H=true↔1<=W∧1<=H∧W<=4096∧H<=4096:=by unfold sidesB;exact decide_eq_true_iff
theorem mul_small {W H:Int} (h:sidesB W H=true):1<=W*H∧W*H<=16777216:=by
 obtain ⟨h1,h2,h3,h4⟩:=sidesB_iff.1 h;have e1:0<=(W - 1)*H:=Int.mul_nonneg (by omega) (by omega);have e2:0<=(4096 - W)*H:=Int.mul_nonneg (by omega) (by omega);rw [Int.sub_mul] at e1 e2;omega
theorem bel1 {w w1:World} {o:Obj} (hb:Below (w.alloc o).heap.size (w.alloc o) w1):Below w.heap.size w w1:=(bR.alloc nR _).trans (hb.mono (by simp))
theorem whole_any (W H:Int) (A:Option Addr) (n c:Nat) (hn:n<=maxLen) (w:World):Calls Tryz.prog 190 #[imV W H A n c] w fun e w'=>e=.returned (.bool (wholeB W H n))∧Below w.heap.size w w':=by
 have HS:=Hd (fun w=>sides_any W H w);have HW:Hid (wholeB W H n=(sidesB W H&&decide ((n:Int)=W*H))):=rfl;have HM:=Hd (fun h=>mul_small (W:=W) (H:=H) h)
 replace hn:n<=9223372036854775807:=by unfold maxLen at hn;omega
 generalize wholeB W H n=R at *;generalize sidesB W H=S at *;unfold imV;go_enter Tryz.func190,Tryz.ntmps190;go_wp2_with (fail);refine (HS.out _).mono ?_;rintro e w1 ⟨rfl,hb⟩;have hB:=Hd (bel1 hb);have hR:Hid (Blk w1 w.heap.size (Vp W H A n c)):=(blk_at w _ rfl (Vp W H A n c) _).below hb (by simp);clear hb HS;obtain ⟨⟨c0,c1,c2⟩,-,ci⟩:=hR.out.c3;cases S with
 | false=>
  go_wp2_with (fail);go_ret;exact ⟨ret_bool HW.out.symm,hB.out⟩
 | true=>
  obtain ⟨m1,m2⟩:=HM.out rfl;have q:wrap64 (W*H)=W*H:=IntWalk.wrap64_in _ (by omega);have HW2:=HW.out;rw [Bool.true_and] at HW2;clear HW HM m1 m2;by_cases t1:(n:Int)=W*H
  ·have t:decide ((n:Int)=W*H)=true:=by simpa using t1
   rw [t] at HW2;subst HW2;have q1:((n:Int)==W*H)=true:=by rw [t1];simp
   clear t1;go_wp2_with (fail);go_ret;exact ⟨rfl,hB.out⟩
  ·have t:decide ((n:Int)=W*H)=false:=by simpa using t1
   rw [t] at HW2;subst HW2;have q1:((n:Int)==W*H)=false:=by simpa using t1
   clear t1;go_wp2_with (fail);go_ret;exact ⟨rfl,hB.out⟩
def rb (z:Nat):Bool:=(frm z).rightB
theorem rgt_any (z:Nat) (hz:z<4294967296) (w:World):Calls Tryz.prog 180 #[.int .u32 (z:Nat)] w fun e w'=>e=.returned (.bool (rb z))∧Drew w w':=by
 have:=pright_any (frm z) (frm_bytes hz) w;rw [num_frm] at this;exact this
def chk (W H:Int) (l:List Nat):Int:=if sidesB W H=true then (if wholeB W H l.length=true then (if l.all rb=true then 0 else 10) else 10) else 11
theorem all_takeI {α:Type} {p:α->Bool} {l:List α} {k:Nat} (h:(l.take k).all p=true) (hk:k<l.length) (hp:p l[k]=true):(l.take (k+1)).all p=true:=by
 rw [List.take_succ_eq_append_getElem hk,List.all_append,h];simp [hp]
theorem all_no {α:Type} {p:α->Bool} {l:List α} {k:Nat} (hk:k<l.length) (hp:p l[k]=false):l.all p=false:=by
 rw [List.all_eq_false];exact ⟨_,List.getElem_mem hk,by rw [hp];simp⟩
theorem check_any (W H:Int) (A:Option Addr) (l:List Nat) (c:Nat) (hl:∀ z∈l,z<4294967296) (hn:l.length<=maxLen) (w:World) (hr:Row eW w A l) :
  Calls Tryz.prog 187 #[imV W H A l.length c] w fun e w'=>e=.returned (.int .i64 (chk W H l))∧Below w.heap.size w w':=by
 have HS:=Hd (fun w=>sides_any W H w);have HW:=Hd (fun w=>whole_any W H A l.length c hn w);have HC:Hid (chk W H l=if sidesB W H=true then (if wholeB W H l.length=true then (if l.all rb=true then 0 else 10) else 10) else 11):=rfl
 replace hn:l.length<=9223372036854775807:=by unfold maxLen at hn;omega
 generalize chk W H l=R at *;generalize wholeB W H l.length=T at *;generalize sidesB W H=S at *;unfold imV at *;go_enter Tryz.func187,Tryz.ntmps187;go_wp2_with (fail);refine (HS.out _).mono ?_;rintro e w1 ⟨rfl,hb⟩;have hB:=Hd (bel1 hb);have hR:Hid (Blk w1 w.heap.size (Vp W H A l.length c)):=(blk_at w _ rfl (Vp W H A l.length c) _).below hb (by simp);clear hb HS;obtain ⟨⟨c0,c1,c2⟩,-,ci⟩:=hR.out.c3;cases S with
 | false=>
  go_wp2_with (fail);go_ret;exact ⟨ret_num HC.out.symm,hB.out⟩
 | true=>
  go_wp2_with (fail);refine (HW.out _).mono ?_;rintro e w2 ⟨rfl,hb⟩;have hB2:Hid (Below w.heap.size w w2):=hB.out.trans (hb.mono hB.out.size);have hR2:Hid (Blk w2 w.heap.size (Vp W H A l.length c)):=hR.out.below' hb;clear hb HW hB hR c0 c1 c2 ci;obtain ⟨⟨c0,c1,c2⟩,-,ci⟩:=hR2.out.c3;cases T with
  | false=>
   go_wp2_with (fail);go_ret;exact ⟨ret_num HC.out.symm,hB2.out⟩
  | true=>
   have HC2:Hid (R=if l.all rb=true then 0 else 10):=HC.out;have HR:=Hd (hr.below hB2.out);have HL:=Hd hl;clear hr HC hl;go_wp2_with (fail);clear c0 c1 c2 ci
   go_loopw [17] (fun i wr=>∃ k:Nat,k<=l.length∧i=.int .i64 k∧Hid ((l.take k).all rb=true)∧Hid (Drew w2 wr)) (fun i _=>l.length - (intOf i).toNat)
   case atStart=>exact ⟨0,Nat.zero_le _,rfl,rfl,Drew.refl _⟩
   case round=>
    obtain ⟨k,hk,rfl,HK,HD⟩:=hrel;by_cases hlt:k<l.length
    ·obtain ⟨b,off,eA,hc⟩:=(HR.out.below (HD.out.below _)).at_ hlt;have hA:=Hd eA;subst eA;have hz:l[k]<4294967296:=HL.out _ (List.getElem_mem hlt);have HP:=Hd (fun w=>rgt_any l[k] hz w);have H1:=Hd (all_takeI HK.out hlt);have H0:=Hd (all_no (p:=rb) hlt);clear hA;generalize l[k]=z at *;unfold eW at hc;go_wp2_with (fail);refine (HP.out _).mono ?_;rintro e w3 ⟨rfl,hd⟩;have HD3:=Hd (HD.out.trans hd);clear hd HP hc;generalize rb z=y at *;cases y with
     | false=>
      have HF:=Hd (HC2.out.trans (if_neg (by rw [H0.out rfl];decide)));go_wp2_with (fail);go_ret;exact ⟨ret_num HF.out.symm,hB2.out.trans (HD3.out.below _)⟩
     | true=>
      go_wp2_with (fail)
      go_roundw
      case rel=>exact ⟨k+1,by omega,by go_num,H1.out (by trivial),HD3⟩
      case measure=>simp [intOf];omega
    ·obtain rfl:k=l.length:=by omega
     have HF:=Hd (HC2.out.trans (if_pos (by have:=HK.out;rwa [List.take_length] at this)));have t:decide (l.length<l.length)=false:=by simp
     go_wp2_with (fail);go_ret;exact ⟨ret_num HF.out.symm,hB2.out.trans (HD.out.below _)⟩
def smallB (W H:Int) (l:List Nat):Bool:=decide (W<=256∧H<=256)&&decide (chk W H l=0)
theorem small_any (W H:Int) (A:Option Addr) (l:List Nat) (c:Nat) (hl:∀ z∈l,z<4294967296) (hn:l.length<=maxLen) (w:World) (hr:Row eW w A l) :
  Calls Tryz.prog 181 #[imV W H A l.length c] w fun e w'=>e=.returned (.bool (smallB W H l))∧Below w.heap.size w w':=by
 have HC:=Hd (fun w hr=>check_any W H A l c hl hn w hr);have HB:Hid (smallB W H l=(decide (W<=256∧H<=256)&&decide (chk W H l=0))):=rfl;obtain ⟨M,hmax,hM⟩:=mx2 W H;specialize hM 256
 replace hn:l.length<=9223372036854775807:=by unfold maxLen at hn;omega
 generalize smallB W H l=R at *;generalize chk W H l=K at *;have HR:=Hd hr;unfold imV at *;by_cases t1:M<=256
 ·have t:decide (M<=256)=true:=by simpa using t1
  have HB2:Hid (R=decide (K=0)):=by rw [HB.out,decide_eq_true (hM.1 t1),Bool.true_and];exact rfl
  clear hM HB t1 hr;go_enter Tryz.func181,Tryz.ntmps181;go_wp2_with (fail);refine (HC.out _ (HR.out.alloc _)).mono ?_;rintro e w1 ⟨rfl,hb⟩;have hB:=Hd (bel1 hb);clear hb HC;by_cases k0:K=0
  ·have q:(K==0)=true:=by simpa using k0
   have HB3:=Hd (HB2.out.trans (decide_eq_true k0));clear k0;go_wp2_with (fail);go_ret;exact ⟨ret_bool HB3.out.symm,hB.out⟩
  ·have q:(K==0)=false:=by simpa using k0
   have HB3:=Hd (HB2.out.trans (decide_eq_false k0));clear k0;go_wp2_with (fail);go_ret;exact ⟨ret_bool HB3.out.symm,hB.out⟩
 ·have t:decide (M<=256)=false:=by simpa using t1
  have HB2:Hid (R=false):=by rw [HB.out,decide_eq_false (fun h=>t1 (hM.2 h)),Bool.false_and];exact rfl
  clear hM HB t1 hr HC;go_enter Tryz.func181,Tryz.ntmps181;go_wp2_with (fail);go_ret;exact ⟨ret_bool HB2.out.symm,bR.alloc nR _⟩
end Go.Proofs.YthoildbfghfhpaaGreat
namespace Go.Proofs.YthoildbfghfhpaaGreat
open Go.RowKit pxm imm
theorem whole_iff {W H:Int} {n:Nat}:wholeB W H n=true↔sidesB W H=true∧(n:Int)=W*H:=by
 unfold wholeB;rw [Bool.and_eq_true,decide_eq_true_eq]
structure Off (S:List Nat) (w w':World):Prop where
 os:w'.os=w.os
 tape:w'.tape=w.tape
 output:w'.output=w.output
 size:w.heap.size<=w'.heap.size
 far:∀ k,k<w.heap.size->k∉S->w'.heap[k]?=w.heap[k]?
theorem Off.refl (S:List Nat) (w:World):Off S w w:=⟨rfl,rfl,rfl,nR,fun _ _ _=>rfl⟩
theorem Off.trans {S:List Nat} {a b c:World} (h:Off S a b) (k:Off S b c):Off S a c:=
 ⟨k.os.trans h.os,k.tape.trans h.tape,k.output.trans h.output,Nat.le_trans h.size k.size,fun j hj hn=>(k.far j (Nat.lt_of_lt_of_le hj h.size) hn).trans (h.far j hj hn)⟩
theorem Off.of_below {S:List Nat} {w w':World} (hb:Below w.heap.size w w'):Off S w w':=⟨hb.os,hb.tape,hb.output,hb.size,fun k hk _=>hb.block k hk⟩
theorem Off.set {S:List Nat} {w:World} {g:Nat} (hg:g∈S) (i:Nat) (v:Value):Off S w (w.setCell ⟨g,i,none⟩ v):=
 ⟨rfl,rfl,rfl,by simp [World.setCell],fun k _ hn=>Below.heap_setCell _ _ _ _ (fun e=>hn (by rw [e];exact hg))⟩
theorem Off.to_below {S:List Nat} {w w':World} {B:Nat} (h:Off S w w') (hB:B<=w.heap.size) (hS:∀ g∈S,B<=g):Below B w w':=
 ⟨h.os,h.tape,h.output,h.size,fun k hk=>h.far k (by omega) (fun hm=>by have:=hS k hm;omega)⟩
theorem Off.mono {S S':List Nat} {w w':World} (h:Off S w w') (hS:∀ g∈S,g∈S'):Off S' w w':=⟨h.os,h.tape,h.output,h.size,fun k hk hn=>h.far k hk fun hm=>hn (hS k hm)⟩
theorem Off.blk {S:List Nat} {w w':World} {g:Nat} {cs:List Value} (h:Off S w w') (hb:Blk w g cs) (hg:g∉S):Blk w' g cs:=hb.stays (h.far g hb.inside hg)
def Px (w:World) (g:Nat) (l:List Nat):Prop:=∃ tail,Blk w g (l.map eW++tail)
section
variable {w w':World} {g:Nat} {l:List Nat}
theorem Px.inside (h:Px w g l):g<w.heap.size:=by obtain ⟨_,h⟩:=h;exact h.inside
theorem Px.cell (h:Px w g l) {j:Nat} (hj:j<l.length):w.cell? ⟨g,j,none⟩=some (eW l[j]):=by
 obtain ⟨t,h⟩:=h;rw [h.cell j,List.getElem?_append_left (by simpa using hj),List.getElem?_map,List.getElem?_eq_getElem hj];rfl
theorem Px.free (h:Px w g l) (j:Nat):w.frozen? ⟨g,j,none⟩=false:=by obtain ⟨_,h⟩:=h;exact h.free j
theorem Px.stays (h:Px w g l) (hb:w'.heap[g]?=w.heap[g]?):Px w' g l:=by obtain ⟨t,h⟩:=h;exact ⟨t,h.stays hb⟩
theorem Px.below (h:Px w g l) (hb:Below w.heap.size w w'):Px w' g l:=h.stays (hb.block g h.inside)
theorem Px.off {S:List Nat} (h:Px w g l) (ho:Off S w w') (hg:g∉S):Px w' g l:=h.stays (ho.far g h.inside hg)
theorem Px.set (h:Px w g l) {j:Nat} (hj:j<l.length) (v:Nat):Px (w.setCell ⟨g,j,none⟩ (eW v)) g (l.set j v):=by
 obtain ⟨t,h⟩:=h;refine ⟨t,?_⟩;have:=h.set j (eW v);rw [List.set_append,if_pos (by simpa using hj)] at this;rw [List.map_set];exact this
theorem Px.row (h:Px w g l):Row eW w (some ⟨g,0,none⟩) l:=fun _=>⟨g,0,rfl,fun j hj=>by rw [Nat.zero_add];exact h.cell hj⟩
end
end Go.Proofs.YthoildbfghfhpaaGreat
namespace Go.Proofs.YthoildbfghfhpaaGreat
open Go.RowKit
end Go.Proofs.YthoildbfghfhpaaGreat
namespace Go.Proofs.YthoildbfghfhpaaGreat
open Go.RowKit pxm imm
theorem take_eq_snocI {a b:List Nat} {k:Nat} (h:a.take k=b.take k) (ha:k<a.length) (hb:k<b.length) (e:a[k]=b[k]):a.take (k+1)=b.take (k+1):=by
 rw [List.take_succ_eq_append_getElem ha,List.take_succ_eq_append_getElem hb,h,e]
theorem ne_of_atI {a b:List Nat} {k:Nat} (ha:k<a.length) (hb:k<b.length) (e:¬ a[k]=b[k]):decide (a=b)=false:=
 decide_eq_false fun h=>e (by subst h;rfl)
theorem eqs_any (A1 A2:Option Addr) (l1 l2:List Nat) (c1 c2:Nat) (w:World) (h1:Row eW w A1 l1) (h2:Row eW w A2 l2) (m1:l1.length<=maxLen) (m2:l2.length<=maxLen) :
  Calls Tryz.prog 161 #[.slice A1 l1.length c1,.slice A2 l2.length c2] w fun e w'=>e=.returned (.bool (decide (l1=l2)))∧Below w.heap.size w w':=by
 have HR:=Hd (And.intro h1 h2);have m1:l1.length<=9223372036854775807:=by unfold maxLen at m1;omega
 have m2:l2.length<=9223372036854775807:=by unfold maxLen at m2;omega
 clear h1 h2;by_cases hn:l1.length=l2.length
 ·have q:((l1.length:Int) != (l2.length:Int))=false:=by simp;omega
  have HN:=Hd hn;clear hn;go_enter Tryz.func161,Tryz.ntmps161;go_wp2_with (fail);clear q
  go_loopw [13] (fun i wr=>∃ k:Nat,k<=l1.length∧i=.int .i64 k∧Hid (l1.take k=l2.take k)∧Hid (Drew w wr)) (fun i _=>l1.length - (intOf i).toNat)
  case atStart=>exact ⟨0,Nat.zero_le _,rfl,rfl,Drew.refl _⟩
  case round=>
   obtain ⟨k,hk,rfl,HK,HD⟩:=hrel;by_cases hlt:k<l1.length
   ·have t:decide (k<l1.length)=true:=by simpa using hlt
    have hlt2:k<l2.length:=by rw [← HN.out];exact hlt
    obtain ⟨b1,o1,rfl,k1⟩:=(HR.out.1.below (HD.out.below _)).at_ hlt;obtain ⟨b2,o2,rfl,k2⟩:=(HR.out.2.below (HD.out.below _)).at_ hlt2;have HS:=Hd (fun e=>take_eq_snocI HK.out hlt hlt2 e);have HO:=Hd (fun e=>ne_of_atI hlt hlt2 e);generalize l1[k]=x at *;generalize l2[k]=y at *;unfold eW at k1 k2;by_cases e:x=y
    ·have HS2:=Hd (HS.out e);have q:((x:Int) != (y:Int))=false:=by simp;omega
     clear HS HO e HN;go_wp2_with (fail)
     go_quiet (fail)
     go_wp2_with (fail)
     go_roundw
     case rel=>exact ⟨k+1,by omega,by go_num,HS2,HD.out.trans ⟨_,rfl⟩⟩
     case measure=>simp [intOf];omega
    ·have HO2:=Hd (HO.out e);have q:((x:Int) != (y:Int))=true:=by simp;omega
     clear HS HO e HN;go_wp2_with (fail)
     go_quiet (fail)
     go_wp2_with (fail);go_ret;exact ⟨ret_bool HO2.out.symm,(HD.out.trans ⟨_,rfl⟩).below _⟩
   ·obtain rfl:k=l1.length:=by omega
    have HF:Hid (decide (l1=l2)=true):=decide_eq_true (by have:=HK.out;rw [List.take_length,HN.out,List.take_length] at this;exact this);have t:decide (l1.length<l1.length)=false:=by simp
    go_wp2_with (fail);go_ret;exact ⟨ret_bool HF.out.symm,HD.out.below _⟩
 ·have q:((l1.length:Int) != (l2.length:Int))=true:=by simp;omega
  have HF:Hid (decide (l1=l2)=false):=decide_eq_false fun e=>hn (by rw [e]);clear hn;go_enter Tryz.func161,Tryz.ntmps161;go_wp2_with (fail);go_ret;exact ⟨ret_bool HF.out.symm,bR⟩
def eqB (W1 H1:Int) (l1:List Nat) (W2 H2:Int) (l2:List Nat):Bool:=decide (W1=W2)&&(decide (H1=H2)&&decide (l1=l2))
theorem equal_any (W1 H1:Int) (A1:Option Addr) (l1:List Nat) (c1:Nat) (W2 H2:Int) (A2:Option Addr) (l2:List Nat) (c2:Nat) (w:World) (h1:Row eW w A1 l1) (h2:Row eW w A2 l2) (m1:l1.length<=maxLen) (m2:l2.length<=maxLen) :
  Calls Tryz.prog 144 #[imV W1 H1 A1 l1.length c1,imV W2 H2 A2 l2.length c2] w fun e w'=>e=.returned (.bool (eqB W1 H1 l1 W2 H2 l2))∧Below w.heap.size w w':=by
 have HR:=Hd (And.intro h1 h2);have HE:=Hd (fun w h1 h2=>eqs_any A1 A2 l1 l2 c1 c2 w h1 h2 m1 m2);have HQ:Hid (eqB W1 H1 l1 W2 H2 l2=(decide (W1=W2)&&(decide (H1=H2)&&decide (l1=l2)))):=rfl;clear h1 h2 m1 m2;generalize eqB W1 H1 l1 W2 H2 l2=R at *;generalize decide (l1=l2)=y at *;unfold imV;by_cases t1:W1=W2
 ·have q1:(W1==W2)=true:=by simpa using t1
  rw [decide_eq_true t1,Bool.true_and] at HQ;clear t1;by_cases t2:H1=H2
  ·have q2:(H1==H2)=true:=by simpa using t2
   rw [decide_eq_true t2,Bool.true_and] at HQ;clear t2;go_enter Tryz.func144,Tryz.ntmps144;go_wp2_with (fail);have HB:Hid (Below w.heap.size w ((w.alloc (.cells (Vp W1 H1 A1 l1.length c1).toArray 72)).alloc (.cells (Vp W2 H2 A2 l2.length c2).toArray 72))):=(bR.alloc nR _).alloc (by simp) _;refine (HE.out _ (HR.out.1.below HB.out) (HR.out.2.below HB.out)).mono ?_;rintro e w2 ⟨rfl,hb⟩;have HB2:=Hd (HB.out.trans (hb.mono HB.out.size));clear hb HE;go_wp2_with (fail);go_ret;exact ⟨ret_bool HQ.out.symm,HB2.out⟩
  ·have q2:(H1==H2)=false:=by simpa using t2
   rw [decide_eq_false t2,Bool.false_and] at HQ;clear t2 HE;go_enter Tryz.func144,Tryz.ntmps144;go_wp2_with (fail);go_ret;exact ⟨ret_bool HQ.out.symm,(bR.alloc nR _).alloc (by simp) _⟩
 ·have q1:(W1==W2)=false:=by simpa using t1
  rw [decide_eq_false t1,Bool.false_and] at HQ;clear t1 HE;go_enter Tryz.func144,Tryz.ntmps144;go_wp2_with (fail);go_ret;exact ⟨ret_bool HQ.out.symm,(bR.alloc nR _).alloc (by simp) _⟩
theorem info_px:(Tryz.prog.info? 69).map (fun i=>(i.zero,i.size,i.bytes))=some (some (.int .u32 0),1,4):=by kernel_rfl
theorem slice_nil (A:Option Addr) (n c:Nat) (w:World):(binOp .eql 70 (.slice A n c) (.slice none 0 0)).run Tryz.prog w=.ok (.bool A.isNone) w:=by
 have h:=run_equal_slice_nil (P:=Tryz.prog) w 70 _ A n c Tryz.underlying70;unfold binOp;simp [h,go_sem]
def eWs (z:Nat):List Value:=[eW z]
theorem eWs_len (z:Nat):(eWs z).length=1:=rfl
theorem flat_eWs (l:List Nat):l.flatMap eWs=l.map eW:=by
 induction l with
 | nil=>rfl
 | cons x l ih=>rw [List.flatMap_cons,ih,List.map_cons];rfl
theorem SRow.row1 {w:World} {A:Option Addr} {l:List Nat} (h:SRow 1 eWs w A l):Row eW w A l:=fun hn=>by
 obtain ⟨b,off,e,hc⟩:=h hn;refine ⟨b,off,e,fun j hj=>?_⟩;have:=hc j hj 0 (eW l[j]) rfl
 rwa [Nat.mul_one,Nat.add_zero] at this
theorem Row.by_block {w w':World} {A:Option Addr} {l:List Nat} (h:Row eW w A l) (hb:∀ b o,A=some ⟨b,o,none⟩->w'.heap[b]?=w.heap[b]?):Row eW w' A l:=fun hn=>by
 obtain ⟨b,off,e,hc⟩:=h hn;refine ⟨b,off,e,fun j hj=>?_⟩;rw [← hc j hj];simp only [World.cell?,hb b off e]
def Pxs (w:World) (base:Nat) (A:Option Addr) (l:List Nat) (c:Nat):Prop:=Row eW w A l∧(∀ b o,A=some ⟨b,o,none⟩->base<=b∧∀ j,w.frozen? ⟨b,j,none⟩=false)∧(A=none->c=0)∧l.length<=c∧c<=maxLen
def CloneQI (l:List Nat) (w:World) (e:Ending) (w':World):Prop:=∃ A9 cap,e=.returned (.slice A9 l.length cap)∧Pxs w' w.heap.size A9 l cap∧Below w.heap.size w w'
theorem clone_any (A:Option Addr) (l:List Nat) (c:Nat) (w:World) (hr:Row eW w A l) (hn2:l.length<=20000000):Calls Tryz.prog 146 #[.slice A l.length c] w (CloneQI l w):=by
 unfold CloneQI;cases A with
 | none=>
  obtain rfl:l=[]:=by
   by_cases h:0<l.length
   ·obtain ⟨b,o,e,_⟩:=hr h;cases e
   ·exact List.eq_nil_of_length_eq_zero (by omega)
  clear hr hn2;have hq:∀ w,(binOp .eql 70 (.slice none 0 c) (.slice none 0 0)).run Tryz.prog w=.ok (.bool true) w:=fun w=>slice_nil none 0 c w;simp only [List.length_nil];go_enter Tryz.func146,Tryz.ntmps146;go_wp2_with (fail);go_ret;exact ⟨none,0,rfl,⟨Row.none_ rfl,(fun _ _ h=>nomatch h),(fun _=>rfl),nR,by unfold maxLen;omega⟩,bR⟩
 | some a=>
  have hl:SOwn 69 1 eWs (w.alloc (.cells #[] 69)) w.heap.size (.slice (some ⟨w.heap.size,0,none⟩) 0 0) []:=SOwn.lit eWs_len w [] nR (by simp);obtain ⟨i,hi,hz,hsize,hby⟩:=info_parts info_px
  obtain ⟨v',w',hrun,ho,hg,hnil,-⟩:=run_append_own_at (P:=Tryz.prog) (w.alloc (.cells #[] 69)) w.heap.size 70 70 69 i (.int .u32 0) 1 4 Tryz.underlying70 hi hz hsize hby rfl (by decide) _ 0 [] hl a l.length c (l.map eW) (by simp) (by
    intro j u hj;obtain ⟨h1,h2⟩:=List.getElem?_eq_some_iff.1 hj;rw [List.length_map] at h1
    obtain ⟨b,off,e,hc⟩:=(hr.alloc (.cells #[] 69)) (by omega)
    obtain rfl:=Option.some.inj e;have e2:(⟨b,off,none⟩:Addr).add j=⟨b,off+j,none⟩:=by unfold Addr.add;split<;>simp_all
    rw [e2,hc j h1,← h2,List.getElem_map]) (by
    intro u hu;obtain ⟨z,_,rfl⟩:=List.mem_map.1 hu
    rfl) (by unfold maxLen;omega) (by omega) (by simp)
  have HO:Hid (SOwn 69 1 eWs w' w.heap.size v' l):=by
   rw [Nat.zero_add,List.nil_append,← flat_eWs] at ho;exact ho
  have HB:Hid (Below w.heap.size w w'):=by
   have h1:Below w.heap.size w (w.alloc (.cells #[] 69)):=bR.alloc nR _;exact h1.grown hg (by simp) (fun j hj=>by cases hj;exact nR)
  have hn3:l.length<=9223372036854775807:=by omega
  have HNI:=Hd hnil;clear hr hl ho hg hn2 hnil hi hz hsize hby;have hq:∀ w,(binOp .eql 70 (.slice (some a) l.length c) (.slice none 0 0)).run Tryz.prog w=.ok (.bool false) w:=fun w=>slice_nil _ _ _ w;go_enter Tryz.func146,Tryz.ntmps146;go_wp2_with (at_builtin;refine wpl_append rfl _ _ 70 70 70 rfl rfl _ _ _ _ rfl rfl hrun ?_;clear hrun);go_ret;obtain ⟨A9,c9,rfl,h1,h2,h3⟩:=HO.out.row eWs_len;refine ⟨A9,c9,rfl,⟨h3.row1,(fun b o e=>?_),(fun e=>?_),h1,h2⟩,HB.out⟩
  ·subst e;refine ⟨(HO.out.block rfl).1,fun j=>?_⟩;rcases HO.out.2 with ⟨h,_⟩ | ⟨g,cap,cur,h,hg,hgg,_⟩
   ·injection h with h _ _;cases h
   ·injection h with h _ _
    cases h;exact frozen_of_row _ _ _ _ _ hgg
  ·subst e;rcases HO.out.2 with ⟨h,_⟩ | ⟨g,cap,cur,h,_⟩
   ·injection h
   ·injection h with h _ _;cases h
def CopyQ (W H:Int) (l:List Nat) (w:World) (e:Ending) (w':World):Prop:=∃ A9 cap,e=.returned (imV W H A9 l.length cap)∧Pxs w' w.heap.size A9 l cap∧Below w.heap.size w w'
theorem copy_any (W H:Int) (A:Option Addr) (l:List Nat) (c:Nat) (w:World) (hr:Row eW w A l) (hn2:l.length<=20000000):Calls Tryz.prog 131 #[imV W H A l.length c] w (CopyQ W H l w):=by
 have HR:=Hd hr;have HC:=Hd (fun w hr=>clone_any A l c w hr hn2);unfold CloneQI at HC;unfold CopyQ;have hn3:l.length<=9223372036854775807:=by omega
 clear hr hn2;unfold imV;go_enter Tryz.func131,Tryz.ntmps131;go_wp2_with (fail)
 obtain ⟨w1,hw1⟩:∃ w1,((w.alloc (.cells (Vp W H A l.length c).toArray 72)).alloc (.cells Vt.toArray 72))=w1:=⟨_,rfl⟩
 have HB1:Hid (Below w.heap.size w w1):=by rw [← hw1];exact (bR.alloc nR _).alloc (by simp) _
 have KM:Hid (Blk w1 w.heap.size (Vp W H A l.length c)):=by rw [← hw1];exact (blk_new w (Vp W H A l.length c) _).alloc _
 have KR:Hid (Blk w1 (w.heap.size+1) Vt):=by rw [← hw1];exact blk_at (w.alloc _) _ (by simp) Vt _
 rw [hw1];clear hw1;obtain ⟨⟨c0,c1,c2⟩,-,ci⟩:=KM.out.c3;have HB1d:Hid (Below w.heap.size w w1.drew):=HB1.out.drew;have KMd:Hid (Blk w1.drew w.heap.size (Vp W H A l.length c)):=KM.out;have KRd:Hid (Blk w1.drew (w.heap.size+1) Vt):=KR.out
 go_region_held3 (fun w'=>w'.cell? ⟨w.heap.size,0,none⟩=some (.int .i64 W)∧w'.cell? ⟨w.heap.size,1,none⟩=some (.int .i64 H)∧w'.cell? ⟨w.heap.size,2,none⟩=some (.slice A l.length c))
  (first | exact ⟨KMd.out.c3.1.1,KMd.out.c3.1.2.1,KMd.out.c3.1.2.2⟩ | exact ⟨x0,x1,x2⟩ | go_keep)
  ((first | (go_at_call 146;refine (HC.out _ (HR.out.below HB1d.out)).mono ?_;rintro e w2 ⟨A9,cap9,rfl,hx9,hb9⟩;have k2:Blk w2 w.heap.size (Vp W H A l.length c):=KMd.out.below' hb9;have k3:Blk w2 (w.heap.size+1) Vt:=KRd.out.below' hb9;have x0:w2.cell? ⟨w.heap.size,0,none⟩=some (.int .i64 W):=k2.c3.1.1;have x1:w2.cell? ⟨w.heap.size,1,none⟩=some (.int .i64 H):=k2.c3.1.2.1;have x2:w2.cell? ⟨w.heap.size,2,none⟩=some (.slice A l.length c):=k2.c3.1.2.2;have y0:w2.cell? ⟨w.heap.size+1,0,none⟩=some (.int .i64 0):=k3.c3.1.1;have y1:w2.cell? ⟨w.heap.size+1,1,none⟩=some (.int .i64 0):=k3.c3.1.2.1;have y2:w2.cell? ⟨w.heap.size+1,2,none⟩=some (.slice none 0 0):=k3.c3.1.2.2;have z0:w2.frozen? ⟨w.heap.size+1,0,none⟩=false:=k3.c3.2.1.1;have z1:w2.frozen? ⟨w.heap.size+1,1,none⟩=false:=k3.c3.2.1.2.1;have z2:w2.frozen? ⟨w.heap.size+1,2,none⟩=false:=k3.c3.2.1.2.2;have hlt2:w.heap.size+1<w2.heap.size:=k3.c3.2.2)))
 have hz1:w1.drew.heap.size=w1.heap.size:=rfl
 have HX:Hid (Pxs (((w2.setCell ⟨w.heap.size+1,0,none⟩ (.int .i64 W)).setCell ⟨w.heap.size+1,1,none⟩ (.int .i64 H)).setCell ⟨w.heap.size+1,2,none⟩ (.slice A9 l.length cap9)) w.heap.size A9 l cap9):=by
  refine ⟨hx9.1.by_block fun b o e=>?_,fun b o e=>⟨Nat.le_trans HB1d.out.size (hx9.2.1 b o e).1,fun j=>?_⟩,hx9.2.2⟩
  ·have hne:b≠w.heap.size+1:=by have:=hx9.2.1 b o e;have:=KR.out.inside;have:w1.drew.heap.size=w1.heap.size:=rfl;omega
   rw [Below.heap_setCell _ _ _ _ hne,Below.heap_setCell _ _ _ _ hne,Below.heap_setCell _ _ _ _ hne]
  ·refine (World.frozen?_of_block ?_).trans ((hx9.2.1 b o e).2 j);have hne:b≠w.heap.size+1:=by have:=hx9.2.1 b o e;have:=KR.out.inside;have:w1.drew.heap.size=w1.heap.size:=rfl;omega
   rw [Below.heap_setCell _ _ _ _ hne,Below.heap_setCell _ _ _ _ hne,Below.heap_setCell _ _ _ _ hne]
 have HB2:Hid (Below w.heap.size w (((w2.setCell ⟨w.heap.size+1,0,none⟩ (.int .i64 W)).setCell ⟨w.heap.size+1,1,none⟩ (.int .i64 H)).setCell ⟨w.heap.size+1,2,none⟩ (.slice A9 l.length cap9))):=
  below_set (below_set (below_set (HB1d.out.trans (hb9.mono HB1d.out.size)) (by omega)) (by omega)) (by omega)
 have HK:=Hd (((k3.set 0 (.int .i64 W)).set 1 (.int .i64 H)).set 2 (.slice A9 l.length cap9));clear hx9 hb9 k2 k3 x0 x1 x2 y0 y1 y2 z0 z1 z2 hlt2 c0 c1 c2 ci;generalize (((w2.setCell ⟨w.heap.size+1,0,none⟩ (.int .i64 W)).setCell ⟨w.heap.size+1,1,none⟩ (.int .i64 H)).setCell ⟨w.heap.size+1,2,none⟩ (.slice A9 l.length cap9))=w5 at *;go_wp2_with (fail);exact blk_ret rfl rfl HK.out Tryz.underlying72 rfl (by kernel_rfl) ⟨A9,cap9,rfl,HX.out,HB2.out⟩
end Go.Proofs.YthoildbfghfhpaaGreat
namespace Go.Proofs.YthoildbfghfhpaaGreat
open Go.RowKit pxm imm
def lkV (k W H:Int) (p:Nat) (iw ih:Int) (A:Option Addr) (n c:Nat):Value:=.agg (Vj k W H p iw ih A n c).toArray
theorem blk7 (w:World) (k W H:Int) (p:Nat) (iw ih:Int) (A:Option Addr) (n c:Nat) (T:TypeId):Blk (w.alloc (.cells (Vj k W H p iw ih A n c).toArray T)) w.heap.size (Vj k W H p iw ih A n c):=
 blk_new w (Vj k W H p iw ih A n c) T
theorem Blk.c7 {w:World} {g:Nat} {a b c d e f h:Value} (hB:Blk w g [a,b,c,d,e,f,h]):(w.cell? ⟨g,0,none⟩=some a∧w.cell? ⟨g,1,none⟩=some b∧w.cell? ⟨g,2,none⟩=some c∧w.cell? ⟨g,3,none⟩=some d∧w.cell? ⟨g,4,none⟩=some e∧w.cell? ⟨g,5,none⟩=some f∧w.cell? ⟨g,6,none⟩=some h) ∧
  (w.frozen? ⟨g,0,none⟩=false∧w.frozen? ⟨g,1,none⟩=false∧w.frozen? ⟨g,2,none⟩=false∧w.frozen? ⟨g,3,none⟩=false∧w.frozen? ⟨g,4,none⟩=false∧w.frozen? ⟨g,5,none⟩=false∧w.frozen? ⟨g,6,none⟩=false)∧g<w.heap.size:=
 ⟨⟨hB.cell 0,hB.cell 1,hB.cell 2,hB.cell 3,hB.cell 4,hB.cell 5,hB.cell 6⟩,⟨hB.free 0,hB.free 1,hB.free 2,hB.free 3,hB.free 4,hB.free 5,hB.free 6⟩,hB.inside⟩
def fmC (b:Bool):Int:=if b=true then 0 else 10
theorem formed_any (b:Bool) (w:World):Calls Tryz.prog 177 #[.bool b] w fun e w'=>e=.returned (.int .i64 (fmC b))∧Below w.heap.size w w':=by
 cases b
 all_goals
  go_enter Tryz.func177,Tryz.ntmps177;go_wp2_with (fail);go_ret;exact ⟨rfl,bR⟩
def hasF (W H:Int) (p:Nat):Bool:=decide (¬ (W=0∧H=0∧p=0))
theorem hasFill_any (k W H:Int) (p:Nat) (iw ih:Int) (A:Option Addr) (n c:Nat) (w:World):Calls Tryz.prog 178 #[lkV k W H p iw ih A n c] w fun e w'=>e=.returned (.bool (hasF W H p))∧Below w.heap.size w w':=by
 obtain ⟨R,hR⟩:∃ R,hasF W H p=R:=⟨_,rfl⟩
 rw [hR];have HR:=Hd hR;clear hR;unfold lkV;by_cases t1:W=0
 ·have q1:(W != 0)=false:=by simp;omega
  by_cases t2:H=0
  ·have q2:(H != 0)=false:=by simp;omega
   have HF:Hid (R=((p:Int) != 0)):=by
    show R=_;rw [← HR.out,Bool.eq_iff_iff];unfold hasF;simp [t1,t2]
    try omega
   generalize hq:((p:Int) != 0)=y at HF;obtain rfl:=HF.out;clear t1 t2 HR HF;go_enter Tryz.func178,Tryz.ntmps178;go_wp2_with (fail);go_ret;exact ⟨rfl,bR.alloc nR _⟩
  ·have q2:(H != 0)=true:=by simp;omega
   obtain rfl:R=true:=by rw [← HR.out];exact decide_eq_true (fun h=>t2 h.2.1)
   clear t1 t2 HR;go_enter Tryz.func178,Tryz.ntmps178;go_wp2_with (fail);go_ret;exact ⟨rfl,bR.alloc nR _⟩
 ·have q1:(W != 0)=true:=by simp;omega
  obtain rfl:R=true:=by rw [← HR.out];exact decide_eq_true (fun h=>t1 h.1)
  clear t1 HR;go_enter Tryz.func178,Tryz.ntmps178;go_wp2_with (fail);go_ret;exact ⟨rfl,bR.alloc nR _⟩
def hasI (iw ih:Int) (l:List Nat):Bool:=!eqB iw ih l 0 0 []
theorem hasImage_any (k W H:Int) (p:Nat) (iw ih:Int) (A:Option Addr) (l:List Nat) (c:Nat) (hn:l.length<=maxLen) (w:World) (hr:Row eW w A l):Calls Tryz.prog 179 #[lkV k W H p iw ih A l.length c] w fun e w'=>e=.returned (.bool (hasI iw ih l))∧Below w.heap.size w w':=by
 have HE:=Hd (fun w h1=>equal_any iw ih A l c 0 0 none [] 0 w h1 (Row.none_ rfl) hn (by simp));have HR:=Hd hr;have HI:Hid (hasI iw ih l=!eqB iw ih l 0 0 []):=rfl;clear hr hn;generalize eqB iw ih l 0 0 []=y at *;generalize hasI iw ih l=R at *;unfold imV at HE;simp only [List.length_nil] at HE;unfold lkV;go_enter Tryz.func179,Tryz.ntmps179;go_wp2_with (fail);have HB:Hid (Below w.heap.size w (w.alloc (.cells (Vj k W H p iw ih A l.length c).toArray 74))):=bR.alloc nR _;refine (HE.out _ (HR.out.below HB.out)).mono ?_;rintro e w1 ⟨rfl,hb⟩
 have HB2:=Hd (HB.out.trans (hb.mono HB.out.size));clear hb HE HB;go_wp2_with (fail);go_ret;exact ⟨ret_bool HI.out.symm,HB2.out⟩
end Go.Proofs.YthoildbfghfhpaaGreat
namespace Go.Proofs.YthoildbfghfhpaaGreat
open Go.RowKit pxm imm
def lkC (k W H:Int) (p:Nat) (iw ih:Int) (l:List Nat):Int:=
 if k=0 then fmC (!hasF W H p && !hasI iw ih l) else if k=1 then (if sidesB W H=true then fmC (rb p && !hasI iw ih l) else 11) else if k=2 then fmC (smallB iw ih l && !hasF W H p) else 11
theorem bel2 {w w1 w2:World} (h:Below w.heap.size w w1) (hb:Below w1.heap.size w1 w2):Below w.heap.size w w2:=h.trans (hb.mono h.size)
theorem lkcheck_any (k W H:Int) (p:Nat) (iw ih:Int) (A:Option Addr) (l:List Nat) (c:Nat) (hp:p<4294967296) (hl:∀ z∈l,z<4294967296) (hn:l.length<=maxLen) (w:World) (hr:Row eW w A l) :
  Calls Tryz.prog 170 #[lkV k W H p iw ih A l.length c] w fun e w'=>e=.returned (.int .i64 (lkC k W H p iw ih l))∧Below w.heap.size w w':=by
 have HF:=Hd (fun w=>hasFill_any k W H p iw ih A l.length c w);have HI:=Hd (fun w hr=>hasImage_any k W H p iw ih A l c hn w hr);have HS:=Hd (fun w hr=>small_any iw ih A l c hl hn w hr);have HG:=Hd (fun w=>rgt_any p hp w);have HM:=Hd (fun b w=>formed_any b w);have HC:Hid (lkC k W H p iw ih l=if k=0 then fmC (!hasF W H p && !hasI iw ih l) else if k=1 then (if sidesB W H=true then fmC (rb p && !hasI iw ih l) else 11) else if k=2 then fmC (smallB iw ih l && !hasF W H p) else 11):=rfl;have HSI:Hid (sidesB W H=decide (1<=W∧1<=H∧W<=4096∧H<=4096)):=rfl;have HR:=Hd hr;clear hp hl hn hr
 generalize lkC k W H p iw ih l=R at *;generalize hasF W H p=bf at *;generalize hasI iw ih l=bi at *;generalize smallB iw ih l=bs at *;generalize rb p=br at *;unfold lkV imV at *;by_cases k0:k=0
 ·subst k0;have HC2:=Hd (HC.out.trans (if_pos rfl));clear HC HSI HS HG;go_enter Tryz.func170,Tryz.ntmps170;go_wp2_with (fail);refine (HF.out _).mono ?_;rintro e w1 ⟨rfl,hb⟩;have HB:=Hd (bel1 hb);have hK:Hid (Blk w1 w.heap.size [.int .i64 0,.int .i64 W,.int .i64 H,.int .u32 (p:Nat),.int .i64 iw,.int .i64 ih,.slice A l.length c]):=(blk7 w 0 W H p iw ih A l.length c _).below hb (by simp);clear hb HF;obtain ⟨⟨c0,c1,c2,c3,c4,c5,c6⟩,-,ci⟩:=hK.out.c7;cases bf with
  | true=>
   go_wp2_with (fail);refine (HM.out false _).mono ?_;rintro e w2 ⟨rfl,hb⟩;have HB2:=Hd (bel2 HB.out hb);clear hb HM HI;go_wp2_with (fail);go_ret;exact ⟨ret_num HC2.out.symm,HB2.out⟩
  | false=>
   go_wp2_with (fail);refine (HI.out _ (HR.out.below HB.out)).mono ?_;rintro e w2 ⟨rfl,hb⟩;have HB2:=Hd (bel2 HB.out hb);clear hb HI HB hK c0 c1 c2 c3 c4 c5 c6 ci;go_wp2_with (fail);refine (HM.out (!bi) _).mono ?_;rintro e w3 ⟨rfl,hb⟩;have HB3:=Hd (bel2 HB2.out hb);clear hb HM HB2;go_wp2_with (fail);go_ret;exact ⟨ret_num HC2.out.symm,HB3.out⟩
 ·have q0:(k==0)=false:=by simp;omega
  replace HC:=Hd (HC.out.trans (if_neg k0))
  clear k0;by_cases k1:k=1
  ·subst k1;clear q0;have HC2:=Hd (HC.out.trans (if_pos rfl));clear HC HS;obtain ⟨M,hmax,hM⟩:=mx2 W H;obtain ⟨m,hmin,hm⟩:=mn2 W H;specialize hM 4096;specialize hm 1;by_cases t1:m<1
   ·have t:decide (m<1)=true:=by simpa using t1
    have HS1:Hid (sidesB W H=false):=HSI.out.trans (decide_eq_false (by omega));clear hM hm t1 HSI;rw [HS1.out] at HC2;clear HS1;go_enter Tryz.func170,Tryz.ntmps170;go_wp2_with (fail);go_ret;exact ⟨ret_num HC2.out.symm,bR.alloc nR _⟩
   ·have t:decide (m<1)=false:=by simpa using t1
    by_cases t2:4096<M
    ·have t3:decide (4096<M)=true:=by simpa using t2
     have HS1:Hid (sidesB W H=false):=HSI.out.trans (decide_eq_false (by omega));clear hM hm t1 t2 HSI;rw [HS1.out] at HC2;clear HS1;go_enter Tryz.func170,Tryz.ntmps170;go_wp2_with (fail);go_ret;exact ⟨ret_num HC2.out.symm,bR.alloc nR _⟩
    ·have t3:decide (4096<M)=false:=by simpa using t2
     have HS1:Hid (sidesB W H=true):=HSI.out.trans (decide_eq_true (by omega));clear hM hm t1 t2 HSI;rw [HS1.out] at HC2;clear HS1;go_enter Tryz.func170,Tryz.ntmps170;go_wp2_with (fail);have hb0:Below w.heap.size w (w.alloc (.cells (Vj 1 W H p iw ih A l.length c).toArray 74)):=bR.alloc nR _;refine (HG.out _).mono ?_;rintro e w1 ⟨rfl,hd⟩;have HB:Hid (Below w.heap.size w w1):=hb0.trans (hd.below _);have hK:Hid (Blk w1 w.heap.size (Vj 1 W H p iw ih A l.length c)):=hd.blk (blk7 w 1 W H p iw ih A l.length c _);clear hd HG hb0 hmax hmin t t3
     obtain ⟨⟨c0,c1,c2,c3,c4,c5,c6⟩,-,ci⟩:=hK.out.c7;cases br with
     | false=>
      go_wp2_with (fail);refine (HM.out false _).mono ?_;rintro e w2 ⟨rfl,hb⟩;have HB2:=Hd (bel2 HB.out hb);clear hb HM HI;go_wp2_with (fail);go_ret;exact ⟨ret_num HC2.out.symm,HB2.out⟩
     | true=>
      go_wp2_with (fail);refine (HI.out _ (HR.out.below HB.out)).mono ?_;rintro e w2 ⟨rfl,hb⟩;have HB2:=Hd (bel2 HB.out hb);clear hb HI HB hK c0 c1 c2 c3 c4 c5 c6 ci;go_wp2_with (fail);refine (HM.out (!bi) _).mono ?_;rintro e w3 ⟨rfl,hb⟩;have HB3:=Hd (bel2 HB2.out hb);clear hb HM HB2;go_wp2_with (fail);go_ret;exact ⟨ret_num HC2.out.symm,HB3.out⟩
  ·have q1:(k==1)=false:=by simp;omega
   replace HC:=Hd (HC.out.trans (if_neg k1))
   clear k1 HSI HG;by_cases k2:k=2
   ·subst k2;clear q0 q1;have HC2:=Hd (HC.out.trans (if_pos rfl));clear HC;go_enter Tryz.func170,Tryz.ntmps170;go_wp2_with (fail);refine (HS.out _ (HR.out.alloc _)).mono ?_;rintro e w1 ⟨rfl,hb⟩;have HB:=Hd (bel1 hb);have hK:Hid (Blk w1 w.heap.size (Vj 2 W H p iw ih A l.length c)):=(blk7 w 2 W H p iw ih A l.length c _).below hb (by simp);clear hb HS;obtain ⟨⟨c0,c1,c2,c3,c4,c5,c6⟩,-,ci⟩:=hK.out.c7;cases bs with
    | false=>
     go_wp2_with (fail);refine (HM.out false _).mono ?_;rintro e w2 ⟨rfl,hb⟩;have HB2:=Hd (bel2 HB.out hb);clear hb HM HF;go_wp2_with (fail);go_ret;exact ⟨ret_num HC2.out.symm,HB2.out⟩
    | true=>
     go_wp2_with (fail);refine (HF.out _).mono ?_;rintro e w2 ⟨rfl,hb⟩;have HB2:=Hd (bel2 HB.out hb);clear hb HF HB hK c0 c1 c2 c3 c4 c5 c6 ci;go_wp2_with (fail);refine (HM.out (!bf) _).mono ?_;rintro e w3 ⟨rfl,hb⟩;have HB3:=Hd (bel2 HB2.out hb);clear hb HM HB2;go_wp2_with (fail);go_ret;exact ⟨ret_num HC2.out.symm,HB3.out⟩
   ·have q2:(k==2)=false:=by simp;omega
    replace HC:=Hd (HC.out.trans (if_neg k2))
    clear k2 HF HI HS HM HR;go_enter Tryz.func170,Tryz.ntmps170;go_wp2_with (fail);go_ret;exact ⟨ret_num HC.out.symm,bR.alloc nR _⟩
end Go.Proofs.YthoildbfghfhpaaGreat
namespace Go.Proofs.YthoildbfghfhpaaGreat
open Go.RowKit pxm imm
end Go.Proofs.YthoildbfghfhpaaGreat
namespace Go.Proofs.YthoildbfghfhpaaGreat
open Go.RowKit pxm imm
theorem max4 (x y z u:Int):∃ M:Int,(∀ (P:Program) (w:World) (ts:Array TypeId) (t:TypeId),(Builtin.max_ ts t (Vk x y z u).toArray).run P w=.ok (.int .i64 M) w)∧(∀ a,M<=a↔x<=a∧y<=a∧z<=a∧u<=a):=by
 refine ⟨if u > (if z > (if y > x then y else x) then z else (if y > x then y else x)) then u else (if z > (if y > x then y else x) then z else (if y > x then y else x)),fun P w ts t=>by simp [Builtin.max_,Builtin.max2],fun a=>?_⟩;split<;>split<;>split<;>omega
theorem min4 (x y z u:Int):∃ M:Int,(∀ (P:Program) (w:World) (ts:Array TypeId) (t:TypeId),(Builtin.min_ ts t (Vk x y z u).toArray).run P w=.ok (.int .i64 M) w)∧(∀ a,a<=M↔a<=x∧a<=y∧a<=z∧a<=u):=by
 refine ⟨if u<(if z<(if y<x then y else x) then z else (if y<x then y else x)) then u else (if z<(if y<x then y else x) then z else (if y<x then y else x)),fun P w ts t=>by simp [Builtin.min_,Builtin.min2],fun a=>?_⟩;split<;>split<;>split<;>omega
def clB (r:Bx):Bool:=decide ((-16384<=r.a∧-16384<=r.b∧-16384<=r.c∧-16384<=r.d)∧(r.a<=16384∧r.b<=16384∧r.c<=16384∧r.d<=16384))
theorem clips_any (r:Bx) (w:World):Calls Tryz.prog 169 #[r.v] w fun e w'=>e=.returned (.bool (clB r))∧Below w.heap.size w w':=by
 obtain ⟨x0,y0,x1,y1⟩:=r;have HC:Hid (clB ⟨x0,y0,x1,y1⟩=decide ((-16384<=x0∧-16384<=y0∧-16384<=x1∧-16384<=y1)∧(x0<=16384∧y0<=16384∧x1<=16384∧y1<=16384))):=rfl;obtain ⟨M,hmax,hM⟩:=max4 x0 y0 x1 y1;obtain ⟨m,hmin,hm⟩:=min4 x0 y0 x1 y1;specialize hM 16384;specialize hm (-16384);generalize clB ⟨x0,y0,x1,y1⟩=R at *;unfold Bx.v;simp only;by_cases t1:-16384<=m
 ·have t:decide (-16384<=m)=true:=by simpa using t1
  have HS:Hid (R=decide (M<=16384)):=HC.out.trans (decide_eq_decide.2 ⟨fun h=>hM.2 h.2,fun h=>⟨hm.1 t1,hM.1 h⟩⟩);generalize hd:decide (M<=16384)=d at *;clear hM hm t1 HC;go_enter Tryz.func169,Tryz.ntmps169;go_wp2_with (fail);go_ret;exact ⟨ret_bool HS.out.symm,bR.alloc nR _⟩
 ·have t:decide (-16384<=m)=false:=by simpa using t1
  have HS:Hid (R=false):=HC.out.trans (decide_eq_false (fun h=>t1 (hm.2 h.1)));clear hM hm t1 HC;go_enter Tryz.func169,Tryz.ntmps169;go_wp2_with (fail);go_ret;exact ⟨ret_bool HS.out.symm,bR.alloc nR _⟩
def ndV (m:Mp) (op:Int) (hi cl:Bool) (r:Bx) (k W H:Int) (p:Nat) (iw ih:Int) (A:Option Addr) (n c:Nat):Value:=
 .agg (Vb m.a m.b m.c m.d m.e m.f op hi cl r.a r.b r.c r.d k W H p iw ih A n c).toArray
theorem plain_any (w:World):Calls Tryz.prog 35 #[] w fun e w'=>e=.returned (ndV Mp.one 255 false false Bx.o 0 0 0 0 0 0 none 0 0)∧Below w.heap.size w w':=by
 have HO:=Hd (fun w=>mp_one w);unfold ndV;unfold Mp.v Mp.one Bx.o at *;simp only at *;go_enter Tryz.func35,Tryz.ntmps35;go_wp2_with (fail);refine (HO.out _).mono ?_;rintro e w1 ⟨rfl,hb⟩;have HB:=Hd (bel1 hb);have hK:Hid (Blk w1 w.heap.size Va):=(blk_new w Va _).below hb (by simp);clear hb HO;have hlt:=hK.out.inside
 go_wp2_with (refine wpl_stow 93 _ _ rfl rfl rfl _ 0 rfl [.int .i64 65536,.int .i64 0,.int .i64 0,.int .i64 65536,.int .i64 0,.int .i64 0,.int .i64 255,.bool false,.bool false,.int .i64 0,.int .i64 0,.int .i64 0,.int .i64 0,.int .i64 0,.int .i64 0,.int .i64 0,.int .u32 0,.int .i64 0,.int .i64 0,.slice none 0 0] rfl _ hK.out [.int .i64 65536,.int .i64 0,.int .i64 0,.int .i64 65536,.int .i64 0,.int .i64 0,.int .i64 255,.bool false,.bool false,.int .i64 0,.int .i64 0,.int .i64 0,.int .i64 0,.int .i64 0,.int .i64 0,.int .i64 0,.int .u32 0,.int .i64 0,.int .i64 0,.slice none 0 0] rfl (by simp) (by kernel_rfl) rfl ?_;intro w2 HW HK)
 exact blk_ret rfl rfl HK.out Tryz.underlying93 rfl (by kernel_rfl) ⟨rfl,HW.out.below HB.out nR⟩
def ndC (m:Mp) (op:Int) (cl:Bool) (r:Bx) (lk:Int):Int:=if (m.right&&decide (0<=op∧op<=255))=true then (if cl=true then (if clB r=true then lk else 11) else (if r=Bx.o then lk else 10)) else 11
end Go.Proofs.YthoildbfghfhpaaGreat
namespace Go.Proofs.YthoildbfghfhpaaGreat
open Go.RowKit pxm imm
theorem ndcheck_any (m:Mp) (op:Int) (hi cl:Bool) (r:Bx) (k W H:Int) (p:Nat) (iw ih:Int) (A:Option Addr) (l:List Nat) (c:Nat) (hp:p<4294967296) (hl:∀ z∈l,z<4294967296) (hn:l.length<=maxLen) (w:World) (hr:Row eW w A l) :
  Calls Tryz.prog 156 #[ndV m op hi cl r k W H p iw ih A l.length c] w fun e w'=>e=.returned (.int .i64 (ndC m op cl r (lkC k W H p iw ih l)))∧Below w.heap.size w w':=by
 have HM:=Hd (fun w=>mp_right m w);have HCL:=Hd (fun w=>clips_any r w);have HL:=Hd (fun w hr=>lkcheck_any k W H p iw ih A l c hp hl hn w hr);have hq:=fun w=>bx_neq r Bx.o w;have HC:Hid (ndC m op cl r (lkC k W H p iw ih l)=if (m.right&&decide (0<=op∧op<=255))=true then (if cl=true then (if clB r=true then lkC k W H p iw ih l else 11) else (if decide (r=Bx.o)=true then lkC k W H p iw ih l else 10)) else 11):=by show _=_;unfold ndC;simp only [decide_eq_true_eq]
 have HR:=Hd hr;have hn3:l.length<=9223372036854775807:=by unfold maxLen at hn;omega
 clear hp hl hn hr;generalize ndC m op cl r (lkC k W H p iw ih l)=R at *;generalize lkC k W H p iw ih l=K at *;generalize clB r=z at *;generalize decide (r=Bx.o)=u at *;generalize m.right=y at *;unfold ndV;unfold Bx.v Bx.o at hq;obtain ⟨ma,mb,mc,md,me,mf⟩:=m;obtain ⟨x0,y0,x1,y1⟩:=r;unfold Mp.v at HM;unfold Bx.v at HCL;unfold lkV at HL;simp only at HM HCL hq ⊢;have HB0:Hid (Below w.heap.size w (w.alloc (.cells (Vb ma mb mc md me mf op hi cl x0 y0 x1 y1 k W H p iw ih A l.length c).toArray 93))):=bR.alloc nR _
 have HK0:Hid (Blk (w.alloc (.cells (Vb ma mb mc md me mf op hi cl x0 y0 x1 y1 k W H p iw ih A l.length c).toArray 93)) w.heap.size (Vb ma mb mc md me mf op hi cl x0 y0 x1 y1 k W H p iw ih A l.length c)):=blk_new w (Vb ma mb mc md me mf op hi cl x0 y0 x1 y1 k W H p iw ih A l.length c) _;go_enter Tryz.func156,Tryz.ntmps156
 go_wp2_with (first | (with_reducible refine gL ?_;first | (refine wt 65 0 rfl rfl rfl HK0.out (Vf ma mb mc md me mf) rfl Tryz.underlying65 rfl ?_) | (refine wt 91 9 rfl rfl rfl HK0.out (Vk x0 y0 x1 y1) rfl Tryz.underlying91 rfl ?_) | (refine wt 74 13 rfl rfl rfl HK0.out (Vj k W H p iw ih A l.length c) rfl Tryz.underlying74 rfl ?_)));refine (HM.out _).mono ?_;rintro e w1 ⟨rfl,hb⟩;have HB:=Hd (bel2 HB0.out hb);have HK:=Hd (HK0.out.below' hb);clear hb HM HB0 HK0;have c6:=HK.out.c 6 rfl;have c8:=HK.out.c 8 rfl;have hlt:=HK.out.inside;cases y with
 | false=>
  go_wp2_with (fail);go_ret;exact ⟨ret_num HC.out.symm,HB.out⟩
 | true=>
  by_cases o1:op<0
  ·have t1:decide (op<0)=true:=by simpa using o1
   have HC2:Hid (R=11):=HC.out.trans (if_neg (by rw [decide_eq_false (by omega)];decide));clear o1 HC;go_wp2_with (fail);go_ret;exact ⟨ret_num HC2.out.symm,HB.out⟩
  ·have t1:decide (op<0)=false:=by simpa using o1
   by_cases o2:255<op
   ·have t2:decide (255<op)=true:=by simpa using o2
    have HC2:Hid (R=11):=HC.out.trans (if_neg (by rw [decide_eq_false (by omega)];decide));clear o1 o2 HC;go_wp2_with (fail);go_ret;exact ⟨ret_num HC2.out.symm,HB.out⟩
   ·have t2:decide (255<op)=false:=by simpa using o2
    have HC2:=Hd (HC.out.trans (if_pos (by rw [decide_eq_true (by omega)];rfl)));clear o1 o2 HC;cases cl with
    | true=>
     go_wp2_with (first | (with_reducible refine gL ?_;first | (refine wt 65 0 rfl rfl rfl HK.out (Vf ma mb mc md me mf) rfl Tryz.underlying65 rfl ?_) | (refine wt 91 9 rfl rfl rfl HK.out (Vk x0 y0 x1 y1) rfl Tryz.underlying91 rfl ?_) | (refine wt 74 13 rfl rfl rfl HK.out (Vj k W H p iw ih A l.length c) rfl Tryz.underlying74 rfl ?_)));refine (HCL.out _).mono ?_;rintro e w2 ⟨rfl,hb⟩;have HB2:=Hd (bel2 HB.out hb);have HK2:=Hd (HK.out.below' hb);clear hb HCL HB HK c6 c8 hlt;have hlt:=HK2.out.inside;have c8:=HK2.out.c 8 rfl;cases z with
     | false=>
      go_wp2_with (fail);go_ret;exact ⟨ret_num HC2.out.symm,HB2.out⟩
     | true=>
      go_wp2_with (first | (with_reducible refine gL ?_;first | (refine wt 65 0 rfl rfl rfl HK2.out (Vf ma mb mc md me mf) rfl Tryz.underlying65 rfl ?_) | (refine wt 91 9 rfl rfl rfl HK2.out (Vk x0 y0 x1 y1) rfl Tryz.underlying91 rfl ?_) | (refine wt 74 13 rfl rfl rfl HK2.out (Vj k W H p iw ih A l.length c) rfl Tryz.underlying74 rfl ?_)));refine (HL.out _ (HR.out.below HB2.out)).mono ?_;rintro e w9 ⟨rfl,hb⟩;have HB9:=Hd (bel2 HB2.out hb);clear hb HL;go_wp2_with (fail);go_ret;exact ⟨ret_num HC2.out.symm,HB9.out⟩
    | false=>
     clear HCL;cases u with
     | false=>
      go_wp2_with (first | (with_reducible refine gL ?_;first | (refine wt 65 0 rfl rfl rfl HK.out (Vf ma mb mc md me mf) rfl Tryz.underlying65 rfl ?_) | (refine wt 91 9 rfl rfl rfl HK.out (Vk x0 y0 x1 y1) rfl Tryz.underlying91 rfl ?_) | (refine wt 74 13 rfl rfl rfl HK.out (Vj k W H p iw ih A l.length c) rfl Tryz.underlying74 rfl ?_)));go_ret;exact ⟨ret_num HC2.out.symm,HB.out⟩
     | true=>
      go_wp2_with (first | (with_reducible refine gL ?_;first | (refine wt 65 0 rfl rfl rfl HK.out (Vf ma mb mc md me mf) rfl Tryz.underlying65 rfl ?_) | (refine wt 91 9 rfl rfl rfl HK.out (Vk x0 y0 x1 y1) rfl Tryz.underlying91 rfl ?_) | (refine wt 74 13 rfl rfl rfl HK.out (Vj k W H p iw ih A l.length c) rfl Tryz.underlying74 rfl ?_)));refine (HL.out _ (HR.out.below HB.out)).mono ?_;rintro e w9 ⟨rfl,hb⟩;have HB9:=Hd (bel2 HB.out hb);clear hb HL;go_wp2_with (fail);go_ret;exact ⟨ret_num HC2.out.symm,HB9.out⟩
end Go.Proofs.YthoildbfghfhpaaGreat
namespace Go.Proofs.YthoildbfghfhpaaGreat
open Go.RowKit pxm imm
def CopiedQ (k W H:Int) (p:Nat) (iw ih:Int) (l:List Nat) (w:World) (e:Ending) (w':World):Prop:=∃ A9 cap,e=.returned (lkV k W H p iw ih A9 l.length cap)∧Pxs w' w.heap.size A9 l cap∧Below w.heap.size w w'
theorem copied_any (k W H:Int) (p:Nat) (iw ih:Int) (A:Option Addr) (l:List Nat) (c:Nat) (w:World) (hr:Row eW w A l) (hn:l.length<=20000000):Calls Tryz.prog 103 #[lkV k W H p iw ih A l.length c] w (CopiedQ k W H p iw ih l w):=by
 have HR:=Hd hr;have HC:=Hd (fun w hr=>copy_any iw ih A l c w hr hn);unfold CopyQ at HC;unfold CopiedQ;have hn3:l.length<=9223372036854775807:=by omega
 clear hr hn;unfold lkV at *;unfold imV at HC;have HB0:Hid (Below w.heap.size w ((w.alloc (.cells (Vj k W H p iw ih A l.length c).toArray 74)).alloc (.cells Vq.toArray 74))):=(bR.alloc nR _).alloc (by simp) _;have HK0:Hid (Blk ((w.alloc (.cells (Vj k W H p iw ih A l.length c).toArray 74)).alloc (.cells Vq.toArray 74)) w.heap.size (Vj k W H p iw ih A l.length c)):=(blk_new w (Vj k W H p iw ih A l.length c) _).alloc _
 have HKr0:Hid (Blk ((w.alloc (.cells (Vj k W H p iw ih A l.length c).toArray 74)).alloc (.cells Vq.toArray 74)) (w.heap.size+1) Vq):=blk_at (w.alloc _) _ (by simp) Vq _;have HSZ:Hid (w.heap.size+2<=((w.alloc (.cells (Vj k W H p iw ih A l.length c).toArray 74)).alloc (.cells Vq.toArray 74)).heap.size):=by simp [Hid]
 go_enter Tryz.func103,Tryz.ntmps103;go_wp2_with (refine wt 72 4 rfl rfl rfl HK0.out (Vp iw ih A l.length c) rfl Tryz.underlying72 rfl ?_);refine (HC.out _ (HR.out.below HB0.out)).mono ?_;rintro e w1 ⟨A9,c9,rfl,hx,hb⟩;have HX:=Hd hx;have HB:=Hd (bel2 HB0.out hb);have HK:=Hd (HK0.out.below' hb);have HKr:=Hd (HKr0.out.below' hb);generalize ((w.alloc (.cells (Vj k W H p iw ih A l.length c).toArray 74)).alloc (.cells Vq.toArray 74))=wz at *;clear hb hx HC HB0 HK0 HKr0
 go_wp2_with (first | (refine wpl_stow 72 _ _ rfl rfl rfl _ 4 rfl (Vp iw ih A9 l.length c9) rfl _ HK.out (Vj k W H p iw ih A9 l.length c9) rfl (by simp) (by kernel_rfl) rfl ?_;intro w2 HW2 HK2;have HR2:=Hd (HW2.out.blk (by omega) HKr.out)) | (refine wt 74 0 rfl rfl rfl HK2.out (Vj k W H p iw ih A9 l.length c9) rfl Tryz.underlying74 rfl ?_) | (refine wpl_stow 74 _ _ rfl rfl rfl _ 0 rfl (Vj k W H p iw ih A9 l.length c9) rfl _ HR2.out (Vj k W H p iw ih A9 l.length c9) rfl (by simp) (by kernel_rfl) rfl ?_;intro w3 HW3 HK3))
 refine blk_ret rfl rfl HK3.out Tryz.underlying74 rfl (by kernel_rfl) ⟨A9,c9,rfl,⟨HX.out.1.by_block fun b o e=>?_,fun b o e=>?_,HX.out.2.2⟩,HW3.out.below (HW2.out.below HB.out nR) (by omega)⟩
 ·have h1:b≠w.heap.size∧b≠w.heap.size+1:=by have:=HX.out.2.1 b o e;have:=HSZ.out;omega
  exact (HW3.out.far h1.2).trans (HW2.out.far h1.1)
 ·have h1:b≠w.heap.size∧b≠w.heap.size+1:=by have:=HX.out.2.1 b o e;have:=HSZ.out;omega
  exact ⟨by have:=HX.out.2.1 b o e;have:=HSZ.out;omega,fun j=>(World.frozen?_of_block ((HW3.out.far h1.2).trans (HW2.out.far h1.1))).trans ((HX.out.2.1 b o e).2 j)⟩
def NdCopyQ (m:Mp) (op:Int) (hi cl:Bool) (r:Bx) (k W H:Int) (p:Nat) (iw ih:Int) (l:List Nat) (w:World) (e:Ending) (w':World):Prop:=∃ A9 cap,e=.returned (ndV m op hi cl r k W H p iw ih A9 l.length cap)∧Pxs w' w.heap.size A9 l cap∧Below w.heap.size w w'
theorem ndcopy_any (m:Mp) (op:Int) (hi cl:Bool) (r:Bx) (k W H:Int) (p:Nat) (iw ih:Int) (A:Option Addr) (l:List Nat) (c:Nat) (w:World) (hr:Row eW w A l) (hn:l.length<=20000000):Calls Tryz.prog 72 #[ndV m op hi cl r k W H p iw ih A l.length c] w (NdCopyQ m op hi cl r k W H p iw ih l w):=by
 have HR:=Hd hr;have HC:=Hd (fun w hr=>copied_any k W H p iw ih A l c w hr hn);unfold CopiedQ at HC;unfold NdCopyQ;have hn3:l.length<=9223372036854775807:=by omega
 clear hr hn;unfold ndV at *;unfold lkV at HC;obtain ⟨ma,mb,mc,md,me,mf⟩:=m;obtain ⟨x0,y0,x1,y1⟩:=r;simp only at HC ⊢;have HB0:Hid (Below w.heap.size w ((w.alloc (.cells (Vb ma mb mc md me mf op hi cl x0 y0 x1 y1 k W H p iw ih A l.length c).toArray 93)).alloc (.cells Va.toArray 93))):=(bR.alloc nR _).alloc (by simp) _
 have HK0:Hid (Blk ((w.alloc (.cells (Vb ma mb mc md me mf op hi cl x0 y0 x1 y1 k W H p iw ih A l.length c).toArray 93)).alloc (.cells Va.toArray 93)) w.heap.size (Vb ma mb mc md me mf op hi cl x0 y0 x1 y1 k W H p iw ih A l.length c)):=(blk_new w (Vb ma mb mc md me mf op hi cl x0 y0 x1 y1 k W H p iw ih A l.length c) _).alloc _;have HKr0:Hid (Blk ((w.alloc (.cells (Vb ma mb mc md me mf op hi cl x0 y0 x1 y1 k W H p iw ih A l.length c).toArray 93)).alloc (.cells Va.toArray 93)) (w.heap.size+1) Va):=blk_at (w.alloc _) _ (by simp) Va _
 have HSZ:Hid (w.heap.size+2<=((w.alloc (.cells (Vb ma mb mc md me mf op hi cl x0 y0 x1 y1 k W H p iw ih A l.length c).toArray 93)).alloc (.cells Va.toArray 93)).heap.size):=by simp [Hid]
 go_enter Tryz.func72,Tryz.ntmps72;go_wp2_with (refine wt 74 13 rfl rfl rfl HK0.out (Vj k W H p iw ih A l.length c) rfl Tryz.underlying74 rfl ?_);refine (HC.out _ (HR.out.below HB0.out)).mono ?_;rintro e w1 ⟨A9,c9,rfl,hx,hb⟩;have HX:=Hd hx;have HB:=Hd (bel2 HB0.out hb);have HK:=Hd (HK0.out.below' hb);have HKr:=Hd (HKr0.out.below' hb);generalize ((w.alloc (.cells (Vb ma mb mc md me mf op hi cl x0 y0 x1 y1 k W H p iw ih A l.length c).toArray 93)).alloc (.cells Va.toArray 93))=wz at *;clear hb hx HC HB0 HK0 HKr0
 go_wp2_with (first | (refine wpl_stow 74 _ _ rfl rfl rfl _ 13 rfl (Vj k W H p iw ih A9 l.length c9) rfl _ HK.out (Vb ma mb mc md me mf op hi cl x0 y0 x1 y1 k W H p iw ih A9 l.length c9) rfl (by simp) (by kernel_rfl) rfl ?_;intro w2 HW2 HK2;have HR2:=Hd (HW2.out.blk (by omega) HKr.out)) | (refine wt 93 0 rfl rfl rfl HK2.out (Vb ma mb mc md me mf op hi cl x0 y0 x1 y1 k W H p iw ih A9 l.length c9) rfl Tryz.underlying93 rfl ?_) | (refine wpl_stow 93 _ _ rfl rfl rfl _ 0 rfl (Vb ma mb mc md me mf op hi cl x0 y0 x1 y1 k W H p iw ih A9 l.length c9) rfl _ HR2.out (Vb ma mb mc md me mf op hi cl x0 y0 x1 y1 k W H p iw ih A9 l.length c9) rfl (by simp) (by kernel_rfl) rfl ?_;intro w3 HW3 HK3))
 refine blk_ret rfl rfl HK3.out Tryz.underlying93 rfl (by kernel_rfl) ⟨A9,c9,rfl,⟨HX.out.1.by_block fun b o e=>?_,fun b o e=>?_,HX.out.2.2⟩,HW3.out.below (HW2.out.below HB.out nR) (by omega)⟩
 ·have h1:b≠w.heap.size∧b≠w.heap.size+1:=by have:=HX.out.2.1 b o e;have:=HSZ.out;omega
  exact (HW3.out.far h1.2).trans (HW2.out.far h1.1)
 ·have h1:b≠w.heap.size∧b≠w.heap.size+1:=by have:=HX.out.2.1 b o e;have:=HSZ.out;omega
  exact ⟨by have:=HX.out.2.1 b o e;have:=HSZ.out;omega,fun j=>(World.frozen?_of_block ((HW3.out.far h1.2).trans (HW2.out.far h1.1))).trans ((HX.out.2.1 b o e).2 j)⟩
end Go.Proofs.YthoildbfghfhpaaGreat
namespace Go.Proofs.YthoildbfghfhpaaGreat
open Go.RowKit pxm imm
def eqLk (k1 W1 H1:Int) (p1:Nat) (iw1 ih1:Int) (l1:List Nat) (k2 W2 H2:Int) (p2:Nat) (iw2 ih2:Int) (l2:List Nat):Bool:=(k1==k2)&&((W1==W2)&&((H1==H2)&&(((p1:Int)==(p2:Int))&&eqB iw1 ih1 l1 iw2 ih2 l2)))
theorem eqlooks_any (k1 W1 H1:Int) (p1:Nat) (iw1 ih1:Int) (A1:Option Addr) (l1:List Nat) (c1:Nat) (k2 W2 H2:Int) (p2:Nat) (iw2 ih2:Int) (A2:Option Addr) (l2:List Nat) (c2:Nat) (m1:l1.length<=maxLen) (m2:l2.length<=maxLen) (w:World) (h1:Row eW w A1 l1) (h2:Row eW w A2 l2) :
  Calls Tryz.prog 116 #[lkV k1 W1 H1 p1 iw1 ih1 A1 l1.length c1,lkV k2 W2 H2 p2 iw2 ih2 A2 l2.length c2] w fun e w'=>e=.returned (.bool (eqLk k1 W1 H1 p1 iw1 ih1 l1 k2 W2 H2 p2 iw2 ih2 l2))∧Below w.heap.size w w':=by
 have HR:=Hd (And.intro h1 h2);have HE:=Hd (fun w h1 h2=>equal_any iw1 ih1 A1 l1 c1 iw2 ih2 A2 l2 c2 w h1 h2 m1 m2);have HQ:Hid (eqLk k1 W1 H1 p1 iw1 ih1 l1 k2 W2 H2 p2 iw2 ih2 l2=((k1==k2)&&((W1==W2)&&((H1==H2)&&(((p1:Int)==(p2:Int))&&eqB iw1 ih1 l1 iw2 ih2 l2))))):=rfl;clear h1 h2 m1 m2;generalize eqLk k1 W1 H1 p1 iw1 ih1 l1 k2 W2 H2 p2 iw2 ih2 l2=R at *;generalize eqB iw1 ih1 l1 iw2 ih2 l2=y at *;unfold imV at HE;unfold lkV;generalize hb1:(k1==k2)=b1 at *;generalize hb2:(W1==W2)=b2 at *;generalize hb3:(H1==H2)=b3 at *;generalize hb4:((p1:Int)==(p2:Int))=b4 at *
 have HB:Hid (Below w.heap.size w ((w.alloc (.cells (Vj k1 W1 H1 p1 iw1 ih1 A1 l1.length c1).toArray 74)).alloc (.cells (Vj k2 W2 H2 p2 iw2 ih2 A2 l2.length c2).toArray 74))):=(bR.alloc nR _).alloc (by simp) _;cases b1 with
 | false=>
  go_enter Tryz.func116,Tryz.ntmps116;go_wp2_with (fail);go_ret;exact ⟨ret_bool HQ.out.symm,HB.out⟩
 | true=>
  cases b2 with
  | false=>
   go_enter Tryz.func116,Tryz.ntmps116;go_wp2_with (fail);go_ret;exact ⟨ret_bool HQ.out.symm,HB.out⟩
  | true=>
   cases b3 with
   | false=>
    go_enter Tryz.func116,Tryz.ntmps116;go_wp2_with (fail);go_ret;exact ⟨ret_bool HQ.out.symm,HB.out⟩
   | true=>
    cases b4 with
    | false=>
     go_enter Tryz.func116,Tryz.ntmps116;go_wp2_with (fail);go_ret;exact ⟨ret_bool HQ.out.symm,HB.out⟩
    | true=>
     go_enter Tryz.func116,Tryz.ntmps116;go_wp2_with (fail);refine (HE.out _ (HR.out.1.below HB.out) (HR.out.2.below HB.out)).mono ?_;rintro e w2 ⟨rfl,hb⟩;have HB2:=Hd (bel2 HB.out hb);clear hb HE;go_wp2_with (fail);go_ret;exact ⟨ret_bool HQ.out.symm,HB2.out⟩
def eqNd (m1:Mp) (op1:Int) (hi1 cl1:Bool) (r1:Bx) (m2:Mp) (op2:Int) (hi2 cl2:Bool) (r2:Bx) (lk:Bool):Bool:=decide (m1=m2)&&(decide (r1=r2)&&((op1==op2)&&((hi1==hi2)&&((cl1==cl2)&&lk))))
theorem mp_eq (r s:Mp) (w:World):(binOp .eql 65 r.v s.v).run Tryz.prog w=.ok (.bool (decide (r=s))) w:=by
 obtain ⟨a0,a1,a2,a3,a4,a5⟩:=r;obtain ⟨b0,b1,b2,b3,b4,b5⟩:=s;unfold Mp.v;simp only;by_cases h0:¬ a0=b0
 ·rw [decide_eq_false (by simp [h0])];have t:(a0==b0)=false:=by simpa using h0
  go_simp
 obtain rfl:=Decidable.not_not.1 h0;clear h0;by_cases h1:¬ a1=b1
 ·rw [decide_eq_false (by simp [h1])];have t:(a1==b1)=false:=by simpa using h1
  go_simp
 obtain rfl:=Decidable.not_not.1 h1;clear h1;by_cases h2:¬ a2=b2
 ·rw [decide_eq_false (by simp [h2])];have t:(a2==b2)=false:=by simpa using h2
  go_simp
 obtain rfl:=Decidable.not_not.1 h2;clear h2;by_cases h3:¬ a3=b3
 ·rw [decide_eq_false (by simp [h3])];have t:(a3==b3)=false:=by simpa using h3
  go_simp
 obtain rfl:=Decidable.not_not.1 h3;clear h3;by_cases h4:¬ a4=b4
 ·rw [decide_eq_false (by simp [h4])];have t:(a4==b4)=false:=by simpa using h4
  go_simp
 obtain rfl:=Decidable.not_not.1 h4;clear h4;by_cases h5:¬ a5=b5
 ·rw [decide_eq_false (by simp [h5])];have t:(a5==b5)=false:=by simpa using h5
  go_simp
 obtain rfl:=Decidable.not_not.1 h5;clear h5;simp only [decide_true];go_simp
theorem ndequal_any (m1:Mp) (op1:Int) (hi1 cl1:Bool) (r1:Bx) (k1 W1 H1:Int) (p1:Nat) (iw1 ih1:Int) (A1:Option Addr) (l1:List Nat) (c1:Nat) (m2:Mp) (op2:Int) (hi2 cl2:Bool) (r2:Bx) (k2 W2 H2:Int) (p2:Nat) (iw2 ih2:Int) (A2:Option Addr) (l2:List Nat) (c2:Nat) (n1:l1.length<=maxLen) (n2:l2.length<=maxLen) (w:World) (h1:Row eW w A1 l1) (h2:Row eW w A2 l2) :
  Calls Tryz.prog 85 #[ndV m1 op1 hi1 cl1 r1 k1 W1 H1 p1 iw1 ih1 A1 l1.length c1,ndV m2 op2 hi2 cl2 r2 k2 W2 H2 p2 iw2 ih2 A2 l2.length c2] w fun e w'=>e=.returned (.bool (eqNd m1 op1 hi1 cl1 r1 m2 op2 hi2 cl2 r2 (eqLk k1 W1 H1 p1 iw1 ih1 l1 k2 W2 H2 p2 iw2 ih2 l2)))∧Below w.heap.size w w':=by
 have HR:=Hd (And.intro h1 h2);have HE:=Hd (fun w h1 h2=>eqlooks_any k1 W1 H1 p1 iw1 ih1 A1 l1 c1 k2 W2 H2 p2 iw2 ih2 A2 l2 c2 n1 n2 w h1 h2);have HQ:Hid (eqNd m1 op1 hi1 cl1 r1 m2 op2 hi2 cl2 r2 (eqLk k1 W1 H1 p1 iw1 ih1 l1 k2 W2 H2 p2 iw2 ih2 l2)=(decide (m1=m2)&&(decide (r1=r2)&&((op1==op2)&&((hi1==hi2)&&((cl1==cl2)&&eqLk k1 W1 H1 p1 iw1 ih1 l1 k2 W2 H2 p2 iw2 ih2 l2)))))):=rfl;have q1:=fun w=>mp_eq m1 m2 w;have q2:=fun w=>bx_eq r1 r2 w;clear h1 h2 n1 n2;generalize eqNd m1 op1 hi1 cl1 r1 m2 op2 hi2 cl2 r2 (eqLk k1 W1 H1 p1 iw1 ih1 l1 k2 W2 H2 p2 iw2 ih2 l2)=R at *
 generalize eqLk k1 W1 H1 p1 iw1 ih1 l1 k2 W2 H2 p2 iw2 ih2 l2=y at *;unfold lkV at HE;unfold ndV;generalize decide (m1=m2)=b1 at *;generalize decide (r1=r2)=b2 at *;generalize hb3:(op1==op2)=b3 at *;generalize hb4:(hi1==hi2)=b4 at *;generalize hb5:(cl1==cl2)=b5 at *;obtain ⟨ma1,mb1,mc1,md1,me1,mf1⟩:=m1;obtain ⟨x01,y01,x11,y11⟩:=r1;obtain ⟨ma2,mb2,mc2,md2,me2,mf2⟩:=m2;obtain ⟨x02,y02,x12,y12⟩:=r2;unfold Mp.v at q1;unfold Bx.v at q2;simp only at q1 q2 ⊢
 have HB:Hid (Below w.heap.size w ((w.alloc (.cells (Vb ma1 mb1 mc1 md1 me1 mf1 op1 hi1 cl1 x01 y01 x11 y11 k1 W1 H1 p1 iw1 ih1 A1 l1.length c1).toArray 93)).alloc (.cells (Vb ma2 mb2 mc2 md2 me2 mf2 op2 hi2 cl2 x02 y02 x12 y12 k2 W2 H2 p2 iw2 ih2 A2 l2.length c2).toArray 93))):=(bR.alloc nR _).alloc (by simp) _
 have HK1:Hid (Blk ((w.alloc (.cells (Vb ma1 mb1 mc1 md1 me1 mf1 op1 hi1 cl1 x01 y01 x11 y11 k1 W1 H1 p1 iw1 ih1 A1 l1.length c1).toArray 93)).alloc (.cells (Vb ma2 mb2 mc2 md2 me2 mf2 op2 hi2 cl2 x02 y02 x12 y12 k2 W2 H2 p2 iw2 ih2 A2 l2.length c2).toArray 93)) w.heap.size (Vb ma1 mb1 mc1 md1 me1 mf1 op1 hi1 cl1 x01 y01 x11 y11 k1 W1 H1 p1 iw1 ih1 A1 l1.length c1)):=(blk_new w (Vb ma1 mb1 mc1 md1 me1 mf1 op1 hi1 cl1 x01 y01 x11 y11 k1 W1 H1 p1 iw1 ih1 A1 l1.length c1) _).alloc _
 have HK2:Hid (Blk ((w.alloc (.cells (Vb ma1 mb1 mc1 md1 me1 mf1 op1 hi1 cl1 x01 y01 x11 y11 k1 W1 H1 p1 iw1 ih1 A1 l1.length c1).toArray 93)).alloc (.cells (Vb ma2 mb2 mc2 md2 me2 mf2 op2 hi2 cl2 x02 y02 x12 y12 k2 W2 H2 p2 iw2 ih2 A2 l2.length c2).toArray 93)) (w.heap.size+1) (Vb ma2 mb2 mc2 md2 me2 mf2 op2 hi2 cl2 x02 y02 x12 y12 k2 W2 H2 p2 iw2 ih2 A2 l2.length c2)):=blk_at (w.alloc _) _ (by simp) (Vb ma2 mb2 mc2 md2 me2 mf2 op2 hi2 cl2 x02 y02 x12 y12 k2 W2 H2 p2 iw2 ih2 A2 l2.length c2) _;cases b1 with
 | false=>
  go_enter Tryz.func85,Tryz.ntmps85
  go_upto_region 1 with (fail)
  generalize ((w.alloc (.cells (Vb ma1 mb1 mc1 md1 me1 mf1 op1 hi1 cl1 x01 y01 x11 y11 k1 W1 H1 p1 iw1 ih1 A1 l1.length c1).toArray 93)).alloc (.cells (Vb ma2 mb2 mc2 md2 me2 mf2 op2 hi2 cl2 x02 y02 x12 y12 k2 W2 H2 p2 iw2 ih2 A2 l2.length c2).toArray 93))=wz at *;have c6:=HK1.out.c 6 rfl;have c7:=HK1.out.c 7 rfl;have c8:=HK1.out.c 8 rfl;have d6:wz.cell? ⟨w.heap.size+1,6,none⟩=some (.int .i64 op2):=HK2.out.cell 6;have d7:wz.cell? ⟨w.heap.size+1,7,none⟩=some (.bool hi2):=HK2.out.cell 7;have d8:wz.cell? ⟨w.heap.size+1,8,none⟩=some (.bool cl2):=HK2.out.cell 8;have i1:=HK1.out.inside
  have i2:=HK2.out.inside
  go_wp2_with (first | (with_reducible refine gL ?_;first | (refine wt 65 0 rfl rfl rfl HK1.out (Vf ma1 mb1 mc1 md1 me1 mf1) rfl Tryz.underlying65 rfl ?_) | (refine wt 65 0 rfl rfl rfl HK2.out (Vf ma2 mb2 mc2 md2 me2 mf2) rfl Tryz.underlying65 rfl ?_) | (refine wt 91 9 rfl rfl rfl HK1.out (Vk x01 y01 x11 y11) rfl Tryz.underlying91 rfl ?_) | (refine wt 91 9 rfl rfl rfl HK2.out (Vk x02 y02 x12 y12) rfl Tryz.underlying91 rfl ?_) | (refine wt 74 13 rfl rfl rfl HK1.out (Vj k1 W1 H1 p1 iw1 ih1 A1 l1.length c1) rfl Tryz.underlying74 rfl ?_) | (refine wt 74 13 rfl rfl rfl HK2.out (Vj k2 W2 H2 p2 iw2 ih2 A2 l2.length c2) rfl Tryz.underlying74 rfl ?_)))
  go_ret;exact ⟨ret_bool HQ.out.symm,HB.out⟩
 | true=>
  cases b2 with
  | false=>
   go_enter Tryz.func85,Tryz.ntmps85
   go_upto_region 1 with (fail)
   generalize ((w.alloc (.cells (Vb ma1 mb1 mc1 md1 me1 mf1 op1 hi1 cl1 x01 y01 x11 y11 k1 W1 H1 p1 iw1 ih1 A1 l1.length c1).toArray 93)).alloc (.cells (Vb ma2 mb2 mc2 md2 me2 mf2 op2 hi2 cl2 x02 y02 x12 y12 k2 W2 H2 p2 iw2 ih2 A2 l2.length c2).toArray 93))=wz at *;have c6:=HK1.out.c 6 rfl;have c7:=HK1.out.c 7 rfl;have c8:=HK1.out.c 8 rfl;have d6:wz.cell? ⟨w.heap.size+1,6,none⟩=some (.int .i64 op2):=HK2.out.cell 6;have d7:wz.cell? ⟨w.heap.size+1,7,none⟩=some (.bool hi2):=HK2.out.cell 7;have d8:wz.cell? ⟨w.heap.size+1,8,none⟩=some (.bool cl2):=HK2.out.cell 8;have i1:=HK1.out.inside
   have i2:=HK2.out.inside
   go_wp2_with (first | (with_reducible refine gL ?_;first | (refine wt 65 0 rfl rfl rfl HK1.out (Vf ma1 mb1 mc1 md1 me1 mf1) rfl Tryz.underlying65 rfl ?_) | (refine wt 65 0 rfl rfl rfl HK2.out (Vf ma2 mb2 mc2 md2 me2 mf2) rfl Tryz.underlying65 rfl ?_) | (refine wt 91 9 rfl rfl rfl HK1.out (Vk x01 y01 x11 y11) rfl Tryz.underlying91 rfl ?_) | (refine wt 91 9 rfl rfl rfl HK2.out (Vk x02 y02 x12 y12) rfl Tryz.underlying91 rfl ?_) | (refine wt 74 13 rfl rfl rfl HK1.out (Vj k1 W1 H1 p1 iw1 ih1 A1 l1.length c1) rfl Tryz.underlying74 rfl ?_) | (refine wt 74 13 rfl rfl rfl HK2.out (Vj k2 W2 H2 p2 iw2 ih2 A2 l2.length c2) rfl Tryz.underlying74 rfl ?_)))
   go_ret;exact ⟨ret_bool HQ.out.symm,HB.out⟩
  | true=>
   cases b3 with
   | false=>
    go_enter Tryz.func85,Tryz.ntmps85
    go_upto_region 1 with (fail)
    generalize ((w.alloc (.cells (Vb ma1 mb1 mc1 md1 me1 mf1 op1 hi1 cl1 x01 y01 x11 y11 k1 W1 H1 p1 iw1 ih1 A1 l1.length c1).toArray 93)).alloc (.cells (Vb ma2 mb2 mc2 md2 me2 mf2 op2 hi2 cl2 x02 y02 x12 y12 k2 W2 H2 p2 iw2 ih2 A2 l2.length c2).toArray 93))=wz at *;have c6:=HK1.out.c 6 rfl;have c7:=HK1.out.c 7 rfl;have c8:=HK1.out.c 8 rfl;have d6:wz.cell? ⟨w.heap.size+1,6,none⟩=some (.int .i64 op2):=HK2.out.cell 6;have d7:wz.cell? ⟨w.heap.size+1,7,none⟩=some (.bool hi2):=HK2.out.cell 7;have d8:wz.cell? ⟨w.heap.size+1,8,none⟩=some (.bool cl2):=HK2.out.cell 8;have i1:=HK1.out.inside
    have i2:=HK2.out.inside
    go_wp2_with (first | (with_reducible refine gL ?_;first | (refine wt 65 0 rfl rfl rfl HK1.out (Vf ma1 mb1 mc1 md1 me1 mf1) rfl Tryz.underlying65 rfl ?_) | (refine wt 65 0 rfl rfl rfl HK2.out (Vf ma2 mb2 mc2 md2 me2 mf2) rfl Tryz.underlying65 rfl ?_) | (refine wt 91 9 rfl rfl rfl HK1.out (Vk x01 y01 x11 y11) rfl Tryz.underlying91 rfl ?_) | (refine wt 91 9 rfl rfl rfl HK2.out (Vk x02 y02 x12 y12) rfl Tryz.underlying91 rfl ?_) | (refine wt 74 13 rfl rfl rfl HK1.out (Vj k1 W1 H1 p1 iw1 ih1 A1 l1.length c1) rfl Tryz.underlying74 rfl ?_) | (refine wt 74 13 rfl rfl rfl HK2.out (Vj k2 W2 H2 p2 iw2 ih2 A2 l2.length c2) rfl Tryz.underlying74 rfl ?_)))
    go_ret;exact ⟨ret_bool HQ.out.symm,HB.out⟩
   | true=>
    cases b4 with
    | false=>
     go_enter Tryz.func85,Tryz.ntmps85
     go_upto_region 1 with (fail)
     generalize ((w.alloc (.cells (Vb ma1 mb1 mc1 md1 me1 mf1 op1 hi1 cl1 x01 y01 x11 y11 k1 W1 H1 p1 iw1 ih1 A1 l1.length c1).toArray 93)).alloc (.cells (Vb ma2 mb2 mc2 md2 me2 mf2 op2 hi2 cl2 x02 y02 x12 y12 k2 W2 H2 p2 iw2 ih2 A2 l2.length c2).toArray 93))=wz at *;have c6:=HK1.out.c 6 rfl;have c7:=HK1.out.c 7 rfl;have c8:=HK1.out.c 8 rfl;have d6:wz.cell? ⟨w.heap.size+1,6,none⟩=some (.int .i64 op2):=HK2.out.cell 6;have d7:wz.cell? ⟨w.heap.size+1,7,none⟩=some (.bool hi2):=HK2.out.cell 7;have d8:wz.cell? ⟨w.heap.size+1,8,none⟩=some (.bool cl2):=HK2.out.cell 8;have i1:=HK1.out.inside
     have i2:=HK2.out.inside
     go_wp2_with (first | (with_reducible refine gL ?_;first | (refine wt 65 0 rfl rfl rfl HK1.out (Vf ma1 mb1 mc1 md1 me1 mf1) rfl Tryz.underlying65 rfl ?_) | (refine wt 65 0 rfl rfl rfl HK2.out (Vf ma2 mb2 mc2 md2 me2 mf2) rfl Tryz.underlying65 rfl ?_) | (refine wt 91 9 rfl rfl rfl HK1.out (Vk x01 y01 x11 y11) rfl Tryz.underlying91 rfl ?_) | (refine wt 91 9 rfl rfl rfl HK2.out (Vk x02 y02 x12 y12) rfl Tryz.underlying91 rfl ?_) | (refine wt 74 13 rfl rfl rfl HK1.out (Vj k1 W1 H1 p1 iw1 ih1 A1 l1.length c1) rfl Tryz.underlying74 rfl ?_) | (refine wt 74 13 rfl rfl rfl HK2.out (Vj k2 W2 H2 p2 iw2 ih2 A2 l2.length c2) rfl Tryz.underlying74 rfl ?_)))
     go_ret;exact ⟨ret_bool HQ.out.symm,HB.out⟩
    | true=>
     cases b5 with
     | false=>
      go_enter Tryz.func85,Tryz.ntmps85
      go_upto_region 1 with (fail)
      generalize ((w.alloc (.cells (Vb ma1 mb1 mc1 md1 me1 mf1 op1 hi1 cl1 x01 y01 x11 y11 k1 W1 H1 p1 iw1 ih1 A1 l1.length c1).toArray 93)).alloc (.cells (Vb ma2 mb2 mc2 md2 me2 mf2 op2 hi2 cl2 x02 y02 x12 y12 k2 W2 H2 p2 iw2 ih2 A2 l2.length c2).toArray 93))=wz at *;have c6:=HK1.out.c 6 rfl;have c7:=HK1.out.c 7 rfl;have c8:=HK1.out.c 8 rfl;have d6:wz.cell? ⟨w.heap.size+1,6,none⟩=some (.int .i64 op2):=HK2.out.cell 6;have d7:wz.cell? ⟨w.heap.size+1,7,none⟩=some (.bool hi2):=HK2.out.cell 7;have d8:wz.cell? ⟨w.heap.size+1,8,none⟩=some (.bool cl2):=HK2.out.cell 8;have i1:=HK1.out.inside
      have i2:=HK2.out.inside
      go_wp2_with (first | (with_reducible refine gL ?_;first | (refine wt 65 0 rfl rfl rfl HK1.out (Vf ma1 mb1 mc1 md1 me1 mf1) rfl Tryz.underlying65 rfl ?_) | (refine wt 65 0 rfl rfl rfl HK2.out (Vf ma2 mb2 mc2 md2 me2 mf2) rfl Tryz.underlying65 rfl ?_) | (refine wt 91 9 rfl rfl rfl HK1.out (Vk x01 y01 x11 y11) rfl Tryz.underlying91 rfl ?_) | (refine wt 91 9 rfl rfl rfl HK2.out (Vk x02 y02 x12 y12) rfl Tryz.underlying91 rfl ?_) | (refine wt 74 13 rfl rfl rfl HK1.out (Vj k1 W1 H1 p1 iw1 ih1 A1 l1.length c1) rfl Tryz.underlying74 rfl ?_) | (refine wt 74 13 rfl rfl rfl HK2.out (Vj k2 W2 H2 p2 iw2 ih2 A2 l2.length c2) rfl Tryz.underlying74 rfl ?_)))
      go_ret;exact ⟨ret_bool HQ.out.symm,HB.out⟩
     | true=>
      go_enter Tryz.func85,Tryz.ntmps85
      go_upto_region 1 with (fail)
      generalize ((w.alloc (.cells (Vb ma1 mb1 mc1 md1 me1 mf1 op1 hi1 cl1 x01 y01 x11 y11 k1 W1 H1 p1 iw1 ih1 A1 l1.length c1).toArray 93)).alloc (.cells (Vb ma2 mb2 mc2 md2 me2 mf2 op2 hi2 cl2 x02 y02 x12 y12 k2 W2 H2 p2 iw2 ih2 A2 l2.length c2).toArray 93))=wz at *;have c6:=HK1.out.c 6 rfl;have c7:=HK1.out.c 7 rfl;have c8:=HK1.out.c 8 rfl;have d6:wz.cell? ⟨w.heap.size+1,6,none⟩=some (.int .i64 op2):=HK2.out.cell 6;have d7:wz.cell? ⟨w.heap.size+1,7,none⟩=some (.bool hi2):=HK2.out.cell 7;have d8:wz.cell? ⟨w.heap.size+1,8,none⟩=some (.bool cl2):=HK2.out.cell 8;have i1:=HK1.out.inside
      have i2:=HK2.out.inside
      go_wp2_with (first | (with_reducible refine gL ?_;first | (refine wt 65 0 rfl rfl rfl HK1.out (Vf ma1 mb1 mc1 md1 me1 mf1) rfl Tryz.underlying65 rfl ?_) | (refine wt 65 0 rfl rfl rfl HK2.out (Vf ma2 mb2 mc2 md2 me2 mf2) rfl Tryz.underlying65 rfl ?_) | (refine wt 91 9 rfl rfl rfl HK1.out (Vk x01 y01 x11 y11) rfl Tryz.underlying91 rfl ?_) | (refine wt 91 9 rfl rfl rfl HK2.out (Vk x02 y02 x12 y12) rfl Tryz.underlying91 rfl ?_) | (refine wt 74 13 rfl rfl rfl HK1.out (Vj k1 W1 H1 p1 iw1 ih1 A1 l1.length c1) rfl Tryz.underlying74 rfl ?_) | (refine wt 74 13 rfl rfl rfl HK2.out (Vj k2 W2 H2 p2 iw2 ih2 A2 l2.length c2) rfl Tryz.underlying74 rfl ?_)))
      refine (HE.out _ (HR.out.1.below HB.out) (HR.out.2.below HB.out)).mono ?_;rintro e w2 ⟨rfl,hb⟩;have HB2:=Hd (bel2 HB.out hb);clear hb HE;go_wp2_with (fail);go_ret;exact ⟨ret_bool HQ.out.symm,HB2.out⟩
end Go.Proofs.YthoildbfghfhpaaGreat
