import Derived.Test.YthpifjcddgmjnaaGreatRows
import Derived.ProofKit
import Derived.OpenShut
import Derived.ChangeOld
import Derived.Carry
import Derived.Below
import Derived.Deep.Grids
import Derived.Deep.Fields
import Derived.Test.YthpifjcddgmjnaaGreatVDck
set_option maxHeartbeats 16000000
set_option maxRecDepth 100000
namespace Go.Proofs.YthpifjcddgmjnaaGreat
open Go.RowKit Go.ChangeShapes Go.WideShapes Go.ChangeAt Go.Deep
theorem own:ownKnob Tryz.prog.godebug=none:=by kernel_rfl
end Go.Proofs.YthpifjcddgmjnaaGreat
namespace Go.Proofs.YthpifjcddgmjnaaGreat
open Go.RowKit pxm imm trm Go.Maps
def canBe (a b c:Int):Prop:=(1≤a∧a≤4096)∧(1≤b∧b≤4096)∧(1≤c∧c≤65536)
theorem new_no (a b c:Int) (h:¬ canBe a b c) (w:World):Calls Tryz.prog 16 #[.int .i64 a,.int .i64 b,.int .i64 c] w fun e w'=>e=.returned (.tuple #[.pointer none,.int .i64 11])∧Below w.heap.size w w':=by
 have h':¬ ((1≤a∧a≤4096)∧(1≤b∧b≤4096)∧(1≤c∧c≤65536)):=h
 clear h
 go_enter Tryz.func16,Tryz.ntmps16
 go_upto_region 1 with (fail)
 go_cut [23] from 9 (fun u wx=>u=.bool true∧wx=w)
 case first=>
  go_wp2_with (fail)
  all_goals first
   | (go_meet; case rel=>exact ⟨by first | rfl | (simp; omega),rfl⟩)
   | (exfalso; omega)
 case rest=>
 obtain ⟨rfl,rfl⟩:=hcut
 go_wp2_with (fail)
 go_ret2
 exact ⟨rfl,Below.refl _ _⟩
theorem news_in (a b c:Int) (w:World) (_:-9223372036854775808≤a) (_:a≤9223372036854775807) (_:-9223372036854775808≤b) (_:b≤9223372036854775807) (_:-9223372036854775808≤c) (_:c≤9223372036854775807):Calls Tryz.prog 4 #[.int .i64 a,.int .i64 b,.int .i64 c] w fun e w'=>e=.returned (.bool true)∧Below w.heap.size w w':=by
 by_cases hc:canBe a b c
 ·obtain ⟨⟨a1,a2⟩,⟨b1,b2⟩,⟨c1,c2⟩⟩:=hc
  have HNEW:=Hd (new_ok (w:=w) ⟨a,⟨b,c⟩,fun _=>False⟩ (fun _ e=>e.elim) ⟨a1,a2⟩ ⟨b1,b2⟩ ⟨c1,c2⟩)
  have t1:decide (a < 1)=false:=decide_eq_false (by omega)
  have t2:decide (b < 1)=false:=decide_eq_false (by omega)
  have t3:decide ((4096:Int) < a)=false:=decide_eq_false (by omega)
  have t4:decide ((4096:Int) < b)=false:=decide_eq_false (by omega)
  have t5:decide (c < 1)=false:=decide_eq_false (by omega)
  have t6:decide ((65536:Int) < c)=false:=decide_eq_false (by omega)
  clear a1 a2 b1 b2 c1 c2
  go_enter Tryz.func4,Tryz.ntmps4
  go_wp2_with (fail)
  refine HNEW.out.mono ?_
  unfold NewQ
  rintro e w1 ⟨g,bb,m,s,rfl,hs1,hb1,-,-⟩
  have HS1:=Hd hs1
  have HB1:=Hd hb1
  clear hs1 hb1 HNEW
  go_wp2_with (fail)
  refine (dnew_any a b c w1).mono ?_
  rintro e w2 ⟨v2,rfl,hd2,hb2⟩
  have HD2:=Hd hd2
  have HB2:Hid (Below w.heap.size w w2):=HB1.out.trans (hb2.mono HB1.out.size)
  have HIS:=Hd (is_any (HS1.out.below hb2) PSc.new_sane (by decide) v2 hd2)
  clear hd2 hb2 HS1 HB1
  go_wp2_with (fail)
  refine HIS.out.mono ?_
  rintro e w3 ⟨rfl,hb3⟩
  have HB3:Hid (Below w.heap.size w w3):=HB2.out.trans (hb3.mono HB2.out.size)
  clear hb3 HIS HD2 HB2
  go_wp2_with (fail)
  refine (awake_any w3).mono ?_
  rintro e w4 ⟨rfl,hb4⟩
  have HB4:Hid (Below w.heap.size w w4):=HB3.out.trans (hb4.mono HB3.out.size)
  clear hb4 HB3
  go_wp2_with (fail)
  go_ret
  exact ⟨rfl,HB4.out⟩
 ·have HNEW:=Hd (new_no a b c hc w)
  have h':¬ ((1≤a∧a≤4096)∧(1≤b∧b≤4096)∧(1≤c∧c≤65536)):=hc
  clear hc
  go_enter Tryz.func4,Tryz.ntmps4
  go_wp2_with (fail)
  refine HNEW.out.mono ?_
  rintro e w1 ⟨rfl,hb1⟩
  have HB1:=Hd hb1
  clear hb1 HNEW
  go_upto_region 2 with (fail)
  go_cut [37] from 16 (fun u wx=>u=.bool true∧wx=w1)
  case first=>
   go_wp2_with (fail)
   all_goals first
    | (go_meet; case rel=>exact ⟨by first | rfl | (simp; omega),rfl⟩)
    | (exfalso; omega)
  case rest=>
  obtain ⟨rfl,rfl⟩:=hcut
  clear h'
  go_wp2_with (fail)
  refine (awake_any _).mono ?_
  rintro e w4 ⟨rfl,hb4⟩
  have HB4:Hid (Below w.heap.size w w4):=HB1.out.trans (hb4.mono HB1.out.size)
  clear hb4 HB1
  go_wp2_with (fail)
  go_ret
  exact ⟨rfl,HB4.out⟩
end Go.Proofs.YthpifjcddgmjnaaGreat
