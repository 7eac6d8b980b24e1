/- chapter 29: attempts out of draws: trees -/
import Derived.Test.YtagmiaajpkpmjaaCJ1
import Derived.Test.YtagmiaajpkpmjaaLc
import Derived.Test.YtagmiaajpkpmjaaChecked
import Derived.KernelRfl
namespace Go.Lev
set_option linter.unusedSimpArgs false
set_option linter.unusedVariables false
open Go.RowKit
open Go.Proofs.Try (prog)
set_option maxRecDepth 100000
noncomputable section
theorem within_x (a lo hi:Int) (K:Fk):(xfun prog (fun _=>none) 40 14 [.int .i64 a,.int .i64 lo,.int .i64 hi] (mkS []) (vF K))=(
 ck (xcm .neq (xar .add .i64 (xar .sub .i64 hi lo) 1) 0) <|
 bif xcm .lss (xar .rem .i64 a (xar .add .i64 (xar .sub .i64 hi lo) 1)) 0 then(
 K (.int .i64 (xar .add .i64 lo (xar .add .i64 (xar .sub .i64 (xar .add .i64 (xar .rem .i64 a (xar .add .i64 (xar .sub .i64 hi lo) 1)) hi) lo) 1))) [] [])
 else(
 K (.int .i64 (xar .add .i64 lo (xar .rem .i64 a (xar .add .i64 (xar .sub .i64 hi lo) 1)))) [] [])):=by kernel_rfl
def wthV (a lo hi:Int):Int:=lo+a % (hi - lo+1)
def withinG:Gc:=fun args s=>match args,s.g with
 | [.int .i64 a,.int .i64 lo,.int .i64 hi],[]=>some ([xcm .leq lo hi,xcm .leq (-1000000) lo,xcm .leq hi 1000000],.int .i64 (wthV a lo hi),s)
 | _,_=>none
theorem tmod_pos (a m:Int) (hm:0 < m) : -m < a.tmod m∧a.tmod m < m∧(a.tmod m=a % m∨(a.tmod m < 0∧a.tmod m+m=a % m)):=by
 have hb:=Int.emod_nonneg a (b:=m) (by omega)
 have hc:=Int.emod_lt_of_pos a hm
 rcases Int.lt_or_le a 0 with h | h
 ·have e:a.tmod m = -((-a).tmod m):=by have:=Int.neg_tmod (-a) m; rw [Int.neg_neg] at this; exact this
  have h6:0≤(-a).tmod m:=Int.tmod_nonneg _ (by omega)
  have h7:(-a).tmod m < m:=Int.tmod_lt_of_pos _ hm
  refine⟨by omega,by omega,?_⟩
  have h8:m ∣ a - a.tmod m:=Int.dvd_self_sub_tmod
  have h9:m ∣ a - a % m:=Int.dvd_self_sub_emod
  obtain⟨u,hu⟩:=h8
  obtain⟨v,hv⟩:=h9
  have hd:a % m - a.tmod m=m * (u - v):=by rw [Int.mul_sub]; omega
  by_cases h0:u - v ≤ -1
  ·have:m * (u - v)≤m * (-1):=Int.mul_le_mul_of_nonneg_left h0 (by omega)
   omega
  ·by_cases h1:u - v=0
   ·rw [h1] at hd; simp at hd; exact .inl (by omega)
   ·by_cases h2:u - v=1
    ·rw [h2] at hd; simp at hd; exact .inr ⟨by omega,by omega⟩
    ·have:m * 2≤m * (u - v):=Int.mul_le_mul_of_nonneg_left (by omega) (by omega)
     omega
 ·have h6:=Int.tmod_nonneg m h
  exact⟨by omega,Int.tmod_lt_of_pos _ hm,.inl (Int.tmod_eq_emod_of_nonneg h)⟩
theorem wthV_in {a lo hi:Int} (h:lo≤hi):lo≤wthV a lo hi∧wthV a lo hi≤hi:=by
 simp only [wthV]
 have hb:=Int.emod_nonneg a (b:=hi - lo+1) (by omega)
 have hc:=Int.emod_lt_of_pos a (b:=hi - lo+1) (by omega)
 omega
theorem within_ok (a lo hi:Int) (h:lo≤hi) (h1 : -1000000≤lo) (h2:hi≤1000000):SFun prog 14 [.int .i64 a,.int .i64 lo,.int .i64 hi] (mkS []) fun l s=>l=.int .i64 (wthV a lo hi)∧s=mkS []:=by
 refine SFun.mono (SFun.vc (Q:=fun l b=>l=.int .i64 (wthV a lo hi)∧b=[]) noCx_ok (n:=40) 0 rfl ?_) fun l s' ⟨b0,⟨h1,h2⟩,h3⟩=>⟨h1,by rw [h3,h2]⟩
 have hq:=Int.emod_nonneg a (b:=hi - lo+1) (by omega)
 have e1:xar .sub .i64 hi lo=hi - lo:=sub_i64 (by omega) (by omega)
 have e2:xar .add .i64 (hi - lo) 1=hi - lo+1:=add_i64 (by omega) (by omega)
 have e3:xar .rem .i64 a (hi - lo+1)=a.tmod (hi - lo+1):=xar_rem _ _ _ (by omega)
 obtain⟨t1,t2,t3⟩:=tmod_pos a (hi - lo+1) (by omega)
 rw [within_x,e1,e2,e3]
 refine must (t_neq (by omega)) ?_
 rw [xcm_lss]
 refine ite_way (fun hn=>?_) (fun hn=>?_)
 ·have e:xar .add .i64 lo (xar .add .i64 (xar .sub .i64 (xar .add .i64 (a.tmod (hi - lo+1)) hi) lo) 1)=wthV a lo hi:=by
   simp only [wthV]
   rw [add_i64 (x:=a.tmod (hi - lo+1)) (by omega) (by omega),sub_i64 (by omega) (by omega),add_i64 (x:=a.tmod (hi - lo+1)+hi - lo) (by omega) (by omega),add_i64 (by omega) (by omega)]
   omega
  rw [e]
  exact⟨rfl,_,[],[],⟨rfl,rfl⟩,by(exact zC)⟩
 ·have e:xar .add .i64 lo (a.tmod (hi - lo+1))=wthV a lo hi:=by
   simp only [wthV]
   rw [add_i64 (by omega) (by omega)]; omega
  rw [e]
  exact⟨rfl,_,[],[],⟨rfl,rfl⟩,by(exact zC)⟩
theorem withinG_ok:GOk prog 14 withinG:=by
 intro args s bs l s' hg hb hfr
 unfold withinG at hg
 split at hg
 ·rename_i a lo hi hgl
  simp only [Option.some.injEq,Prod.mk.injEq] at hg
  obtain⟨rfl,rfl,rfl⟩:=hg
  obtain⟨k1,hb⟩:=allT_cons.1 hb
  obtain⟨k2,hb⟩:=allT_cons.1 hb
  have k3:=(allT_cons.1 hb).1
  rw [xcm_leq,decide_eq_true_eq] at k1 k2 k3
  exact SFun.pure hfr hgl rfl rfl (within_ok a lo hi k1 k2 k3)
 ·cases hg
def cxd:Cx:=cxl [(14,wrapG withinG)]
abbrev dS:List Code:=sp prog 6
abbrev dL:List Nat:=[0,1,4,5,6,7,8,10]
abbrev dB:List Code:=spineL (loopOf (nthC dS 3))
abbrev dC:List Code:=spineL (blockIn (nthC dB 2))
abbrev dT0 (n i:Nat):List (Nat×LV):=[(0,.slo 0 0 n 0),(1,.bool false),(5,.slo 1 0 i 0),(6,.int .i64 i)]
abbrev dH0 (dx lx:List LV) (O:LB):List LB:=[.ro dx,.cells lx (some 14),O,.dead]
abbrev aC (k b e s:Int) (x y:LV):List LV:=[.int .i64 0,.int .i64 0,.int .i64 0,.bool false,.int .i64 k,.int .i64 0,.int .u64 0,.int .u64 s,.int .i64 b,.int .i64 e,x,y,.nils,.str []]
abbrev dT1 (n i j:Nat):List (Nat×LV):=[(0,.slo 0 0 n 0),(1,.bool false),(5,.slo 1 0 i 0),(6,.int .i64 i),(7,.ptr 4 0),(8,.int .i64 j)]
abbrev dT2 (n i j:Nat):List (Nat×LV):=[(0,.slo 0 0 n 0),(1,.bool false),(5,.slo 1 0 i 0),(6,.int .i64 i),(7,.ptr 4 0),(10,.int .i64 j)]
abbrev dH1 (dx lx:List LV) (O:LB) (k b e s:Int) (j m:Nat) (rc cc:List LV):List LB:=[.ro dx,.cells lx (some 14),O,.dead,.cells (aC k b e s (.slo 5 0 j 0) (.slo 6 0 m 0)) none,.cells rc (some 2),.cells cc (some 2)]
abbrev dH2 (dx lx:List LV) (O:LB) (k b e s:Int) (x y:Value):List LB:=[.ro dx,.cells lx (some 14),.dead,.dead,.cells (aC k b e s (.val x) (.val y)) none,.dead,.dead,.dead,.dead,O,.dead]
theorem cxd_ok:CtrOk prog (ctrOf cxd):=cxl_ok ⟨wrapG_ok withinG_ok,trivial⟩
theorem at_0 (n:Nat) (dx:List LV) (F:World→Prop) (K:Pk):(xsp prog cxd 60 140 (seg dS 0 3) (tm0 [.slo 0 0 n 0,.bool false]) (mkS [.ro dx] (factG F)) (vK dL K))=(
 K .normal [.slo 0 0 n 0,.bool false,.nils,.nils,.int .i64 0,.tup [],.tup [],.tup []] [some (.ro dx)] (factG F)):=by kernel_rfl
theorem at_a (n i:Nat) (dx lx:List LV) (O:LB) (F:World→Prop) (K:Pk):(xsp prog cxd 60 140 (seg dB 0 2) (mkTm 140 (dT0 n i)) (mkS (dH0 dx lx O) (factG F)) (vK dL K))=(
 bif xcm .lss ↑i ↑n then(
 bif xcm .lss (↑i) 20 then(
 K .normal [.slo 0 0 n 0,.bool false,.any,.slo 1 0 i 0,.int .i64 ↑i,.any,.any,.any] [some (.ro dx),sC lx 14,some O,sD] (factG F))
 else(
 K (.exit 0) [.slo 0 0 n 0,.bool false,.any,.slo 1 0 i 0,.int .i64 ↑i,.any,.any,.any] [some (.ro dx),sC lx 14,some O,sD] (factG F)))
 else(
 K (.exit 0) [.slo 0 0 n 0,.bool false,.any,.slo 1 0 i 0,.int .i64 ↑i,.any,.any,.any] [some (.ro dx),sC lx 14,some O,sD] (factG F))):=by kernel_rfl
theorem at_b (n i:Nat) (dx lx:List LV) (O:LB) (F:World→Prop) (K:Pk):(xsp prog cxd 60 140 (seg dC 0 4) (mkTm 140 (dT0 n i)) (mkS (dH0 dx lx O) (factG F)) (vK dL K))=(
 ck (xle (xadd (xnat ↑i) 1) n) <|
 ck (xle (xadd (xix 0 (xnat ↑i) 6) 1) (xln dx)) <|
 ck (isI .i64 (nthD dx (xix 0 (xnat ↑i) 6))) <|
 ck (xle (xadd (xnat ↑i) 1) n) <|
 ck (xle (xadd (xadd (xix 0 (xnat ↑i) 6) 1) 1) (xln dx)) <|
 ck (isI .i64 (nthD dx (xadd (xix 0 (xnat ↑i) 6) 1))) <|
 ck (xle (xadd (xnat ↑i) 1) n) <|
 ck (xle (xadd (xadd (xix 0 (xnat ↑i) 6) 2) 1) (xln dx)) <|
 ck (isI .i64 (nthD dx (xadd (xix 0 (xnat ↑i) 6) 2))) <|
 ck (xle (xadd (xnat ↑i) 1) n) <|
 ck (xle (xadd (xadd (xix 0 (xnat ↑i) 6) 3) 1) (xln dx)) <|
 ck (isI .u64 (nthD dx (xadd (xix 0 (xnat ↑i) 6) 3))) <|
 ck (xle (xadd (xix 0 (xnat ↑i) 6) 1) (xln dx)) <|
 ck (isI .i64 (nthD dx (xix 0 (xnat ↑i) 6))) <|
 ck (xcm .eql (asI (nthD dx (xix 0 (xnat ↑i) 6))) (asI (nthD dx (xix 0 (xnat ↑i) 6)))) <|
 ck (xle (xadd (xix 0 (xnat ↑i) 6) 1) (xln dx)) <|
 ck (isI .i64 (nthD dx (xix 0 (xnat ↑i) 6))) <|
 ck (xcm .eql (asI (nthD dx (xix 0 (xnat ↑i) 6))) (asI (nthD dx (xix 0 (xnat ↑i) 6)))) <|
 ck (xle (xadd (xadd (xix 0 (xnat ↑i) 6) 1) 1) (xln dx)) <|
 ck (isI .i64 (nthD dx (xadd (xix 0 (xnat ↑i) 6) 1))) <|
 ck (xcm .eql (asI (nthD dx (xadd (xix 0 (xnat ↑i) 6) 1))) (asI (nthD dx (xadd (xix 0 (xnat ↑i) 6) 1)))) <|
 ck (xle (xadd (xadd (xix 0 (xnat ↑i) 6) 1) 1) (xln dx)) <|
 ck (isI .i64 (nthD dx (xadd (xix 0 (xnat ↑i) 6) 1))) <|
 ck (xcm .eql (asI (nthD dx (xadd (xix 0 (xnat ↑i) 6) 1))) (asI (nthD dx (xadd (xix 0 (xnat ↑i) 6) 1)))) <|
 ck (xle (xadd (xadd (xix 0 (xnat ↑i) 6) 2) 1) (xln dx)) <|
 ck (isI .i64 (nthD dx (xadd (xix 0 (xnat ↑i) 6) 2))) <|
 ck (xcm .eql (asI (nthD dx (xadd (xix 0 (xnat ↑i) 6) 2))) (asI (nthD dx (xadd (xix 0 (xnat ↑i) 6) 2)))) <|
 ck (xle (xadd (xadd (xix 0 (xnat ↑i) 6) 2) 1) (xln dx)) <|
 ck (isI .i64 (nthD dx (xadd (xix 0 (xnat ↑i) 6) 2))) <|
 ck (xcm .eql (asI (nthD dx (xadd (xix 0 (xnat ↑i) 6) 2))) (asI (nthD dx (xadd (xix 0 (xnat ↑i) 6) 2)))) <|
 ck (xle (xadd (xadd (xix 0 (xnat ↑i) 6) 3) 1) (xln dx)) <|
 ck (isI .u64 (nthD dx (xadd (xix 0 (xnat ↑i) 6) 3))) <|
 ck (xcm .eql (asI (nthD dx (xadd (xix 0 (xnat ↑i) 6) 3))) (asI (nthD dx (xadd (xix 0 (xnat ↑i) 6) 3)))) <|
 ck (xle (xadd (xadd (xix 0 (xnat ↑i) 6) 3) 1) (xln dx)) <|
 ck (isI .u64 (nthD dx (xadd (xix 0 (xnat ↑i) 6) 3))) <|
 ck (xcm .eql (asI (nthD dx (xadd (xix 0 (xnat ↑i) 6) 3))) (asI (nthD dx (xadd (xix 0 (xnat ↑i) 6) 3)))) <|
 ck (xcm .eql (asI (nthD dx (xadd (xix 0 (xnat ↑i) 6) 1))) (asI (nthD dx (xadd (xix 0 (xnat ↑i) 6) 1)))) <|
 ck (xcm .eql (asI (nthD dx (xadd (xix 0 (xnat ↑i) 6) 1))) (asI (nthD dx (xadd (xix 0 (xnat ↑i) 6) 1)))) <|
 ck (xcm .eql (asI (nthD dx (xadd (xix 0 (xnat ↑i) 6) 2))) (asI (nthD dx (xadd (xix 0 (xnat ↑i) 6) 2)))) <|
 ck (xcm .eql (asI (nthD dx (xadd (xix 0 (xnat ↑i) 6) 2))) (asI (nthD dx (xadd (xix 0 (xnat ↑i) 6) 2)))) <|
 ck (xcm .eql (asI (nthD dx (xadd (xix 0 (xnat ↑i) 6) 2))) (asI (nthD dx (xadd (xix 0 (xnat ↑i) 6) 2)))) <|
 ck (xcm .eql (asI (nthD dx (xadd (xix 0 (xnat ↑i) 6) 2))) (asI (nthD dx (xadd (xix 0 (xnat ↑i) 6) 2)))) <|
 ck (xcm .eql (asI (nthD dx (xadd (xix 0 (xnat ↑i) 6) 3))) (asI (nthD dx (xadd (xix 0 (xnat ↑i) 6) 3)))) <|
 ck (xcm .eql (asI (nthD dx (xadd (xix 0 (xnat ↑i) 6) 3))) (asI (nthD dx (xadd (xix 0 (xnat ↑i) 6) 3)))) <|
 ck (xcm .eql (asI (nthD dx (xadd (xix 0 (xnat ↑i) 6) 3))) (asI (nthD dx (xadd (xix 0 (xnat ↑i) 6) 3)))) <|
 ck (xcm .eql (asI (nthD dx (xadd (xix 0 (xnat ↑i) 6) 3))) (asI (nthD dx (xadd (xix 0 (xnat ↑i) 6) 3)))) <|
 ck (xcm .eql (asI (nthD dx (xadd (xix 0 (xnat ↑i) 6) 3))) (asI (nthD dx (xadd (xix 0 (xnat ↑i) 6) 3)))) <|
 ck (xcm .eql (asI (nthD dx (xadd (xix 0 (xnat ↑i) 6) 3))) (asI (nthD dx (xadd (xix 0 (xnat ↑i) 6) 3)))) <|
 K .normal [.slo 0 0 n 0,.bool false,.any,.slo 1 0 i 0,.int .i64 ↑i,.ptr 4 0,.int .i64 0,.any] [some (.ro dx),sC lx 14,some O,sD,sN [.int .i64 0,.int .i64 0,.int .i64 0,.bool false,.int .i64 (wthV (asI (nthD dx (xix 0 (xnat ↑i) 6))) 0 6),.int .i64 0,.int .u64 0,.int .u64 (xar .rem .u64 (asI (nthD dx (xadd (xix 0 (xnat ↑i) 6) 3))) 4),.int .i64 (wthV (asI (nthD dx (xadd (xix 0 (xnat ↑i) 6) 1))) 0 12),.int .i64 (wthV (asI (nthD dx (xadd (xix 0 (xnat ↑i) 6) 2))) 0 14),.nils,.nils,.nils,.str []]] (factG F)):=by kernel_rfl
abbrev at_c_b1 (j:Nat) (m:Nat) (k:Int) (b:Int) (e:Int) (s:Int) (dx:List LV) (lx:List LV) (O:LB) (rc:List LV) (cc:List LV):List (Option LB):=[some (.ro dx),sC lx 14,some O,sD,sN [.int .i64 0,.int .i64 0,.int .i64 0,.bool false,.int .i64 k,.int .i64 0,.int .u64 0,.int .u64 s,.int .i64 b,.int .i64 e,.slo 5 0 j 0,.slo 6 0 m 0,.nils,.str []],sC rc 2,sC cc 2]
theorem at_c (n i j m:Nat) (k b e s:Int) (dx lx:List LV) (O:LB) (rc cc:List LV) (F:World→Prop) (K:Pk):(xcode prog cxd 60 140 (loopOf (nthC dC 4)) (mkTm 140 (dT1 n i j)) (mkS (dH1 dx lx O k b e s j m rc cc) (factG F)) (vK dL K))=(
 ck (xle (xadd (xnat ↑i) 1) n) <|
 ck (xle (xadd (xadd (xix 0 (xnat ↑i) 6) 4) 1) (xln dx)) <|
 ck (isV (nthD dx (xadd (xix 0 (xnat ↑i) 6) 4))) <|
 bif xcm .lss ↑j ↑(xvl (asV (nthD dx (xadd (xix 0 (xnat ↑i) 6) 4)))) then(
 bif xcm .lss (↑j) 4 then(
 ck (xle (xadd (xnat ↑i) 1) n) <|
 ck (xle (xadd (xadd (xix 0 (xnat ↑i) 6) 4) 1) (xln dx)) <|
 ck (isV (nthD dx (xadd (xix 0 (xnat ↑i) 6) 4))) <|
 ck (xvix (asV (nthD dx (xadd (xix 0 (xnat ↑i) 6) 4))) (xnat ↑j)) <|
 ck (xvrok F (asV (nthD dx (xadd (xix 0 (xnat ↑i) 6) 4))) (xmul (xnat ↑j) 2) 2) <|
 ck (xle 2 (xln (xvrow F (asV (nthD dx (xadd (xix 0 (xnat ↑i) 6) 4))) (xmul (xnat ↑j) 2) 2))) <|
 ck (isI .i64 (nthD (xvrow F (asV (nthD dx (xadd (xix 0 (xnat ↑i) 6) 4))) (xmul (xnat ↑j) 2) 2) 0)) <|
 ck (isI .u64 (nthD (xvrow F (asV (nthD dx (xadd (xix 0 (xnat ↑i) 6) 4))) (xmul (xnat ↑j) 2) 2) 1)) <|
 ck (xcm .eql (asI (nthD (xvrow F (asV (nthD dx (xadd (xix 0 (xnat ↑i) 6) 4))) (xmul (xnat ↑j) 2) 2) 1)) (asI (nthD (xvrow F (asV (nthD dx (xadd (xix 0 (xnat ↑i) 6) 4))) (xmul (xnat ↑j) 2) 2) 1))) <|
 ck (xcm .eql (asI (nthD (xvrow F (asV (nthD dx (xadd (xix 0 (xnat ↑i) 6) 4))) (xmul (xnat ↑j) 2) 2) 1)) (asI (nthD (xvrow F (asV (nthD dx (xadd (xix 0 (xnat ↑i) 6) 4))) (xmul (xnat ↑j) 2) 2) 1))) <|
 ck (xle (xadd j 1) 1000000) <|
 ck (xle (xadd 0 (xmul j 2)) (xln rc)) <|
 K .normal [.slo 0 0 n 0,.bool false,.any,.slo 1 0 i 0,.int .i64 ↑i,.ptr 4 0,.int .i64 (xar .add .i64 (↑j) 1),.any] [some (.ro dx),sC lx 14,some O,sD,sN [.int .i64 0,.int .i64 0,.int .i64 0,.bool false,.int .i64 k,.int .i64 0,.int .u64 0,.int .u64 s,.int .i64 b,.int .i64 e,.slo 9 0 (xadd j 1) 0,.slo 6 0 m 0,.nils,.str []],sD,sC cc 2,sN [.int .i64 (wthV (asI (nthD (xvrow F (asV (nthD dx (xadd (xix 0 (xnat ↑i) 6) 4))) (xmul (xnat ↑j) 2) 2) 0)) 1 5),.int .u64 (xar .rem .u64 (asI (nthD (xvrow F (asV (nthD dx (xadd (xix 0 (xnat ↑i) 6) 4))) (xmul (xnat ↑j) 2) 2) 1)) 2)],sN [.int .i64 (wthV (asI (nthD (xvrow F (asV (nthD dx (xadd (xix 0 (xnat ↑i) 6) 4))) (xmul (xnat ↑j) 2) 2) 0)) 1 5),.int .u64 (xar .rem .u64 (asI (nthD (xvrow F (asV (nthD dx (xadd (xix 0 (xnat ↑i) 6) 4))) (xmul (xnat ↑j) 2) 2) 1)) 2)],sC (xcat (xcut rc 0 (xmul j 2)) [.int .i64 (wthV (asI (nthD (xvrow F (asV (nthD dx (xadd (xix 0 (xnat ↑i) 6) 4))) (xmul (xnat ↑j) 2) 2) 0)) 1 5),.int .u64 (xar .rem .u64 (asI (nthD (xvrow F (asV (nthD dx (xadd (xix 0 (xnat ↑i) 6) 4))) (xmul (xnat ↑j) 2) 2) 1)) 2)]) 2] (factG F))
 else(
 K (.exit 2) [.slo 0 0 n 0,.bool false,.any,.slo 1 0 i 0,.int .i64 ↑i,.ptr 4 0,.int .i64 ↑j,.any] (at_c_b1 j m k b e s dx lx O rc cc) (factG F)))
 else(
 K (.exit 2) [.slo 0 0 n 0,.bool false,.any,.slo 1 0 i 0,.int .i64 ↑i,.ptr 4 0,.int .i64 ↑j,.any] (at_c_b1 j m k b e s dx lx O rc cc) (factG F))):=by kernel_rfl
theorem at_d (n i j m:Nat) (k b e s:Int) (dx lx:List LV) (O:LB) (rc cc:List LV) (F:World→Prop) (K:Pk):(xsp prog cxd 60 140 (seg dC 5 1) (mkTm 140 (dT1 n i j)) (mkS (dH1 dx lx O k b e s j m rc cc) (factG F)) (vK dL K))=(
 K .normal [.slo 0 0 n 0,.bool false,.any,.slo 1 0 i 0,.int .i64 ↑i,.ptr 4 0,.int .i64 ↑j,.int .i64 0] [some (.ro dx),sC lx 14,some O,sD,sN [.int .i64 0,.int .i64 0,.int .i64 0,.bool false,.int .i64 k,.int .i64 0,.int .u64 0,.int .u64 s,.int .i64 b,.int .i64 e,.slo 5 0 j 0,.slo 6 0 m 0,.nils,.str []],sC rc 2,sC cc 2] (factG F)):=by kernel_rfl
abbrev at_e_b1 (j:Nat) (m:Nat) (k:Int) (b:Int) (e:Int) (s:Int) (dx:List LV) (lx:List LV) (O:LB) (rc:List LV) (cc:List LV):List (Option LB):=[some (.ro dx),sC lx 14,some O,sD,sN [.int .i64 0,.int .i64 0,.int .i64 0,.bool false,.int .i64 k,.int .i64 0,.int .u64 0,.int .u64 s,.int .i64 b,.int .i64 e,.slo 5 0 j 0,.slo 6 0 m 0,.nils,.str []],sC rc 2,sC cc 2]
theorem at_e (n i j m:Nat) (k b e s:Int) (dx lx:List LV) (O:LB) (rc cc:List LV) (F:World→Prop) (K:Pk):(xcode prog cxd 60 140 (loopOf (nthC dC 6)) (mkTm 140 (dT2 n i m)) (mkS (dH1 dx lx O k b e s j m rc cc) (factG F)) (vK dL K))=(
 ck (xle (xadd (xnat ↑i) 1) n) <|
 ck (xle (xadd (xadd (xix 0 (xnat ↑i) 6) 5) 1) (xln dx)) <|
 ck (isV (nthD dx (xadd (xix 0 (xnat ↑i) 6) 5))) <|
 bif xcm .lss ↑m ↑(xvl (asV (nthD dx (xadd (xix 0 (xnat ↑i) 6) 5)))) then(
 bif xcm .lss (↑m) 4 then(
 ck (xle (xadd (xnat ↑i) 1) n) <|
 ck (xle (xadd (xadd (xix 0 (xnat ↑i) 6) 5) 1) (xln dx)) <|
 ck (isV (nthD dx (xadd (xix 0 (xnat ↑i) 6) 5))) <|
 ck (xvix (asV (nthD dx (xadd (xix 0 (xnat ↑i) 6) 5))) (xnat ↑m)) <|
 ck (xvrok F (asV (nthD dx (xadd (xix 0 (xnat ↑i) 6) 5))) (xmul (xnat ↑m) 2) 2) <|
 ck (xle 2 (xln (xvrow F (asV (nthD dx (xadd (xix 0 (xnat ↑i) 6) 5))) (xmul (xnat ↑m) 2) 2))) <|
 ck (isI .i64 (nthD (xvrow F (asV (nthD dx (xadd (xix 0 (xnat ↑i) 6) 5))) (xmul (xnat ↑m) 2) 2) 0)) <|
 ck (isI .u64 (nthD (xvrow F (asV (nthD dx (xadd (xix 0 (xnat ↑i) 6) 5))) (xmul (xnat ↑m) 2) 2) 1)) <|
 ck (xcm .eql (asI (nthD (xvrow F (asV (nthD dx (xadd (xix 0 (xnat ↑i) 6) 5))) (xmul (xnat ↑m) 2) 2) 1)) (asI (nthD (xvrow F (asV (nthD dx (xadd (xix 0 (xnat ↑i) 6) 5))) (xmul (xnat ↑m) 2) 2) 1))) <|
 ck (xcm .eql (asI (nthD (xvrow F (asV (nthD dx (xadd (xix 0 (xnat ↑i) 6) 5))) (xmul (xnat ↑m) 2) 2) 1)) (asI (nthD (xvrow F (asV (nthD dx (xadd (xix 0 (xnat ↑i) 6) 5))) (xmul (xnat ↑m) 2) 2) 1))) <|
 ck (xle (xadd m 1) 1000000) <|
 ck (xle (xadd 0 (xmul m 2)) (xln cc)) <|
 K .normal [.slo 0 0 n 0,.bool false,.any,.slo 1 0 i 0,.int .i64 ↑i,.ptr 4 0,.any,.int .i64 (xar .add .i64 (↑m) 1)] [some (.ro dx),sC lx 14,some O,sD,sN [.int .i64 0,.int .i64 0,.int .i64 0,.bool false,.int .i64 k,.int .i64 0,.int .u64 0,.int .u64 s,.int .i64 b,.int .i64 e,.slo 5 0 j 0,.slo 9 0 (xadd m 1) 0,.nils,.str []],sC rc 2,sD,sN [.int .i64 (wthV (asI (nthD (xvrow F (asV (nthD dx (xadd (xix 0 (xnat ↑i) 6) 5))) (xmul (xnat ↑m) 2) 2) 0)) 1 5),.int .u64 (xar .rem .u64 (asI (nthD (xvrow F (asV (nthD dx (xadd (xix 0 (xnat ↑i) 6) 5))) (xmul (xnat ↑m) 2) 2) 1)) 2)],sN [.int .i64 (wthV (asI (nthD (xvrow F (asV (nthD dx (xadd (xix 0 (xnat ↑i) 6) 5))) (xmul (xnat ↑m) 2) 2) 0)) 1 5),.int .u64 (xar .rem .u64 (asI (nthD (xvrow F (asV (nthD dx (xadd (xix 0 (xnat ↑i) 6) 5))) (xmul (xnat ↑m) 2) 2) 1)) 2)],sC (xcat (xcut cc 0 (xmul m 2)) [.int .i64 (wthV (asI (nthD (xvrow F (asV (nthD dx (xadd (xix 0 (xnat ↑i) 6) 5))) (xmul (xnat ↑m) 2) 2) 0)) 1 5),.int .u64 (xar .rem .u64 (asI (nthD (xvrow F (asV (nthD dx (xadd (xix 0 (xnat ↑i) 6) 5))) (xmul (xnat ↑m) 2) 2) 1)) 2)]) 2] (factG F))
 else(
 K (.exit 4) [.slo 0 0 n 0,.bool false,.any,.slo 1 0 i 0,.int .i64 ↑i,.ptr 4 0,.any,.int .i64 ↑m] (at_e_b1 j m k b e s dx lx O rc cc) (factG F)))
 else(
 K (.exit 4) [.slo 0 0 n 0,.bool false,.any,.slo 1 0 i 0,.int .i64 ↑i,.ptr 4 0,.any,.int .i64 ↑m] (at_e_b1 j m k b e s dx lx O rc cc) (factG F))):=by kernel_rfl
theorem at_f (n i j:Nat) (k b e s:Int) (x y:Value) (dx lx:List LV) (O:LB) (F:World→Prop) (K:Pk):(xsp prog cxd 60 140 (dC.drop 7) (mkTm 140 (dT2 n i j)) (mkS (dH2 dx lx O k b e s x y) (factG F)) (vK dL K))=(
 ck (xle (xadd i 1) 1000000) <|
 ck (xle (xadd 0 (xmul i 14)) (xln lx)) <|
 K .normal [.slo 0 0 n 0,.bool false,.any,.slo 12 0 (xadd i 1) 0,.int .i64 ↑i,.ptr 4 0,.any,.int .i64 ↑j] [some (.ro dx),sD,sD,sD,sN [.int .i64 0,.int .i64 0,.int .i64 0,.bool false,.int .i64 k,.int .i64 0,.int .u64 0,.int .u64 s,.int .i64 b,.int .i64 e,.val x,.val y,.nils,.str []],sD,sD,sD,sD,some O,sD,sN [.int .i64 0,.int .i64 0,.int .i64 0,.bool false,.int .i64 k,.int .i64 0,.int .u64 0,.int .u64 s,.int .i64 b,.int .i64 e,.val x,.val y,.nils,.str []],sC (xcat (xcut lx 0 (xmul i 14)) [.int .i64 0,.int .i64 0,.int .i64 0,.bool false,.int .i64 k,.int .i64 0,.int .u64 0,.int .u64 s,.int .i64 b,.int .i64 e,.val x,.val y,.nils,.str []]) 14] (factG F)):=by kernel_rfl
theorem at_g (n i i2:Nat) (dx lx:List LV) (O:LB) (F:World→Prop) (K:Pk):(xsp prog cxd 60 140 (dB.drop 3) (mkTm 140 [(0,.slo 0 0 n 0),(1,.bool false),(5,.slo 1 0 i2 0),(6,.int .i64 i)]) (mkS (dH0 dx lx O) (factG F)) (vK dL K))=(
 K .normal [.slo 0 0 n 0,.bool false,.any,.slo 1 0 i2 0,.int .i64 (xar .add .i64 (↑i) 1),.any,.any,.any] [some (.ro dx),sC lx 14,some O,sD] (factG F)):=by kernel_rfl
theorem at_z (n i:Nat) (dx lx:List LV) (O:LB) (F:World→Prop) (K:Pk):(xsp prog cxd 60 140 (dS.drop 4) (mkTm 140 (dT0 n i)) (mkS (dH0 dx lx O) (factG F)) (vK dL K))=(
 K .ret [.slo 0 0 n 0,.bool false,.slo 1 0 i 0,.slo 1 0 i 0,.int .i64 ↑i,.any,.any,.any] [some (.ro dx),sC lx 14,some O,sD] (factG F)):=by kernel_rfl
end
end Go.Lev
