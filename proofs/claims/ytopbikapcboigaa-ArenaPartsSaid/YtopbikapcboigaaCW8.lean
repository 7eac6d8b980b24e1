/- chapter 9: the code's levels: Take as a contract, Put, Free -/
import Derived.Test.YtopbikapcboigaaCW7
import Derived.Test.YtopbikapcboigaaLc
import Derived.Test.YtopbikapcboigaaChecked
import Derived.KernelRfl
namespace Go.Lev
set_option linter.unusedSimpArgs false
set_option linter.unusedVariables false
open Go.RowKit
open Go.Proofs.Try (prog)
set_option maxRecDepth 100000
noncomputable section
def ltE (most:Int) (cs c:List LV):Int:=tkE most (decLs cs) (decC c)
def ltD (most:Int) (cs c:List LV):Nat:=(tkC most (decLs cs) (decC c)).length
def ltC (most:Int) (cs c:List LV):List LV:=encLs (tkC most (decLs cs) (decC c))
theorem ltake_c (most:Int) (d nc:Nat) (cs c:List LV) (k1:okR most cs d=true) (k2:okC c nc=true) (k3:xle nc 800000=true):SFun prog 72 [.ptr 0 0,.slo 3 0 nc 0] (mkS (lvS most d cs [.cells c (some 2)])) fun l t=>l=.int .i64 (ltE most cs c)∧t=mkS (lvS' most (ltD most cs c) (ltC most cs c) [.cells c (some 2)]):=by
 obtain⟨ls,rfl,rfl,h,h1,h2⟩:=okR_iff.1 k1
 obtain⟨xs,rfl,rfl,_⟩:=okC_iff.1 k2
 rw [wd_le,decide_eq_true_eq] at k3
 simp only [ltE,ltD,ltC,decLs_enc,decC_enc]
 exact ltake_ok most xs k3 ls h1 h2
def ltakeG:Gc:=fun args s=>match args,s.g with
 | [.ptr b 0,.slo r 0 nc 0],[]=>(match s.h.get b with
   | some (.cells [.int .i64 most,.slo o 0 d 0] none)=>(match s.h.get o with
     | some (.obj F_o cs e)=>(match s.h.get e with
       | some (.dead)=>(match s.h.get r with
         | some (.cells c (some 2))=>cond (nodupB [b,o,e,r]) (match s.lay [b,o,e,r] [.cells [.int .i64 most,.slo o 0 (ltD most cs c) 0] none,.obj lvF (ltC most cs c) s.n,.dead,.cells c (some 2)] [.dead] with
           | some s'=>some ([okR most cs d,okC c nc,xle nc 800000,isF F_o lvF],.int .i64 (ltE most cs c),s')
           | none=>none) none
         | _=>none)
       | _=>none)
     | _=>none)
   | _=>none)
 | _,_=>none
theorem ltakeG_ok:GOk prog 72 ltakeG:=by
 intro args s bs l s' hg hb hfr
 unfold ltakeG at hg
 split at hg
 ·rename_i b r nc hgl
  split at hg
  ·rename_i most o d hb0
   split at hg
   ·rename_i F_o cs e hb1
    split at hg
    ·rename_i  hb2
     split at hg
     ·rename_i c hb3
      cases hbc:nodupB [b,o,e,r] with
      | false=>rw [hbc] at hg; cases hg
      | true =>
        rw [hbc] at hg
        simp only [cond_true] at hg
        split at hg
        ·rename_i s1 hs1
         simp only [Option.some.injEq,Prod.mk.injEq] at hg
         obtain⟨rfl,rfl,rfl⟩:=hg
         simp only [allT_cons] at hb
         obtain⟨k1,k2,k3,k4,_⟩:=hb
         have e_o:=isF_eq k4
         subst e_o
         have no:noIds c=true:=noids_ok k2
         refine SFun.lay (bs:=[.cells [.int .i64 most,.slo 1 0 d 0] none,.obj lvF cs 2,.dead,.cells c (some 2)]) (args0:=[.ptr 0 0,.slo 3 0 nc 0]) (bs':=[.cells [.int .i64 most,.slo 1 0 (ltD most cs c) 0] none,.obj lvF (ltC most cs c) 4,.dead,.cells c (some 2),.dead]) (v0:=.int .i64 (ltE most cs c)) hfr hs1 (nodupB_nd hbc)
          ⟨⟨there hfr hb0,_,hb0,by first | exact lb_same rfl | exact lb_cells (lws_cons (lw_int) (lws_cons (lw_slo rfl) lws_nil)) (by simp),fun κ hκ=>lb_cells (lws_cons (lw_int) (lws_cons (lw_slo (hκ 1 o rfl)) lws_nil)) (by simp)⟩,⟨there hfr hb1,_,hb1,lb_obj rfl,fun κ hκ=>lb_obj (hκ 2 e rfl)⟩,⟨there hfr hb2,_,hb2,lb_dead,fun κ hκ=>lb_dead⟩,⟨there hfr hb3,_,hb3,lb_same (by(exact zId)),fun κ hκ=>lb_same (by(exact zId))⟩,trivial⟩ (by(exact zTl)) ?_
          fun κ h1 h2=>⟨⟨lb_cells (lws_cons (lw_int) (lws_cons (lw_slo (h1 1 o rfl)) lws_nil)) (by simp),lb_obj (h2 0 (by simp)),lb_dead,lb_same (by(exact zId)),lb_dead,trivial⟩,lw_int⟩
         rw [hgl]; exact(ltake_c most d nc cs c k1 k2 k3)
        ·cases hg
     ·cases hg
    ·cases hg
   ·cases hg
  ·cases hg
 ·cases hg
theorem lf_1 (most b:Int) (n0 m0:Nat) (q0 f0:List LV) (K:Pk):(xsp prog (fun _=>none) 60 17 ((sp prog 73).drop 0) (tm0 [.ptr 0 0,.int .i64 b]) (mkS (lvH1 most n0 m0 q0 f0)) (vK [] K))=(
 ck (xle (xadd m0 1) 1000000) <|
 ck (xle (xadd 0 (xmul m0 1)) (xln f0)) <|
 K .normal [] [sN [.int .i64 most,.slo 1 0 1 0],sC [.ptr 3 0] 1,sD,sN [.ptr 4 0,.slo 8 0 (xadd m0 1) 0],sN [.int .i64 96,.slo 5 0 n0 0],sC q0 2,sD,sN [.int .i64 b],sC (xcat (xcut f0 0 (xmul m0 1)) [.int .i64 b]) 1] []):=by kernel_rfl
theorem lf_2 (most b:Int) (n0 m0 n1 m1:Nat) (q0 f0 q1 f1:List LV) (K:Pk):(xsp prog (fun _=>none) 60 17 ((sp prog 73).drop 0) (tm0 [.ptr 0 0,.int .i64 b]) (mkS (lvH2 most n0 m0 n1 m1 q0 f0 q1 f1)) (vK [] K))=(
 ck (xle (xadd m0 1) 1000000) <|
 ck (xle (xadd 0 (xmul m0 1)) (xln f0)) <|
 K .normal [] (sN [.int .i64 most,.slo 1 0 2 0]::sC [.ptr 7 0,.ptr 3 0] 1::sD::sN [.ptr 4 0,.slo 12 0 (xadd m0 1) 0]::sN [.int .i64 96,.slo 5 0 n0 0]::sC q0 2::sD::bL 8 n1 m1 q1 f1 [sN [.int .i64 b],sC (xcat (xcut f0 0 (xmul m0 1)) [.int .i64 b]) 1]) []):=by kernel_rfl
theorem lf_3 (most b:Int) (n0 m0 n1 m1 n2 m2:Nat) (q0 f0 q1 f1 q2 f2:List LV) (K:Pk):(xsp prog (fun _=>none) 60 17 ((sp prog 73).drop 0) (tm0 [.ptr 0 0,.int .i64 b]) (mkS (lvH3 most n0 m0 n1 m1 n2 m2 q0 f0 q1 f1 q2 f2)) (vK [] K))=(
 ck (xle (xadd m0 1) 1000000) <|
 ck (xle (xadd 0 (xmul m0 1)) (xln f0)) <|
 K .normal [] (sN [.int .i64 most,.slo 1 0 3 0]::sC [.ptr 11 0,.ptr 7 0,.ptr 3 0] 1::sD::sN [.ptr 4 0,.slo 16 0 (xadd m0 1) 0]::sN [.int .i64 96,.slo 5 0 n0 0]::sC q0 2::sD::bL 8 n1 m1 q1 f1 (bL 12 n2 m2 q2 f2 [sN [.int .i64 b],sC (xcat (xcut f0 0 (xmul m0 1)) [.int .i64 b]) 1])) []):=by kernel_rfl
theorem lf_4 (most b:Int) (n0 m0 n1 m1 n2 m2 n3 m3:Nat) (q0 f0 q1 f1 q2 f2 q3 f3:List LV) (K:Pk):(xsp prog (fun _=>none) 60 17 ((sp prog 73).drop 0) (tm0 [.ptr 0 0,.int .i64 b]) (mkS (lvH4 most n0 m0 n1 m1 n2 m2 n3 m3 q0 f0 q1 f1 q2 f2 q3 f3)) (vK [] K))=(
 ck (xle (xadd m0 1) 1000000) <|
 ck (xle (xadd 0 (xmul m0 1)) (xln f0)) <|
 K .normal [] (sN [.int .i64 most,.slo 1 0 4 0]::sC [.ptr 15 0,.ptr 11 0,.ptr 7 0,.ptr 3 0] 1::sD::sN [.ptr 4 0,.slo 20 0 (xadd m0 1) 0]::sN [.int .i64 96,.slo 5 0 n0 0]::sC q0 2::sD::bL 8 n1 m1 q1 f1 (bL 12 n2 m2 q2 f2 (bL 16 n3 m3 q3 f3 [sN [.int .i64 b],sC (xcat (xcut f0 0 (xmul m0 1)) [.int .i64 b]) 1]))) []):=by kernel_rfl
theorem lf_5 (most b:Int) (n0 m0 n1 m1 n2 m2 n3 m3 n4 m4:Nat) (q0 f0 q1 f1 q2 f2 q3 f3 q4 f4:List LV) (K:Pk):(xsp prog (fun _=>none) 60 17 ((sp prog 73).drop 0) (tm0 [.ptr 0 0,.int .i64 b]) (mkS (lvH5 most n0 m0 n1 m1 n2 m2 n3 m3 n4 m4 q0 f0 q1 f1 q2 f2 q3 f3 q4 f4)) (vK [] K))=(
 ck (xle (xadd m0 1) 1000000) <|
 ck (xle (xadd 0 (xmul m0 1)) (xln f0)) <|
 K .normal [] (sN [.int .i64 most,.slo 1 0 5 0]::sC [.ptr 19 0,.ptr 15 0,.ptr 11 0,.ptr 7 0,.ptr 3 0] 1::sD::sN [.ptr 4 0,.slo 24 0 (xadd m0 1) 0]::sN [.int .i64 96,.slo 5 0 n0 0]::sC q0 2::sD::bL 8 n1 m1 q1 f1 (bL 12 n2 m2 q2 f2 (bL 16 n3 m3 q3 f3 (bL 20 n4 m4 q4 f4 [sN [.int .i64 b],sC (xcat (xcut f0 0 (xmul m0 1)) [.int .i64 b]) 1])))) []):=by kernel_rfl
theorem lf_6 (most b:Int) (n0 m0 n1 m1 n2 m2 n3 m3 n4 m4 n5 m5:Nat) (q0 f0 q1 f1 q2 f2 q3 f3 q4 f4 q5 f5:List LV) (K:Pk):(xsp prog (fun _=>none) 60 17 ((sp prog 73).drop 0) (tm0 [.ptr 0 0,.int .i64 b]) (mkS (lvH6 most n0 m0 n1 m1 n2 m2 n3 m3 n4 m4 n5 m5 q0 f0 q1 f1 q2 f2 q3 f3 q4 f4 q5 f5)) (vK [] K))=(
 ck (xle (xadd m0 1) 1000000) <|
 ck (xle (xadd 0 (xmul m0 1)) (xln f0)) <|
 K .normal [] (sN [.int .i64 most,.slo 1 0 6 0]::sC [.ptr 23 0,.ptr 19 0,.ptr 15 0,.ptr 11 0,.ptr 7 0,.ptr 3 0] 1::sD::sN [.ptr 4 0,.slo 28 0 (xadd m0 1) 0]::sN [.int .i64 96,.slo 5 0 n0 0]::sC q0 2::sD::bL 8 n1 m1 q1 f1 (bL 12 n2 m2 q2 f2 (bL 16 n3 m3 q3 f3 (bL 20 n4 m4 q4 f4 (bL 24 n5 m5 q5 f5 [sN [.int .i64 b],sC (xcat (xcut f0 0 (xmul m0 1)) [.int .i64 b]) 1]))))) []):=by kernel_rfl
end
end Go.Lev
