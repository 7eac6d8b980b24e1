/- chapter 11: what an ask does, as a contract -/
import Derived.Test.YtopbikapcboigaaCZ22
import Derived.Test.YtopbikapcboigaaLc
import Derived.Test.YtopbikapcboigaaChecked
import Derived.KernelRfl
namespace Go.Lev
set_option linter.unusedSimpArgs false
set_option linter.unusedVariables false
open Go.RowKit
open Go.Proofs.Try (prog)
set_option maxRecDepth 100000
noncomputable section
theorem cxdo_ok:CtrOk prog (ctrOf cxdo):=cxl_ok ⟨withinG_ok,frG_ok,ofrG_ok,gvG_ok,ogvG_ok,lopenG_ok,oopenG_ok,lkeepG_ok,okeepG_ok,ldropG_ok,odropG_ok,alG_ok,oalG_ok,trivial⟩
def daK (k:Int):Nat:=if wthV k 0 9=0∨wthV k 0 9=5 then 0 else if wthV k 0 9=1∨wthV k 0 9=6 then 1 else if wthV k 0 9=2 then 2 else if wthV k 0 9=3 then 3 else if wthV k 0 9=4 then 4 else 5
def daB (tc:List LV) (m:Nat) (a:Int) (q:Bool):Int:=if q=true∧0 < m then(decIi64 tc).getD (wthV a 0 ((m:Int) - 1)).toNat 0 else wthV a 0 256
def daD (sz:Nat) (kc cs tc:List LV) (m:Nat) (k a:Int) (q:Bool) (nd:Int):Int:=match daK k with | 0=>hrD sz kc cs (daB tc m a q) nd | 1=>gvD sz kc cs (daB tc m a q) nd | 5=>alD sz kc cs (wthV a (-1) 17) nd | _=>nd
def daN (sz:Nat) (most:Int) (kc cs tc:List LV) (m:Nat) (k a:Int) (q:Bool) (d:Nat):Nat:=match daK k with | 0=>fbN sz most kc cs (daB tc m a q) d | 1=>gvN sz most kc cs (daB tc m a q) d | 2=>lopenD cs | 3=>lkeepD cs | 4=>ldropD cs | _=>alN sz most kc cs (wthV a (-1) 17) d
def daC (sz:Nat) (most:Int) (kc cs tc:List LV) (m:Nat) (k a:Int) (q:Bool):List LV:=match daK k with | 0=>fbC sz most kc cs (daB tc m a q) | 1=>gvC sz most kc cs (daB tc m a q) | 2=>lopenC cs | 3=>lkeepC cs | 4=>ldropC cs | _=>alC sz most kc cs (wthV a (-1) 17)
def daM (sz:Nat) (most:Int) (kc cs:List LV) (m:Nat) (k a:Int):Nat:=if daK k=5∧alE sz most kc cs (wthV a (-1) 17)=0 then m+1 else m
def daR (sz:Nat) (most:Int) (kc cs tc:List LV) (k a:Int):List LV:=if daK k=5∧alE sz most kc cs (wthV a (-1) 17)=0 then encL (cI .i64) (decIi64 tc++[alV sz most kc cs (wthV a (-1) 17)]) else tc
def daF (sz:Nat) (most:Int) (kc cs tc:List LV) (m:Nat) (k a:Int) (q:Bool):Bool:=if daK k=0 then fbF sz most kc cs (daB tc m a q) else true
abbrev daO (sz n:Nat) (kc sc:List LV) (nd most:Int) (d:Nat) (cs tc:List LV):List LB:=[.cells [.slo 1 0 n 0,.slo 2 0 sz 0,.int .i64 nd,.ptr 3 0] none,.cells kc (some 2),.cells sc (some 1),.cells [.int .i64 most,.slo 12 0 d 0] none,.dead,.dead,.cells [.int .i64 sz,.slo 7 0 n 0,.ptr 8 0,.int .i64 nd] none,.cells kc (some 2),.cells [.int .i64 most,.slo 14 0 d 0] none,.dead,.dead,.dead,.obj lvF cs 13,.dead,.obj orF cs 15,.dead,.cells tc (some 1)]
theorem wth9 (k:Int):0≤wthV k 0 9∧wthV k 0 9≤9:=wthV_in (by omega)
theorem tI_push (xs:List Int) (x:Int):xcat (xcut (encL (cI .i64) xs) 0 xs.length) [.int .i64 x]=encL (cI .i64) (xs++[x]):=by
 rw [xcut_all (by rw [encIi64_len]; omega),encL_append]; rfl
set_option maxHeartbeats 4000000 in
theorem da_ok (sz n:Nat) (kc sc:List LV) (nd most:Int) (d:Nat) (cs:List LV) (ts:List Int) (k a:Int) (q:Bool) (k1:okK sz n kc=true) (k2:eqL sc (spW sz kc)=true) (k3:okR most cs d=true) (k4:okv sz kc cs=true) (k5:daF sz most kc cs (encL (cI .i64) ts) ts.length k a q=true) (k6:ts.length≤1000) :
  SFun prog 21 [.ptr 0 0,.ptr 6 0,.agg [.int .i64 k,.int .i64 a,.bool q],.slo 11 0 ts.length 0] (mkS (daI sz n kc sc nd most d cs (encL (cI .i64) ts))) fun l t=>l=.tup [.slo 16 0 (daM sz most kc cs ts.length k a) 0,.bool true]∧t=mkS (daO sz n kc sc (daD sz kc cs (encL (cI .i64) ts) ts.length k a q nd) most (daN sz most kc cs (encL (cI .i64) ts) ts.length k a q d) (daC sz most kc cs (encL (cI .i64) ts) ts.length k a q) (daR sz most kc cs (encL (cI .i64) ts) k a)):=by
 refine SFun.mono (SFun.pieces (Q:=fun l b=>l=.tup [.slo 16 0 (daM sz most kc cs ts.length k a) 0,.bool true]∧b=daO sz n kc sc (daD sz kc cs (encL (cI .i64) ts) ts.length k a q nd) most (daN sz most kc cs (encL (cI .i64) ts) ts.length k a q d) (daC sz most kc cs (encL (cI .i64) ts) ts.length k a q) (daR sz most kc cs (encL (cI .i64) ts) k a)) 124 12 daL [8,9] (by kernel_rfl) rfl rfl rfl ?_) fun l s' ⟨b0,⟨h1,h2⟩,h3⟩=>⟨h1,by rw [h3,h2]⟩
 have no:noIds kc=true:=okK_noids k1
 have no2:noIds sc=true:=by rw [eqL_eq k2]; exact spW_noids _ _
 have nt:=noIds_Ii64 ts; have lt:=encIi64_len ts
 have f1:=isF_self lvF; have f2:=isF_self orF
 rw [daF] at k5
 refine SSp.to cxdo_ok (n:=60) (g:=[]) 4 4 rfl (σ:=Unit) (fun _=>daT ts.length (daB (encL (cI .i64) ts) ts.length a q)) (fun _=>daH sz n kc sc nd most d cs (encL (cI .i64) ts) k a q) (mkS_le (Nat.le_of_ble_eq_true rfl)) (by kernel_rfl) ?_ fun _=>?_
 ·rw [da_a]
  cases q with
  | false =>
    have eB:daB (encL (cI .i64) ts) ts.length a false=wthV a 0 256:=if_neg fun z=>by cases z.1
    rw [eB]
    (refine zR ?_)
    exact⟨rfl,(),[.id 0,.id 1,.id 2,.id 3,.id 4,.id 5,.id 6,.id 7,.id 8,.id 9,.id 10,.id 11,.id 12],by(exact zC)⟩
  | true =>
    by_cases c:0 < ts.length
    ·have em:xar .sub .i64 (ts.length:Int) 1=(ts.length:Int) - 1:=sub_i64 (by omega) (by omega)
     obtain⟨w1,w2⟩:=wthV_in (a:=a) (lo:=0) (hi:=(ts.length:Int) - 1) (by omega)
     have eB:daB (encL (cI .i64) ts) ts.length a true=ts.getD (wthV a 0 ((ts.length:Int) - 1)).toNat 0:=by rw [daB,if_pos ⟨rfl,c⟩,decIi64_enc]
     rw [eB]
     simp only [em]
     obtain⟨j,hj⟩:∃ j:Nat,wthV a 0 ((ts.length:Int) - 1)=(j:Int):=⟨(wthV a 0 ((ts.length:Int) - 1)).toNat,by omega⟩
     rw [hj] at w1 w2 ⊢
     have hjl:j < ts.length:=by omega
     have eg:nthD (encL (cI .i64) ts) j=.int .i64 (ts.getD j 0):=by rw [encIi64_nth hjl,List.getD_eq_getElem?_getD,List.getElem?_eq_getElem hjl]; rfl
     simp only [Int.toNat_natCast]
     (refine zN2 @eg @lt ?_)
     (refine zR ?_)
     exact⟨rfl,(),[.id 0,.id 1,.id 2,.id 3,.id 4,.id 5,.id 6,.id 7,.id 8,.id 9,.id 10,.id 11,.id 12],by(exact zC)⟩
    ·have eB:daB (encL (cI .i64) ts) ts.length a true=wthV a 0 256:=if_neg fun z=>c z.2
     rw [eB]
     (refine zR ?_)
     exact⟨rfl,(),[.id 0,.id 1,.id 2,.id 3,.id 4,.id 5,.id 6,.id 7,.id 8,.id 9,.id 10,.id 11,.id 12],by(exact zC)⟩
 try dsimp only
 generalize hb:daB (encL (cI .i64) ts) ts.length a q=b at *
 refine SSp.to cxdo_ok (n:=60) (g:=[]) 2 6 rfl (σ:={_u:Unit // daK k=5}) (fun _=>daT ts.length b) (fun _=>daH sz n kc sc nd most d cs (encL (cI .i64) ts) k a q) (mkS_le (Nat.le_of_ble_eq_true rfl)) (by kernel_rfl) ?_ fun⟨_,h5⟩=>?_
 ·rw [da_b,daM,daR,daD,daN,daC,hb]
  simp only [da_b_b1,da_b_b2,da_b_b3,da_b_b4,da_b_b5,da_b_b6]
  have hw:=wth9 k
  have hk:wthV k 0 9=0∨wthV k 0 9=5∨wthV k 0 9=1∨wthV k 0 9=6∨wthV k 0 9=2∨wthV k 0 9=3∨wthV k 0 9=4∨7≤wthV k 0 9:=by omega
  unfold daK at k5 ⊢
  generalize wthV k 0 9 = κ at *
  simp only [k1,k2,k3,k4,f1,f2,cond_true,cm_self]
  rcases hk with rfl | rfl | rfl | rfl | rfl | rfl | rfl | hk
  ·have k5:fbF sz most kc cs b=true:=by simpa using k5
   simp only [k5]
   (refine zR ?_)
   exact⟨trivial,rfl,_,_,[.id 0,.id 1,.id 2,.id 3,.id 4,.id 5,.id 6,.id 7,.id 8,.id 9,.id 10,.id 11,.id 4,.id 13,.id 14,.id 15,.id 11],⟨rfl,rfl⟩,by(exact zC)⟩
  ·have k5:fbF sz most kc cs b=true:=by simpa using k5
   simp only [k5]
   (refine zR ?_)
   exact⟨trivial,rfl,_,_,[.id 0,.id 1,.id 2,.id 3,.id 4,.id 5,.id 6,.id 7,.id 8,.id 9,.id 10,.id 11,.id 4,.id 13,.id 14,.id 15,.id 11],⟨rfl,rfl⟩,by(exact zC)⟩
  ·(refine zR ?_)
   exact⟨trivial,rfl,_,_,[.id 0,.id 1,.id 2,.id 3,.id 4,.id 5,.id 6,.id 7,.id 8,.id 9,.id 10,.id 11,.id 4,.id 13,.id 14,.id 15,.id 11],⟨rfl,rfl⟩,by(exact zC)⟩
  ·(refine zR ?_)
   exact⟨trivial,rfl,_,_,[.id 0,.id 1,.id 2,.id 3,.id 4,.id 5,.id 6,.id 7,.id 8,.id 9,.id 10,.id 11,.id 4,.id 13,.id 14,.id 15,.id 11],⟨rfl,rfl⟩,by(exact zC)⟩
  ·(refine zR ?_)
   exact⟨trivial,rfl,_,_,[.id 0,.id 1,.id 2,.id 3,.id 4,.id 5,.id 6,.id 7,.id 8,.id 9,.id 10,.id 11,.id 13,.id 14,.id 15,.id 16,.id 11],⟨rfl,rfl⟩,by(exact zC)⟩
  ·(refine zR ?_)
   exact⟨trivial,rfl,_,_,[.id 0,.id 1,.id 2,.id 3,.id 4,.id 5,.id 6,.id 7,.id 8,.id 9,.id 10,.id 11,.id 13,.id 14,.id 15,.id 16,.id 11],⟨rfl,rfl⟩,by(exact zC)⟩
  ·(refine zR ?_)
   exact⟨trivial,rfl,_,_,[.id 0,.id 1,.id 2,.id 3,.id 4,.id 5,.id 6,.id 7,.id 8,.id 9,.id 10,.id 11,.id 13,.id 14,.id 15,.id 16,.id 11],⟨rfl,rfl⟩,by(exact zC)⟩
  ·have h5:(if κ = 0∨κ = 5 then 0 else if κ = 1∨κ = 6 then 1 else if κ = 2 then 2 else if κ = 3 then 3 else if κ = 4 then 4 else 5)=5:=by
    rw [if_neg (by omega),if_neg (by omega),if_neg (by omega),if_neg (by omega),if_neg (by omega)]
   (refine zR ?_)
   exact⟨rfl,⟨(),h5⟩,[.id 0,.id 1,.id 2,.id 3,.id 4,.id 5,.id 6,.id 7,.id 8,.id 9,.id 10,.id 11,.id 12],by(exact zC)⟩
 try dsimp only
 refine zE cxdo_ok ?_
 rw [da_c]; simp only [da_c_b1]; rw [daM,daR,daD,daN,daC,h5]
 simp only [da_c_b1,da_c_b2,k1,k2,k3,k4,f1,f2,cond_true,cm_self,decIi64_enc]
 generalize wthV a (-1) 17=w
 by_cases c:alE sz most kc cs w=0
 ·have pu:=tI_push ts (alV sz most kc cs w)
  have nt2:=noIds_Ii64 (ts++[alV sz most kc cs w])
  rw [if_pos ⟨trivial,c⟩,if_pos ⟨trivial,c⟩]
  have cutE:xcut (encL (cI .i64) ts) 0 ts.length=encL (cI .i64) ts:=xcut_all (by rw [lt]; omega)
  rw [cutE] at pu
  simp only [wd_nat,wd_asV,wd_isV,wd_ix,wd_add,wd_mul,wd_ln,Nat.zero_add,Nat.mul_one,wd_isI,wd_asI,wd_isB,wd_asB,wd_nn,cI_tlen,cB_tlen,cII_tlen,decide_true,cond_true,wd_not_t,wd_not_f,wd_and_t,wd_and_f,cutE,pu,lt,Nat.mul_one]
  (refine zR ?_)
  exact⟨trivial,rfl,_,_,[.id 0,.id 1,.id 2,.id 3,.id 4,.id 5,.id 6,.id 7,.id 8,.id 9,.id 10,.id 11,.id 4,.id 13,.id 14,.id 15,.id 18],⟨rfl,rfl⟩,by(exact zC)⟩
 ·rw [if_neg fun z=>c z.2,if_neg fun z=>c z.2]
  (refine zR ?_)
  exact⟨trivial,rfl,_,_,[.id 0,.id 1,.id 2,.id 3,.id 4,.id 5,.id 6,.id 7,.id 8,.id 9,.id 10,.id 11,.id 4,.id 13,.id 14,.id 15,.id 11],⟨rfl,rfl⟩,by(exact zC)⟩
end
end Go.Lev
