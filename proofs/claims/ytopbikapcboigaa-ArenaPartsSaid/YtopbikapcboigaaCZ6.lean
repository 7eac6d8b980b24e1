/- chapter 11: bump as a contract -/
import Derived.Test.YtopbikapcboigaaCZ5
import Derived.Test.YtopbikapcboigaaLc
import Derived.Test.YtopbikapcboigaaChecked
import Derived.KernelRfl
namespace Go.Lev
set_option linter.unusedSimpArgs false
set_option linter.unusedVariables false
open Go.RowKit
open Go.Proofs.Try (prog)
set_option maxRecDepth 100000
noncomputable section
def bmpS (c P:Int):Int:=xar .add .u64 (xar .add .u64 P 1) (xwr .u64 (szW c))
def bmpL (c P:Int):List LV:=[.int .i64 5,.int .u64 (xar .add .u64 (xar .add .u64 P 1) (xwr .u64 (szW c))),.int .i64 (xwr .i64 P),.int .u64 (liveW c)]
def bmpB (sz:Nat) (kc cs:List LV) (c:Int):Bool:=decide (rdEW sz kc cs 5=0∧14≤rdVW sz kc cs 5∧rdVW sz kc cs 5≤xwr .u64 (Int.ofNat sz)∧bmpS c (rdVW sz kc cs 5)≤xwr .u64 (Int.ofNat sz))
def bmpE (sz:Nat) (most:Int) (kc cs:List LV) (c:Int):Int:=if bmpB sz kc cs c then vtEW sz most cs (bmpL c (rdVW sz kc cs 5)) else if rdEW sz kc cs 5=0 then 4 else rdEW sz kc cs 5
def bmpV (sz:Nat) (most:Int) (kc cs:List LV) (c:Int):Int:=if bmpE sz most kc cs c=0 then xar .add .i64 (xwr .i64 (rdVW sz kc cs 5)) 1 else 0
def bmpN (sz:Nat) (most:Int) (kc cs:List LV) (c:Int) (d:Nat):Nat:=if bmpB sz kc cs c then vtDW sz most cs (bmpL c (rdVW sz kc cs 5)) else d
def bmpC (sz:Nat) (most:Int) (kc cs:List LV) (c:Int):List LV:=if bmpB sz kc cs c then vtCW sz most cs (bmpL c (rdVW sz kc cs 5)) else cs
theorem bmp_c (sz n:Nat) (kc sc:List LV) (c nd most:Int) (d:Nat) (cs:List LV) (k1:okK sz n kc=true) (k2:eqL sc (spW sz kc)=true) (k3:okR most cs d=true):SFun prog 43 [.ptr 0 0,.int .i64 c] (mkS (vwH sz n kc sc nd most d cs)) fun l t=>l=.tup [.int .i64 (bmpV sz most kc cs c),.int .i64 (bmpE sz most kc cs c)]∧t=mkS (vwJ sz n kc sc (rdDW sz kc cs 5 nd) most (bmpN sz most kc cs c d) (bmpC sz most kc cs c)):=by
 refine SFun.mono (SFun.vc (Q:=fun l b=>l=.tup [.int .i64 (bmpV sz most kc cs c),.int .i64 (bmpE sz most kc cs c)]∧b=vwJ sz n kc sc (rdDW sz kc cs 5 nd) most (bmpN sz most kc cs c d) (bmpC sz most kc cs c)) cxa2_ok (n:=60) 6 rfl ?_) fun l s' ⟨b0,⟨h1,h2⟩,h3⟩=>⟨h1,by rw [h3,h2]⟩
 have no:noIds kc=true:=okK_noids k1
 have no2:noIds sc=true:=by rw [eqL_eq k2]; exact spW_noids _ _
 have f1:=isF_self lvF
 rw [bmpx]; simp only [bmpx_b1]
 simp only [k1,k2,k3,f1,cond_true]
 by_cases c1:rdEW sz kc cs 5=0
 ·by_cases c2:14≤rdVW sz kc cs 5∧rdVW sz kc cs 5≤xwr .u64 (Int.ofNat sz)∧bmpS c (rdVW sz kc cs 5)≤xwr .u64 (Int.ofNat sz)
  ·have e0:bmpB sz kc cs c=true:=decide_eq_true ⟨c1,c2⟩
   have eE:bmpE sz most kc cs c=vtEW sz most cs (bmpL c (rdVW sz kc cs 5)):=by rw [bmpE,e0]; rfl
   have eN:bmpN sz most kc cs c d=vtDW sz most cs (bmpL c (rdVW sz kc cs 5)):=by rw [bmpN,e0]; rfl
   have eC:bmpC sz most kc cs c=vtCW sz most cs (bmpL c (rdVW sz kc cs 5)):=by rw [bmpC,e0]; rfl
   have eV:bmpV sz most kc cs c=if vtEW sz most cs (bmpL c (rdVW sz kc cs 5))=0 then xar .add .i64 (xwr .i64 (rdVW sz kc cs 5)) 1 else 0:=by rw [bmpV,eE]
   rw [eE,eN,eC,eV]
   obtain⟨c3,c4,c5⟩:=c2
   rw [bmpS] at c5
   by_cases c6:vtEW sz most cs (bmpL c (rdVW sz kc cs 5))=0
   ·rw [if_pos c6,c6]
    rw [bmpL] at c6 ⊢
    simp only [c6]
    (refine zR ?_)
    exact⟨rfl,_,_,[.id 0,.id 1,.id 2,.id 3,.id 4,.id 5,.id 9],⟨rfl,rfl⟩,by(exact zC)⟩
   ·rw [if_neg c6]
    rw [bmpL] at c6 ⊢
    (refine zR ?_)
    exact⟨rfl,_,_,[.id 0,.id 1,.id 2,.id 3,.id 4,.id 5,.id 9],⟨rfl,rfl⟩,by(exact zC)⟩
  ·have e0:bmpB sz kc cs c=false:=decide_eq_false fun z=>c2 z.2
   have eE:bmpE sz most kc cs c=4:=by rw [bmpE,e0]; exact if_pos c1
   have eN:bmpN sz most kc cs c d=d:=by rw [bmpN,e0]; rfl
   have eC:bmpC sz most kc cs c=cs:=by rw [bmpC,e0]; rfl
   have eV:bmpV sz most kc cs c=0:=by rw [bmpV,eE]; rfl
   rw [eE,eN,eC,eV]
   by_cases c3:rdVW sz kc cs 5 < 14
   ·(refine zR ?_)
    exact⟨rfl,_,_,[.id 0,.id 1,.id 2,.id 3,.id 4,.id 5,.id 6],⟨rfl,rfl⟩,by(exact zC)⟩
   by_cases c4:xwr .u64 (Int.ofNat sz) < rdVW sz kc cs 5
   ·(refine zR ?_)
    exact⟨rfl,_,_,[.id 0,.id 1,.id 2,.id 3,.id 4,.id 5,.id 6],⟨rfl,rfl⟩,by(exact zC)⟩
   have c5:xwr .u64 (Int.ofNat sz) < xar .add .u64 (xar .add .u64 (rdVW sz kc cs 5) 1) (xwr .u64 (szW c)):=by
    refine Int.not_le.1 fun z=>c2 ⟨by omega,by omega,?_⟩
    rw [bmpS]; exact z
   (refine zR ?_)
   exact⟨rfl,_,_,[.id 0,.id 1,.id 2,.id 3,.id 4,.id 5,.id 6],⟨rfl,rfl⟩,by(exact zC)⟩
 ·have e0:bmpB sz kc cs c=false:=decide_eq_false fun z=>c1 z.1
  have eE:bmpE sz most kc cs c=rdEW sz kc cs 5:=by rw [bmpE,e0]; exact if_neg c1
  have eN:bmpN sz most kc cs c d=d:=by rw [bmpN,e0]; rfl
  have eC:bmpC sz most kc cs c=cs:=by rw [bmpC,e0]; rfl
  have eV:bmpV sz most kc cs c=0:=by rw [bmpV,eE]; exact if_neg c1
  rw [eE,eN,eC,eV]
  (refine zR ?_)
  exact⟨rfl,_,_,[.id 0,.id 1,.id 2,.id 3,.id 4,.id 5,.id 6],⟨rfl,rfl⟩,by(exact zC)⟩
end
end Go.Lev
