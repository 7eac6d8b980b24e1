/- chapter 11: pop as a contract -/
import Derived.Test.YtopbikapcboigaaCZ4
import Derived.Test.YtopbikapcboigaaLc
import Derived.Test.YtopbikapcboigaaChecked
import Derived.KernelRfl
namespace Go.Lev
set_option linter.unusedSimpArgs false
set_option linter.unusedVariables false
open Go.RowKit
open Go.Proofs.Try (prog)
set_option maxRecDepth 100000
noncomputable section
theorem cxa2_ok:CtrOk prog (ctrOf cxa2):=cxl_ok ⟨rdG_ok,vtk2G_ok,vszG_ok,headG_ok,liveG_ok,clsG_ok,sizeG_ok,isclG_ok,islvG_ok,hdrG_ok,trivial⟩
def popL (c f v:Int):List LV:=[.int .i64 (heW c),.int .u64 v,.int .i64 (xar .sub .i64 (xwr .i64 f) 1),.int .u64 (liveW c)]
def popB (sz:Nat) (kc cs:List LV) (f:Int):Bool:=decide (f < 2147483648∧rdEW sz kc cs (xwr .i64 f)=0)
def popE (sz:Nat) (most:Int) (kc cs:List LV) (c f:Int):Int:=if popB sz kc cs f then vtEW sz most cs (popL c f (rdVW sz kc cs (xwr .i64 f))) else if f < 2147483648 then rdEW sz kc cs (xwr .i64 f) else 2
def popV (sz:Nat) (most:Int) (kc cs:List LV) (c f:Int):Int:=if popE sz most kc cs c f=0 then xwr .i64 f else 0
def popD (sz:Nat) (kc cs:List LV) (f nd:Int):Int:=if f < 2147483648 then rdDW sz kc cs (xwr .i64 f) nd else nd
def popN (sz:Nat) (most:Int) (kc cs:List LV) (c f:Int) (d:Nat):Nat:=if popB sz kc cs f then vtDW sz most cs (popL c f (rdVW sz kc cs (xwr .i64 f))) else d
def popC (sz:Nat) (most:Int) (kc cs:List LV) (c f:Int):List LV:=if popB sz kc cs f then vtCW sz most cs (popL c f (rdVW sz kc cs (xwr .i64 f))) else cs
theorem pop_c (sz n:Nat) (kc sc:List LV) (c f nd most:Int) (d:Nat) (cs:List LV) (k1:okK sz n kc=true) (k2:eqL sc (spW sz kc)=true) (k3:okR most cs d=true):SFun prog 42 [.ptr 0 0,.int .i64 c,.int .u64 f] (mkS (vwH sz n kc sc nd most d cs)) fun l t=>l=.tup [.int .i64 (popV sz most kc cs c f),.int .i64 (popE sz most kc cs c f)]∧t=mkS (vwJ sz n kc sc (popD sz kc cs f nd) most (popN sz most kc cs c f d) (popC sz most kc cs c f)):=by
 refine SFun.mono (SFun.vc (Q:=fun l b=>l=.tup [.int .i64 (popV sz most kc cs c f),.int .i64 (popE sz most kc cs c f)]∧b=vwJ sz n kc sc (popD sz kc cs f nd) most (popN sz most kc cs c f d) (popC sz most kc cs c f)) cxa2_ok (n:=60) 6 rfl ?_) fun l s' ⟨b0,⟨h1,h2⟩,h3⟩=>⟨h1,by rw [h3,h2]⟩
 have no:noIds kc=true:=okK_noids k1
 have no2:noIds sc=true:=by rw [eqL_eq k2]; exact spW_noids _ _
 have f1:=isF_self lvF
 rw [popx]; simp only [popx_b1]
 simp only [k1,k2,k3,f1,cond_true]
 by_cases c1:f < 2147483648
 ·by_cases c2:rdEW sz kc cs (xwr .i64 f)=0
  ·have e0:popB sz kc cs f=true:=decide_eq_true ⟨c1,c2⟩
   have eE:popE sz most kc cs c f=vtEW sz most cs (popL c f (rdVW sz kc cs (xwr .i64 f))):=by rw [popE,e0]; rfl
   have eD:popD sz kc cs f nd=rdDW sz kc cs (xwr .i64 f) nd:=if_pos c1
   have eN:popN sz most kc cs c f d=vtDW sz most cs (popL c f (rdVW sz kc cs (xwr .i64 f))):=by rw [popN,e0]; rfl
   have eC:popC sz most kc cs c f=vtCW sz most cs (popL c f (rdVW sz kc cs (xwr .i64 f))):=by rw [popC,e0]; rfl
   have eV:popV sz most kc cs c f=if vtEW sz most cs (popL c f (rdVW sz kc cs (xwr .i64 f)))=0 then xwr .i64 f else 0:=by rw [popV,eE]
   rw [eE,eD,eN,eC,eV]
   by_cases c3:vtEW sz most cs (popL c f (rdVW sz kc cs (xwr .i64 f)))=0
   ·rw [if_pos c3,c3]
    rw [popL] at c3 ⊢
    simp only [c3]
    (refine zR ?_)
    exact⟨rfl,_,_,[.id 0,.id 1,.id 2,.id 3,.id 4,.id 5,.id 9],⟨rfl,rfl⟩,by(exact zC)⟩
   ·rw [if_neg c3]
    rw [popL] at c3 ⊢
    (refine zR ?_)
    exact⟨rfl,_,_,[.id 0,.id 1,.id 2,.id 3,.id 4,.id 5,.id 9],⟨rfl,rfl⟩,by(exact zC)⟩
  ·have e0:popB sz kc cs f=false:=decide_eq_false fun z=>c2 z.2
   have eE:popE sz most kc cs c f=rdEW sz kc cs (xwr .i64 f):=by rw [popE,e0]; exact if_pos c1
   have eD:popD sz kc cs f nd=rdDW sz kc cs (xwr .i64 f) nd:=if_pos c1
   have eN:popN sz most kc cs c f d=d:=by rw [popN,e0]; rfl
   have eC:popC sz most kc cs c f=cs:=by rw [popC,e0]; rfl
   have eV:popV sz most kc cs c f=0:=by rw [popV,eE]; exact if_neg c2
   rw [eE,eD,eN,eC,eV]
   (refine zR ?_)
   exact⟨rfl,_,_,[.id 0,.id 1,.id 2,.id 3,.id 4,.id 5,.id 6],⟨rfl,rfl⟩,by(exact zC)⟩
 ·have e0:popB sz kc cs f=false:=decide_eq_false fun z=>c1 z.1
  have eE:popE sz most kc cs c f=2:=by rw [popE,e0]; exact if_neg c1
  have eD:popD sz kc cs f nd=nd:=if_neg c1
  have eN:popN sz most kc cs c f d=d:=by rw [popN,e0]; rfl
  have eC:popC sz most kc cs c f=cs:=by rw [popC,e0]; rfl
  have eV:popV sz most kc cs c f=0:=by rw [popV,eE]; rfl
  rw [eE,eD,eN,eC,eV]
  (refine zR ?_)
  exact⟨rfl,_,_,ids7a,⟨rfl,rfl⟩,by(exact zC)⟩
end
end Go.Lev
