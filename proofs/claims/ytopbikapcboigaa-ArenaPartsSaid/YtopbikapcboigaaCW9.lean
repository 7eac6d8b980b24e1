/- chapter 9: the code's levels: Open, Drop, Keep: lists and trees -/
import Derived.Test.YtopbikapcboigaaCW8
import Derived.Test.YtopbikapcboigaaLc
import Derived.Test.YtopbikapcboigaaChecked
import Derived.KernelRfl
namespace Go.Lev
set_option linter.unusedSimpArgs false
set_option linter.unusedVariables false
open Go.RowKit
open Go.Proofs.Try (prog)
set_option maxRecDepth 100000
noncomputable section
theorem wTk_pls {m:Int}:∀ (l xs:CL),inK l→(xs.length:Int)+l.length≤m→wTk m xs l=(0,pls xs l)
 | [],xs,_,_=>rfl
 | c::l,xs,h,hn=>by
   have h1:=h c (by simp)
   simp only [List.length_cons] at hn
   have h2:wPe m xs c.1=0:=by
    rw [wPe,if_neg (by omega)]
    split
    ·rfl
    ·rw [if_neg (by omega)]
   have h3:=pl_len xs c
   rw [wTk,if_pos h2]
   exact wTk_pls l (pl xs c) (fun b hb=>h b (by simp [hb])) (by omega)
theorem wTc_pls {m:Int} {l xs:CL} (h:inK l) (hn:(xs.length:Int)+l.length≤m):wTc m xs l=pls xs l:=by rw [wTc,wTk_pls l xs h hn]; rfl
theorem inK_pls:∀ (l:CL) {xs:CL},inK xs→inK l→inK (pls xs l)
 | [],xs,h,_=>h
 | c::l,xs,h,k=>by
   refine inK_pls l (xs:=pl xs c) (fun b hb=>?_) fun b hb=>k b (by simp [hb])
   rcases key_pl.1 (⟨b,hb,rfl⟩:keyIn b.1 (pl xs c)) with q | q
   ·exact inK_key h q
   ·rw [← q]; exact k c (by simp)
def cxl4:Cx:=cxl [(86,wnewG),(87,wtakeG),(95,cloneG 2)]
end
end Go.Lev
