/- chapter 11: an arena over a view: header, pop, bump as contracts -/
import Derived.Test.YtopbikapcboigaaCZ1
import Derived.Test.YtopbikapcboigaaLc
import Derived.Test.YtopbikapcboigaaChecked
import Derived.KernelRfl
namespace Go.Lev
set_option linter.unusedSimpArgs false
set_option linter.unusedVariables false
open Go.RowKit
open Go.Proofs.Try (prog)
set_option maxRecDepth 100000
noncomputable section
theorem cxa_ok:CtrOk prog (ctrOf cxa):=cxl_ok ⟨rdG_ok,vtkG_ok,vszG_ok,headG_ok,liveG_ok,clsG_ok,sizeG_ok,isclG_ok,islvG_ok,trivial⟩
abbrev ids7a:List Src:=[.id 0,.id 1,.id 2,.id 3,.id 4,.id 5,.id 5]
def hrB (sz:Nat) (a:Int):Bool:=decide (15≤a∧a≤(sz:Int) - 1)
def hrV (sz:Nat) (kc cs:List LV) (a:Int):Int:=if hrB sz a then rdVW sz kc cs (a - 1) else 0
def hrE (sz:Nat) (kc cs:List LV) (a:Int):Int:=if hrB sz a then rdEW sz kc cs (a - 1) else 2
def hrD (sz:Nat) (kc cs:List LV) (a nd:Int):Int:=if hrB sz a then rdDW sz kc cs (a - 1) nd else nd
theorem hdr_c (sz n:Nat) (kc sc:List LV) (a nd most:Int) (d:Nat) (cs:List LV) (k1:okK sz n kc=true) (k2:sc=spW sz kc) (k3:okR most cs d=true):SFun prog 44 [.ptr 0 0,.int .i64 a] (mkS (vwH sz n kc sc nd most d cs)) fun l t=>l=.tup [.int .u64 (hrV sz kc cs a),.int .i64 (hrE sz kc cs a)]∧t=mkS (vwJ sz n kc sc (hrD sz kc cs a nd) most d cs):=by
 refine SFun.mono (SFun.vc (Q:=fun l b=>l=.tup [.int .u64 (hrV sz kc cs a),.int .i64 (hrE sz kc cs a)]∧b=vwJ sz n kc sc (hrD sz kc cs a nd) most d cs) cxa_ok (n:=60) 6 rfl ?_) fun l s' ⟨b0,⟨h1,h2⟩,h3⟩=>⟨h1,by rw [h3,h2]⟩
 have no:noIds kc=true:=okK_noids k1
 have no2:noIds sc=true:=by rw [k2]; exact spW_noids _ _
 have f1:=isF_self lvF
 have q2:eqL sc (spW sz kc)=true:=by simp only [eqL,decide_eq_true_eq]; exact k2
 have hs:sz≤256:=by obtain⟨ks,_,_,h⟩:=okK_iff.1 k1; exact h.s
 have eS:xar .sub .i64 (Int.ofNat sz) 1=(sz:Int) - 1:=by show xar .sub .i64 (sz:Int) 1=_; exact sub_i64 (by omega) (by omega)
 rw [hdr_x]
 simp only [k1,q2,k3,f1,eS,cond_true]
 by_cases c:15≤a∧a≤(sz:Int) - 1
 ·have e0:hrB sz a=true:=decide_eq_true c
  have eA:xar .sub .i64 a 1=a - 1:=sub_i64 (by omega) (by omega)
  rw [hrV,hrE,hrD,e0]
  simp only [eA,if_true]
  (refine zR ?_)
  exact⟨rfl,_,_,[.id 0,.id 1,.id 2,.id 3,.id 4,.id 5,.id 6],⟨rfl,rfl⟩,by(exact zC)⟩
 ·have e0:hrB sz a=false:=decide_eq_false c
  rw [hrV,hrE,hrD,e0]
  simp only [Bool.false_eq_true,if_false]
  by_cases c1:a < 15
  ·(refine zR ?_)
   exact⟨rfl,_,_,ids7a,⟨rfl,rfl⟩,by(exact zC)⟩
  ·(refine zR ?_)
   exact⟨rfl,_,_,ids7a,⟨rfl,rfl⟩,by(exact zC)⟩
def hdrG:Gc:=fun args s=>match args,s.g with
 | [.ptr b 0,.int .i64 a],[]=>(match s.h.get b with
   | some (.cells [.slo q 0 n 0,.slo p 0 sz 0,.int .i64 nd,.ptr l 0] none)=>(match s.h.get q with
     | some (.cells kc (some 2))=>(match s.h.get p with
       | some (.cells sc (some 1))=>(match s.h.get l with
         | some (.cells [.int .i64 most,.slo o 0 d 0] none)=>(match s.h.get o with
           | some (.obj F_o cs e)=>(match s.h.get e with
             | some (.dead)=>cond (nodupB [b,q,p,l,o,e]) (match s.lay [b,q,p,l,o,e] [.cells [.slo q 0 n 0,.slo p 0 sz 0,.int .i64 (hrD sz kc cs a nd),.ptr l 0] none,.cells kc (some 2),.cells sc (some 1),.cells [.int .i64 most,.slo o 0 d 0] none,.obj lvF cs s.n,.dead] [.dead] with
               | some s'=>some ([okK sz n kc,eqL sc (spW sz kc),okR most cs d,isF F_o lvF],.tup [.int .u64 (hrV sz kc cs a),.int .i64 (hrE sz kc cs a)],s')
               | none=>none) none
             | _=>none)
           | _=>none)
         | _=>none)
       | _=>none)
     | _=>none)
   | _=>none)
 | _,_=>none
theorem hdrG_ok:GOk prog 44 hdrG:=by
 intro args s bs l s' hg hb hfr
 unfold hdrG at hg
 split at hg
 ·rename_i b a hgl
  split at hg
  ·rename_i q n p sz nd l hb0
   split at hg
   ·rename_i kc hb1
    split at hg
    ·rename_i sc hb2
     split at hg
     ·rename_i most o d hb3
      split at hg
      ·rename_i F_o cs e hb4
       split at hg
       ·rename_i  hb5
        cases hbc:nodupB [b,q,p,l,o,e] with
        | false=>rw [hbc] at hg; cases hg
        | true =>
          rw [hbc] at hg
          simp only [cond_true] at hg
          split at hg
          ·rename_i s1 hs1
           simp only [Option.some.injEq,Prod.mk.injEq] at hg
           obtain⟨rfl,rfl,rfl⟩:=hg
           simp only [allT_cons] at hb
           obtain⟨k1,k2,k3,k4,_⟩:=hb
           have e_o:=isF_eq k4
           subst e_o
           replace k2:=eqL_eq k2
           have no:noIds kc=true:=okK_noids k1
           have no2:noIds sc=true:=by rw [k2]; exact spW_noids _ _
           refine SFun.lay (bs:=[.cells [.slo 1 0 n 0,.slo 2 0 sz 0,.int .i64 nd,.ptr 3 0] none,.cells kc (some 2),.cells sc (some 1),.cells [.int .i64 most,.slo 4 0 d 0] none,.obj lvF cs 5,.dead]) (args0:=[.ptr 0 0,.int .i64 a]) (bs':=[.cells [.slo 1 0 n 0,.slo 2 0 sz 0,.int .i64 (hrD sz kc cs a nd),.ptr 3 0] none,.cells kc (some 2),.cells sc (some 1),.cells [.int .i64 most,.slo 4 0 d 0] none,.obj lvF cs 6,.dead,.dead]) (v0:=.tup [.int .u64 (hrV sz kc cs a),.int .i64 (hrE sz kc cs a)]) hfr hs1 (nodupB_nd hbc)
            ⟨⟨there hfr hb0,_,hb0,by first | exact lb_same rfl | exact lb_cells (lws_cons (lw_slo rfl) (lws_cons (lw_slo rfl) (lws_cons (lw_int) (lws_cons (lw_ptr rfl) lws_nil)))) (by simp),fun κ hκ=>lb_cells (lws_cons (lw_slo (hκ 1 q rfl)) (lws_cons (lw_slo (hκ 2 p rfl)) (lws_cons (lw_int) (lws_cons (lw_ptr (hκ 3 l rfl)) lws_nil)))) (by simp)⟩,⟨there hfr hb1,_,hb1,lb_same (by(exact zId)),fun κ hκ=>lb_same (by(exact zId))⟩,⟨there hfr hb2,_,hb2,lb_same (by(exact zId)),fun κ hκ=>lb_same (by(exact zId))⟩,⟨there hfr hb3,_,hb3,by first | exact lb_same rfl | exact lb_cells (lws_cons (lw_int) (lws_cons (lw_slo rfl) lws_nil)) (by simp),fun κ hκ=>lb_cells (lws_cons (lw_int) (lws_cons (lw_slo (hκ 4 o rfl)) lws_nil)) (by simp)⟩,⟨there hfr hb4,_,hb4,lb_obj rfl,fun κ hκ=>lb_obj (hκ 5 e rfl)⟩,⟨there hfr hb5,_,hb5,lb_dead,fun κ hκ=>lb_dead⟩,trivial⟩ (by(exact zTl)) ?_
            fun κ h1 h2=>⟨⟨lb_cells (lws_cons (lw_slo (h1 1 q rfl)) (lws_cons (lw_slo (h1 2 p rfl)) (lws_cons (lw_int) (lws_cons (lw_ptr (h1 3 l rfl)) lws_nil)))) (by simp),lb_same (by(exact zId)),lb_same (by(exact zId)),lb_cells (lws_cons (lw_int) (lws_cons (lw_slo (h1 4 o rfl)) lws_nil)) (by simp),lb_obj (h2 0 (by simp)),lb_dead,lb_dead,trivial⟩,lw_noid rfl⟩
           rw [hgl]; exact(hdr_c sz n kc sc a nd most d cs k1 k2 k3)
          ·cases hg
       ·cases hg
      ·cases hg
     ·cases hg
    ·cases hg
   ·cases hg
  ·cases hg
 ·cases hg
end
end Go.Lev
