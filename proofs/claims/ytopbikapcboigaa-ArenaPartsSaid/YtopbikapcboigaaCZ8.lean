/- chapter 11: Alloc as a contract -/
import Derived.Test.YtopbikapcboigaaCZ7
import Derived.Test.YtopbikapcboigaaLc
import Derived.Test.YtopbikapcboigaaChecked
import Derived.KernelRfl
namespace Go.Lev
set_option linter.unusedSimpArgs false
set_option linter.unusedVariables false
open Go.RowKit
open Go.Proofs.Try (prog)
set_option maxRecDepth 100000
noncomputable section
theorem cxal_ok:CtrOk prog (ctrOf cxal):=cxl_ok ⟨rdG_ok,headG_ok,clsG_ok,popG_ok,bmpG_ok,trivial⟩
def alM (sz:Nat) (kc cs:List LV) (s:Int):Nat:=if clsW s=0 then 0 else if rdEW sz kc cs (heW (clsW s))=0 then(if rdVW sz kc cs (heW (clsW s))=0 then 3 else 2) else 1
def alE (sz:Nat) (most:Int) (kc cs:List LV) (s:Int):Int:=match alM sz kc cs s with | 0=>3 | 1=>rdEW sz kc cs (heW (clsW s)) | 2=>popE sz most kc cs (clsW s) (rdVW sz kc cs (heW (clsW s))) | _=>bmpE sz most kc cs (clsW s)
def alV (sz:Nat) (most:Int) (kc cs:List LV) (s:Int):Int:=match alM sz kc cs s with | 0=>0 | 1=>0 | 2=>popV sz most kc cs (clsW s) (rdVW sz kc cs (heW (clsW s))) | _=>bmpV sz most kc cs (clsW s)
def alD (sz:Nat) (kc cs:List LV) (s nd:Int):Int:=match alM sz kc cs s with | 0=>nd | 1=>rdDW sz kc cs (heW (clsW s)) nd | 2=>popD sz kc cs (rdVW sz kc cs (heW (clsW s))) (rdDW sz kc cs (heW (clsW s)) nd) | _=>rdDW sz kc cs 5 (rdDW sz kc cs (heW (clsW s)) nd)
def alN (sz:Nat) (most:Int) (kc cs:List LV) (s:Int) (d:Nat):Nat:=match alM sz kc cs s with | 0=>d | 1=>d | 2=>popN sz most kc cs (clsW s) (rdVW sz kc cs (heW (clsW s))) d | _=>bmpN sz most kc cs (clsW s) d
def alC (sz:Nat) (most:Int) (kc cs:List LV) (s:Int):List LV:=match alM sz kc cs s with | 0=>cs | 1=>cs | 2=>popC sz most kc cs (clsW s) (rdVW sz kc cs (heW (clsW s))) | _=>bmpC sz most kc cs (clsW s)
theorem al_c (sz n:Nat) (kc sc:List LV) (s nd most:Int) (d:Nat) (cs:List LV) (k1:okK sz n kc=true) (k2:eqL sc (spW sz kc)=true) (k3:okR most cs d=true):SFun prog 12 [.ptr 0 0,.int .i64 s] (mkS (vwH sz n kc sc nd most d cs)) fun l t=>l=.tup [.int .i64 (alV sz most kc cs s),.int .i64 (alE sz most kc cs s)]∧t=mkS (vwJ sz n kc sc (alD sz kc cs s nd) most (alN sz most kc cs s d) (alC sz most kc cs s)):=by
 refine SFun.mono (SFun.vc (Q:=fun l b=>l=.tup [.int .i64 (alV sz most kc cs s),.int .i64 (alE sz most kc cs s)]∧b=vwJ sz n kc sc (alD sz kc cs s nd) most (alN sz most kc cs s d) (alC sz most kc cs s)) cxal_ok (n:=60) 6 rfl ?_) fun l s' ⟨b0,⟨h1,h2⟩,h3⟩=>⟨h1,by rw [h3,h2]⟩
 have no:noIds kc=true:=okK_noids k1
 have no2:noIds sc=true:=by rw [eqL_eq k2]; exact spW_noids _ _
 have f1:=isF_self lvF
 rw [alx]
 simp only [k1,k2,k3,f1,cond_true]
 rw [alE,alV,alD,alN,alC]
 by_cases c0:clsW s=0
 ·have eM:alM sz kc cs s=0:=if_pos c0
  rw [eM]; try dsimp only
  (refine zR ?_)
  exact⟨rfl,_,_,ids7a,⟨rfl,rfl⟩,by(exact zC)⟩
 by_cases c1:rdEW sz kc cs (heW (clsW s))=0
 ·by_cases c2:rdVW sz kc cs (heW (clsW s))=0
  ·have eM:alM sz kc cs s=3:=by rw [alM,if_neg c0,if_pos c1,if_pos c2]
   rw [eM]; try dsimp only
   (refine zR ?_)
   exact⟨rfl,_,_,[.id 0,.id 1,.id 2,.id 3,.id 4,.id 5,.id 7],⟨rfl,rfl⟩,by(exact zC)⟩
  ·have eM:alM sz kc cs s=2:=by rw [alM,if_neg c0,if_pos c1,if_neg c2]
   rw [eM]; try dsimp only
   (refine zR ?_)
   exact⟨rfl,_,_,[.id 0,.id 1,.id 2,.id 3,.id 4,.id 5,.id 7],⟨rfl,rfl⟩,by(exact zC)⟩
 ·have eM:alM sz kc cs s=1:=by rw [alM,if_neg c0,if_neg c1]
  rw [eM]; try dsimp only
  (refine zR ?_)
  exact⟨rfl,_,_,[.id 0,.id 1,.id 2,.id 3,.id 4,.id 5,.id 6],⟨rfl,rfl⟩,by(exact zC)⟩
def alG:Gc:=fun args s=>match args,s.g with
 | [.ptr b 0,.int .i64 w],[]=>(match s.h.get b with
   | some (.cells [.slo q 0 n 0,.slo p 0 sz 0,.int .i64 nd,.ptr l 0] none)=>(match s.h.get q with
     | some (.cells kc (some 2))=>(match s.h.get p with
       | some (.cells sc (some 1))=>(match s.h.get l with
         | some (.cells [.int .i64 most,.slo o 0 d 0] none)=>(match s.h.get o with
           | some (.obj F_o cs e)=>(match s.h.get e with
             | some (.dead)=>cond (nodupB [b,q,p,l,o,e]) (match s.lay [b,q,p,l,o,e] [.cells [.slo q 0 n 0,.slo p 0 sz 0,.int .i64 (alD sz kc cs w nd),.ptr l 0] none,.cells kc (some 2),.cells sc (some 1),.cells [.int .i64 most,.slo o 0 (alN sz most kc cs w d) 0] none,.obj lvF (alC sz most kc cs w) s.n,.dead] [.dead] with
               | some s'=>some ([okK sz n kc,eqL sc (spW sz kc),okR most cs d,isF F_o lvF],.tup [.int .i64 (alV sz most kc cs w),.int .i64 (alE sz most kc cs w)],s')
               | none=>none) none
             | _=>none)
           | _=>none)
         | _=>none)
       | _=>none)
     | _=>none)
   | _=>none)
 | _,_=>none
theorem alG_ok:GOk prog 12 alG:=by
 intro args s bs l s' hg hb hfr
 unfold alG at hg
 split at hg
 ·rename_i b w hgl
  split at hg
  ·rename_i q n p sz nd l hb0
   split at hg
   ·rename_i kc hb1
    split at hg
    ·rename_i sc hb2
     split at hg
     ·rename_i most o d hb3
      split at hg
      ·rename_i F_o cs e hb4
       split at hg
       ·rename_i  hb5
        cases hbc:nodupB [b,q,p,l,o,e] with
        | false=>rw [hbc] at hg; cases hg
        | true =>
          rw [hbc] at hg
          simp only [cond_true] at hg
          split at hg
          ·rename_i s1 hs1
           simp only [Option.some.injEq,Prod.mk.injEq] at hg
           obtain⟨rfl,rfl,rfl⟩:=hg
           simp only [allT_cons] at hb
           obtain⟨k1,k2,k3,k4,_⟩:=hb
           have e_o:=isF_eq k4
           subst e_o
           have no:noIds kc=true:=okK_noids k1
           have no2:noIds sc=true:=by rw [eqL_eq k2]; exact spW_noids _ _
           refine SFun.lay (bs:=[.cells [.slo 1 0 n 0,.slo 2 0 sz 0,.int .i64 nd,.ptr 3 0] none,.cells kc (some 2),.cells sc (some 1),.cells [.int .i64 most,.slo 4 0 d 0] none,.obj lvF cs 5,.dead]) (args0:=[.ptr 0 0,.int .i64 w]) (bs':=[.cells [.slo 1 0 n 0,.slo 2 0 sz 0,.int .i64 (alD sz kc cs w nd),.ptr 3 0] none,.cells kc (some 2),.cells sc (some 1),.cells [.int .i64 most,.slo 4 0 (alN sz most kc cs w d) 0] none,.obj lvF (alC sz most kc cs w) 6,.dead,.dead]) (v0:=.tup [.int .i64 (alV sz most kc cs w),.int .i64 (alE sz most kc cs w)]) hfr hs1 (nodupB_nd hbc)
            ⟨⟨there hfr hb0,_,hb0,by first | exact lb_same rfl | exact lb_cells (lws_cons (lw_slo rfl) (lws_cons (lw_slo rfl) (lws_cons (lw_int) (lws_cons (lw_ptr rfl) lws_nil)))) (by simp),fun κ hκ=>lb_cells (lws_cons (lw_slo (hκ 1 q rfl)) (lws_cons (lw_slo (hκ 2 p rfl)) (lws_cons (lw_int) (lws_cons (lw_ptr (hκ 3 l rfl)) lws_nil)))) (by simp)⟩,⟨there hfr hb1,_,hb1,lb_same (by(exact zId)),fun κ hκ=>lb_same (by(exact zId))⟩,⟨there hfr hb2,_,hb2,lb_same (by(exact zId)),fun κ hκ=>lb_same (by(exact zId))⟩,⟨there hfr hb3,_,hb3,by first | exact lb_same rfl | exact lb_cells (lws_cons (lw_int) (lws_cons (lw_slo rfl) lws_nil)) (by simp),fun κ hκ=>lb_cells (lws_cons (lw_int) (lws_cons (lw_slo (hκ 4 o rfl)) lws_nil)) (by simp)⟩,⟨there hfr hb4,_,hb4,lb_obj rfl,fun κ hκ=>lb_obj (hκ 5 e rfl)⟩,⟨there hfr hb5,_,hb5,lb_dead,fun κ hκ=>lb_dead⟩,trivial⟩ (by(exact zTl)) ?_
            fun κ h1 h2=>⟨⟨lb_cells (lws_cons (lw_slo (h1 1 q rfl)) (lws_cons (lw_slo (h1 2 p rfl)) (lws_cons (lw_int) (lws_cons (lw_ptr (h1 3 l rfl)) lws_nil)))) (by simp),lb_same (by(exact zId)),lb_same (by(exact zId)),lb_cells (lws_cons (lw_int) (lws_cons (lw_slo (h1 4 o rfl)) lws_nil)) (by simp),lb_obj (h2 0 (by simp)),lb_dead,lb_dead,trivial⟩,lw_noid rfl⟩
           rw [hgl]; exact(al_c sz n kc sc w nd most d cs k1 k2 k3)
          ·cases hg
       ·cases hg
      ·cases hg
     ·cases hg
    ·cases hg
   ·cases hg
  ·cases hg
 ·cases hg
end
end Go.Lev
