/- chapter 11: Free and Give as contracts -/
import Derived.Test.YtopbikapcboigaaCZ9
import Derived.Test.YtopbikapcboigaaLc
import Derived.Test.YtopbikapcboigaaChecked
import Derived.KernelRfl
namespace Go.Lev
set_option linter.unusedSimpArgs false
set_option linter.unusedVariables false
open Go.RowKit
open Go.Proofs.Try (prog)
set_option maxRecDepth 100000
noncomputable section
theorem cxfr_ok:CtrOk prog (ctrOf cxfr):=cxl_ok ⟨vtk1G_ok,lfreeG_ok,islvG_ok,hdrG_ok,trivial⟩
theorem cxgv_ok:CtrOk prog (ctrOf cxgv):=cxl_ok ⟨rdG_ok,vtk2G_ok,headG_ok,isclG_ok,hdrG_ok,trivial⟩
def fbL (sz:Nat) (kc cs:List LV) (a:Int):List LV:=[.int .i64 (xar .sub .i64 a 1),.int .u64 (xar .sub .u64 (hrV sz kc cs a) 8)]
def fbM (sz:Nat) (most:Int) (kc cs:List LV) (a:Int):Nat:=if hrE sz kc cs a=0 then(if ilW (hrV sz kc cs a) then(if vtEW sz most cs (fbL sz kc cs a)=0 then 4 else 3) else 2) else 1
def fbE (sz:Nat) (most:Int) (kc cs:List LV) (a:Int):Int:=match fbM sz most kc cs a with | 1=>hrE sz kc cs a | 2=>2 | 3=>vtEW sz most cs (fbL sz kc cs a) | _=>0
def fbN (sz:Nat) (most:Int) (kc cs:List LV) (a:Int) (d:Nat):Nat:=match fbM sz most kc cs a with | 1=>d | 2=>d | 3=>vtDW sz most cs (fbL sz kc cs a) | _=>lfD (vtCW sz most cs (fbL sz kc cs a)) a
def fbC (sz:Nat) (most:Int) (kc cs:List LV) (a:Int):List LV:=match fbM sz most kc cs a with | 1=>cs | 2=>cs | 3=>vtCW sz most cs (fbL sz kc cs a) | _=>lfC (vtCW sz most cs (fbL sz kc cs a)) a
def fbF (sz:Nat) (most:Int) (kc cs:List LV) (a:Int):Bool:=if fbM sz most kc cs a=4 then okF (vtCW sz most cs (fbL sz kc cs a)) && okR most (vtCW sz most cs (fbL sz kc cs a)) (vtDW sz most cs (fbL sz kc cs a)) else true
def gvL (sz:Nat) (kc cs:List LV) (a:Int):List LV:=[.int .i64 a,.int .u64 (rdVW sz kc cs (heW (xwr .i64 (hrV sz kc cs a)))),.int .i64 (heW (xwr .i64 (hrV sz kc cs a))),.int .u64 (xwr .u64 a)]
def gvM (sz:Nat) (kc cs:List LV) (a:Int):Nat:=if hrE sz kc cs a=0 then(if icW (hrV sz kc cs a) then(if rdEW sz kc cs (heW (xwr .i64 (hrV sz kc cs a)))=0 then 4 else 3) else 2) else 1
def gvE (sz:Nat) (most:Int) (kc cs:List LV) (a:Int):Int:=match gvM sz kc cs a with | 1=>hrE sz kc cs a | 2=>2 | 3=>rdEW sz kc cs (heW (xwr .i64 (hrV sz kc cs a))) | _=>vtEW sz most cs (gvL sz kc cs a)
def gvD (sz:Nat) (kc cs:List LV) (a nd:Int):Int:=match gvM sz kc cs a with | 1=>hrD sz kc cs a nd | 2=>hrD sz kc cs a nd | _=>rdDW sz kc cs (heW (xwr .i64 (hrV sz kc cs a))) (hrD sz kc cs a nd)
def gvN (sz:Nat) (most:Int) (kc cs:List LV) (a:Int) (d:Nat):Nat:=match gvM sz kc cs a with | 4=>vtDW sz most cs (gvL sz kc cs a) | _=>d
def gvC (sz:Nat) (most:Int) (kc cs:List LV) (a:Int):List LV:=match gvM sz kc cs a with | 4=>vtCW sz most cs (gvL sz kc cs a) | _=>cs
theorem fr_c (sz n:Nat) (kc sc:List LV) (a nd most:Int) (d:Nat) (cs:List LV) (k1:okK sz n kc=true) (k2:eqL sc (spW sz kc)=true) (k3:okR most cs d=true) (k4:fbF sz most kc cs a=true):SFun prog 13 [.ptr 0 0,.int .i64 a] (mkS (vwH sz n kc sc nd most d cs)) fun l t=>l=.int .i64 (fbE sz most kc cs a)∧t=mkS (vwJ sz n kc sc (hrD sz kc cs a nd) most (fbN sz most kc cs a d) (fbC sz most kc cs a)):=by
 refine SFun.mono (SFun.vc (Q:=fun l b=>l=.int .i64 (fbE sz most kc cs a)∧b=vwJ sz n kc sc (hrD sz kc cs a nd) most (fbN sz most kc cs a d) (fbC sz most kc cs a)) cxfr_ok (n:=60) 6 rfl ?_) fun l s' ⟨b0,⟨h1,h2⟩,h3⟩=>⟨h1,by rw [h3,h2]⟩
 have no:noIds kc=true:=okK_noids k1
 have no2:noIds sc=true:=by rw [eqL_eq k2]; exact spW_noids _ _
 have f1:=isF_self lvF
 rw [frx]
 simp only [k1,k2,k3,f1,cond_true]
 rw [fbF] at k4
 rw [fbE,fbN,fbC]
 by_cases c1:hrE sz kc cs a=0
 ·cases c2:ilW (hrV sz kc cs a) with
  | true =>
    by_cases c3:vtEW sz most cs (fbL sz kc cs a)=0
    ·have eM:fbM sz most kc cs a=4:=by rw [fbM,if_pos c1,c2,if_pos rfl,if_pos c3]
     rw [eM] at k4
     simp only [if_true,Bool.and_eq_true] at k4
     obtain⟨k5,k6⟩:=k4
     rw [eM]; try dsimp only
     rw [fbL] at c3 k5 k6 ⊢
     simp only [k5,k6,c3,c2,cond_true]
     (refine zR ?_)
     exact⟨rfl,_,_,[.id 0,.id 1,.id 2,.id 3,.id 4,.id 5,.id 10],⟨rfl,rfl⟩,by(exact zC)⟩
    ·have eM:fbM sz most kc cs a=3:=by rw [fbM,if_pos c1,c2,if_pos rfl,if_neg c3]
     rw [eM]; try dsimp only
     rw [fbL] at c3 ⊢
     simp only [c2,cond_true]
     (refine zR ?_)
     exact⟨rfl,_,_,[.id 0,.id 1,.id 2,.id 3,.id 4,.id 5,.id 9],⟨rfl,rfl⟩,by(exact zC)⟩
  | false =>
    have eM:fbM sz most kc cs a=2:=by rw [fbM,if_pos c1,c2]; rfl
    rw [eM]; try dsimp only
    simp only [c2]
    (refine zR ?_)
    exact⟨rfl,_,_,[.id 0,.id 1,.id 2,.id 3,.id 4,.id 5,.id 6],⟨rfl,rfl⟩,by(exact zC)⟩
 ·have eM:fbM sz most kc cs a=1:=if_neg c1
  rw [eM]; try dsimp only
  (refine zR ?_)
  exact⟨rfl,_,_,[.id 0,.id 1,.id 2,.id 3,.id 4,.id 5,.id 6],⟨rfl,rfl⟩,by(exact zC)⟩
theorem gv_c (sz n:Nat) (kc sc:List LV) (a nd most:Int) (d:Nat) (cs:List LV) (k1:okK sz n kc=true) (k2:eqL sc (spW sz kc)=true) (k3:okR most cs d=true):SFun prog 14 [.ptr 0 0,.int .i64 a] (mkS (vwH sz n kc sc nd most d cs)) fun l t=>l=.int .i64 (gvE sz most kc cs a)∧t=mkS (vwJ sz n kc sc (gvD sz kc cs a nd) most (gvN sz most kc cs a d) (gvC sz most kc cs a)):=by
 refine SFun.mono (SFun.vc (Q:=fun l b=>l=.int .i64 (gvE sz most kc cs a)∧b=vwJ sz n kc sc (gvD sz kc cs a nd) most (gvN sz most kc cs a d) (gvC sz most kc cs a)) cxgv_ok (n:=60) 6 rfl ?_) fun l s' ⟨b0,⟨h1,h2⟩,h3⟩=>⟨h1,by rw [h3,h2]⟩
 have no:noIds kc=true:=okK_noids k1
 have no2:noIds sc=true:=by rw [eqL_eq k2]; exact spW_noids _ _
 have f1:=isF_self lvF
 rw [gvx]
 simp only [k1,k2,k3,f1,cond_true]
 rw [gvE,gvN,gvC,gvD]
 by_cases c1:hrE sz kc cs a=0
 ·cases c2:icW (hrV sz kc cs a) with
  | true =>
    by_cases c3:rdEW sz kc cs (heW (xwr .i64 (hrV sz kc cs a)))=0
    ·have eM:gvM sz kc cs a=4:=by rw [gvM,if_pos c1,c2,if_pos rfl,if_pos c3]
     rw [eM]; try dsimp only
     rw [gvL]
     simp only [c2,cond_true]
     (refine zR ?_)
     exact⟨rfl,_,_,[.id 0,.id 1,.id 2,.id 3,.id 4,.id 5,.id 10],⟨rfl,rfl⟩,by(exact zC)⟩
    ·have eM:gvM sz kc cs a=3:=by rw [gvM,if_pos c1,c2,if_pos rfl,if_neg c3]
     rw [eM]; try dsimp only
     simp only [c2,cond_true]
     (refine zR ?_)
     exact⟨rfl,_,_,[.id 0,.id 1,.id 2,.id 3,.id 4,.id 5,.id 7],⟨rfl,rfl⟩,by(exact zC)⟩
  | false =>
    have eM:gvM sz kc cs a=2:=by rw [gvM,if_pos c1,c2]; rfl
    rw [eM]; try dsimp only
    simp only [c2]
    (refine zR ?_)
    exact⟨rfl,_,_,[.id 0,.id 1,.id 2,.id 3,.id 4,.id 5,.id 6],⟨rfl,rfl⟩,by(exact zC)⟩
 ·have eM:gvM sz kc cs a=1:=if_neg c1
  rw [eM]; try dsimp only
  (refine zR ?_)
  exact⟨rfl,_,_,[.id 0,.id 1,.id 2,.id 3,.id 4,.id 5,.id 6],⟨rfl,rfl⟩,by(exact zC)⟩
def frG:Gc:=fun args s=>match args,s.g with
 | [.ptr b 0,.int .i64 a],[]=>(match s.h.get b with
   | some (.cells [.slo q 0 n 0,.slo p 0 sz 0,.int .i64 nd,.ptr l 0] none)=>(match s.h.get q with
     | some (.cells kc (some 2))=>(match s.h.get p with
       | some (.cells sc (some 1))=>(match s.h.get l with
         | some (.cells [.int .i64 most,.slo o 0 d 0] none)=>(match s.h.get o with
           | some (.obj F_o cs e)=>(match s.h.get e with
             | some (.dead)=>cond (nodupB [b,q,p,l,o,e]) (match s.lay [b,q,p,l,o,e] [.cells [.slo q 0 n 0,.slo p 0 sz 0,.int .i64 (hrD sz kc cs a nd),.ptr l 0] none,.cells kc (some 2),.cells sc (some 1),.cells [.int .i64 most,.slo o 0 (fbN sz most kc cs a d) 0] none,.obj lvF (fbC sz most kc cs a) s.n,.dead] [.dead] with
               | some s'=>some ([okK sz n kc,eqL sc (spW sz kc),okR most cs d,fbF sz most kc cs a,isF F_o lvF],.int .i64 (fbE sz most kc cs a),s')
               | none=>none) none
             | _=>none)
           | _=>none)
         | _=>none)
       | _=>none)
     | _=>none)
   | _=>none)
 | _,_=>none
theorem frG_ok:GOk prog 13 frG:=by
 intro args s bs l s' hg hb hfr
 unfold frG at hg
 split at hg
 ·rename_i b a hgl
  split at hg
  ·rename_i q n p sz nd l hb0
   split at hg
   ·rename_i kc hb1
    split at hg
    ·rename_i sc hb2
     split at hg
     ·rename_i most o d hb3
      split at hg
      ·rename_i F_o cs e hb4
       split at hg
       ·rename_i  hb5
        cases hbc:nodupB [b,q,p,l,o,e] with
        | false=>rw [hbc] at hg; cases hg
        | true =>
          rw [hbc] at hg
          simp only [cond_true] at hg
          split at hg
          ·rename_i s1 hs1
           simp only [Option.some.injEq,Prod.mk.injEq] at hg
           obtain⟨rfl,rfl,rfl⟩:=hg
           simp only [allT_cons] at hb
           obtain⟨k1,k2,k3,k4,k5,_⟩:=hb
           have e_o:=isF_eq k5
           subst e_o
           have no:noIds kc=true:=okK_noids k1
           have no2:noIds sc=true:=by rw [eqL_eq k2]; exact spW_noids _ _
           refine SFun.lay (bs:=[.cells [.slo 1 0 n 0,.slo 2 0 sz 0,.int .i64 nd,.ptr 3 0] none,.cells kc (some 2),.cells sc (some 1),.cells [.int .i64 most,.slo 4 0 d 0] none,.obj lvF cs 5,.dead]) (args0:=[.ptr 0 0,.int .i64 a]) (bs':=[.cells [.slo 1 0 n 0,.slo 2 0 sz 0,.int .i64 (hrD sz kc cs a nd),.ptr 3 0] none,.cells kc (some 2),.cells sc (some 1),.cells [.int .i64 most,.slo 4 0 (fbN sz most kc cs a d) 0] none,.obj lvF (fbC sz most kc cs a) 6,.dead,.dead]) (v0:=.int .i64 (fbE sz most kc cs a)) hfr hs1 (nodupB_nd hbc)
            ⟨⟨there hfr hb0,_,hb0,by first | exact lb_same rfl | exact lb_cells (lws_cons (lw_slo rfl) (lws_cons (lw_slo rfl) (lws_cons (lw_int) (lws_cons (lw_ptr rfl) lws_nil)))) (by simp),fun κ hκ=>lb_cells (lws_cons (lw_slo (hκ 1 q rfl)) (lws_cons (lw_slo (hκ 2 p rfl)) (lws_cons (lw_int) (lws_cons (lw_ptr (hκ 3 l rfl)) lws_nil)))) (by simp)⟩,⟨there hfr hb1,_,hb1,lb_same (by(exact zId)),fun κ hκ=>lb_same (by(exact zId))⟩,⟨there hfr hb2,_,hb2,lb_same (by(exact zId)),fun κ hκ=>lb_same (by(exact zId))⟩,⟨there hfr hb3,_,hb3,by first | exact lb_same rfl | exact lb_cells (lws_cons (lw_int) (lws_cons (lw_slo rfl) lws_nil)) (by simp),fun κ hκ=>lb_cells (lws_cons (lw_int) (lws_cons (lw_slo (hκ 4 o rfl)) lws_nil)) (by simp)⟩,⟨there hfr hb4,_,hb4,lb_obj rfl,fun κ hκ=>lb_obj (hκ 5 e rfl)⟩,⟨there hfr hb5,_,hb5,lb_dead,fun κ hκ=>lb_dead⟩,trivial⟩ (by(exact zTl)) ?_
            fun κ h1 h2=>⟨⟨lb_cells (lws_cons (lw_slo (h1 1 q rfl)) (lws_cons (lw_slo (h1 2 p rfl)) (lws_cons (lw_int) (lws_cons (lw_ptr (h1 3 l rfl)) lws_nil)))) (by simp),lb_same (by(exact zId)),lb_same (by(exact zId)),lb_cells (lws_cons (lw_int) (lws_cons (lw_slo (h1 4 o rfl)) lws_nil)) (by simp),lb_obj (h2 0 (by simp)),lb_dead,lb_dead,trivial⟩,lw_int⟩
           rw [hgl]; exact(fr_c sz n kc sc a nd most d cs k1 k2 k3 k4)
          ·cases hg
       ·cases hg
      ·cases hg
     ·cases hg
    ·cases hg
   ·cases hg
  ·cases hg
 ·cases hg
def gvG:Gc:=fun args s=>match args,s.g with
 | [.ptr b 0,.int .i64 a],[]=>(match s.h.get b with
   | some (.cells [.slo q 0 n 0,.slo p 0 sz 0,.int .i64 nd,.ptr l 0] none)=>(match s.h.get q with
     | some (.cells kc (some 2))=>(match s.h.get p with
       | some (.cells sc (some 1))=>(match s.h.get l with
         | some (.cells [.int .i64 most,.slo o 0 d 0] none)=>(match s.h.get o with
           | some (.obj F_o cs e)=>(match s.h.get e with
             | some (.dead)=>cond (nodupB [b,q,p,l,o,e]) (match s.lay [b,q,p,l,o,e] [.cells [.slo q 0 n 0,.slo p 0 sz 0,.int .i64 (gvD sz kc cs a nd),.ptr l 0] none,.cells kc (some 2),.cells sc (some 1),.cells [.int .i64 most,.slo o 0 (gvN sz most kc cs a d) 0] none,.obj lvF (gvC sz most kc cs a) s.n,.dead] [.dead] with
               | some s'=>some ([okK sz n kc,eqL sc (spW sz kc),okR most cs d,isF F_o lvF],.int .i64 (gvE sz most kc cs a),s')
               | none=>none) none
             | _=>none)
           | _=>none)
         | _=>none)
       | _=>none)
     | _=>none)
   | _=>none)
 | _,_=>none
theorem gvG_ok:GOk prog 14 gvG:=by
 intro args s bs l s' hg hb hfr
 unfold gvG at hg
 split at hg
 ·rename_i b a hgl
  split at hg
  ·rename_i q n p sz nd l hb0
   split at hg
   ·rename_i kc hb1
    split at hg
    ·rename_i sc hb2
     split at hg
     ·rename_i most o d hb3
      split at hg
      ·rename_i F_o cs e hb4
       split at hg
       ·rename_i  hb5
        cases hbc:nodupB [b,q,p,l,o,e] with
        | false=>rw [hbc] at hg; cases hg
        | true =>
          rw [hbc] at hg
          simp only [cond_true] at hg
          split at hg
          ·rename_i s1 hs1
           simp only [Option.some.injEq,Prod.mk.injEq] at hg
           obtain⟨rfl,rfl,rfl⟩:=hg
           simp only [allT_cons] at hb
           obtain⟨k1,k2,k3,k4,_⟩:=hb
           have e_o:=isF_eq k4
           subst e_o
           have no:noIds kc=true:=okK_noids k1
           have no2:noIds sc=true:=by rw [eqL_eq k2]; exact spW_noids _ _
           refine SFun.lay (bs:=[.cells [.slo 1 0 n 0,.slo 2 0 sz 0,.int .i64 nd,.ptr 3 0] none,.cells kc (some 2),.cells sc (some 1),.cells [.int .i64 most,.slo 4 0 d 0] none,.obj lvF cs 5,.dead]) (args0:=[.ptr 0 0,.int .i64 a]) (bs':=[.cells [.slo 1 0 n 0,.slo 2 0 sz 0,.int .i64 (gvD sz kc cs a nd),.ptr 3 0] none,.cells kc (some 2),.cells sc (some 1),.cells [.int .i64 most,.slo 4 0 (gvN sz most kc cs a d) 0] none,.obj lvF (gvC sz most kc cs a) 6,.dead,.dead]) (v0:=.int .i64 (gvE sz most kc cs a)) hfr hs1 (nodupB_nd hbc)
            ⟨⟨there hfr hb0,_,hb0,by first | exact lb_same rfl | exact lb_cells (lws_cons (lw_slo rfl) (lws_cons (lw_slo rfl) (lws_cons (lw_int) (lws_cons (lw_ptr rfl) lws_nil)))) (by simp),fun κ hκ=>lb_cells (lws_cons (lw_slo (hκ 1 q rfl)) (lws_cons (lw_slo (hκ 2 p rfl)) (lws_cons (lw_int) (lws_cons (lw_ptr (hκ 3 l rfl)) lws_nil)))) (by simp)⟩,⟨there hfr hb1,_,hb1,lb_same (by(exact zId)),fun κ hκ=>lb_same (by(exact zId))⟩,⟨there hfr hb2,_,hb2,lb_same (by(exact zId)),fun κ hκ=>lb_same (by(exact zId))⟩,⟨there hfr hb3,_,hb3,by first | exact lb_same rfl | exact lb_cells (lws_cons (lw_int) (lws_cons (lw_slo rfl) lws_nil)) (by simp),fun κ hκ=>lb_cells (lws_cons (lw_int) (lws_cons (lw_slo (hκ 4 o rfl)) lws_nil)) (by simp)⟩,⟨there hfr hb4,_,hb4,lb_obj rfl,fun κ hκ=>lb_obj (hκ 5 e rfl)⟩,⟨there hfr hb5,_,hb5,lb_dead,fun κ hκ=>lb_dead⟩,trivial⟩ (by(exact zTl)) ?_
            fun κ h1 h2=>⟨⟨lb_cells (lws_cons (lw_slo (h1 1 q rfl)) (lws_cons (lw_slo (h1 2 p rfl)) (lws_cons (lw_int) (lws_cons (lw_ptr (h1 3 l rfl)) lws_nil)))) (by simp),lb_same (by(exact zId)),lb_same (by(exact zId)),lb_cells (lws_cons (lw_int) (lws_cons (lw_slo (h1 4 o rfl)) lws_nil)) (by simp),lb_obj (h2 0 (by simp)),lb_dead,lb_dead,trivial⟩,lw_int⟩
           rw [hgl]; exact(gv_c sz n kc sc a nd most d cs k1 k2 k3)
          ·cases hg
       ·cases hg
      ·cases hg
     ·cases hg
    ·cases hg
   ·cases hg
  ·cases hg
 ·cases hg
end
end Go.Lev
