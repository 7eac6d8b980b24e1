/- chapter 11: pop and bump as contracts; the tree of Alloc -/
import Derived.Test.YtopbikapcboigaaCZ6
import Derived.Test.YtopbikapcboigaaLc
import Derived.Test.YtopbikapcboigaaChecked
import Derived.KernelRfl
namespace Go.Lev
set_option linter.unusedSimpArgs false
set_option linter.unusedVariables false
open Go.RowKit
open Go.Proofs.Try (prog)
set_option maxRecDepth 100000
noncomputable section
def popG:Gc:=fun args s=>match args,s.g with
 | [.ptr b 0,.int .i64 c,.int .u64 f],[]=>(match s.h.get b with
   | some (.cells [.slo q 0 n 0,.slo p 0 sz 0,.int .i64 nd,.ptr l 0] none)=>(match s.h.get q with
     | some (.cells kc (some 2))=>(match s.h.get p with
       | some (.cells sc (some 1))=>(match s.h.get l with
         | some (.cells [.int .i64 most,.slo o 0 d 0] none)=>(match s.h.get o with
           | some (.obj F_o cs e)=>(match s.h.get e with
             | some (.dead)=>cond (nodupB [b,q,p,l,o,e]) (match s.lay [b,q,p,l,o,e] [.cells [.slo q 0 n 0,.slo p 0 sz 0,.int .i64 (popD sz kc cs f nd),.ptr l 0] none,.cells kc (some 2),.cells sc (some 1),.cells [.int .i64 most,.slo o 0 (popN sz most kc cs c f d) 0] none,.obj lvF (popC sz most kc cs c f) s.n,.dead] [.dead] with
               | some s'=>some ([okK sz n kc,eqL sc (spW sz kc),okR most cs d,isF F_o lvF],.tup [.int .i64 (popV sz most kc cs c f),.int .i64 (popE sz most kc cs c f)],s')
               | none=>none) none
             | _=>none)
           | _=>none)
         | _=>none)
       | _=>none)
     | _=>none)
   | _=>none)
 | _,_=>none
theorem popG_ok:GOk prog 42 popG:=by
 intro args s bs l s' hg hb hfr
 unfold popG at hg
 split at hg
 ·rename_i b c f hgl
  split at hg
  ·rename_i q n p sz nd l hb0
   split at hg
   ·rename_i kc hb1
    split at hg
    ·rename_i sc hb2
     split at hg
     ·rename_i most o d hb3
      split at hg
      ·rename_i F_o cs e hb4
       split at hg
       ·rename_i  hb5
        cases hbc:nodupB [b,q,p,l,o,e] with
        | false=>rw [hbc] at hg; cases hg
        | true =>
          rw [hbc] at hg
          simp only [cond_true] at hg
          split at hg
          ·rename_i s1 hs1
           simp only [Option.some.injEq,Prod.mk.injEq] at hg
           obtain⟨rfl,rfl,rfl⟩:=hg
           simp only [allT_cons] at hb
           obtain⟨k1,k2,k3,k4,_⟩:=hb
           have e_o:=isF_eq k4
           subst e_o
           have no:noIds kc=true:=okK_noids k1
           have no2:noIds sc=true:=by rw [eqL_eq k2]; exact spW_noids _ _
           refine SFun.lay (bs:=[.cells [.slo 1 0 n 0,.slo 2 0 sz 0,.int .i64 nd,.ptr 3 0] none,.cells kc (some 2),.cells sc (some 1),.cells [.int .i64 most,.slo 4 0 d 0] none,.obj lvF cs 5,.dead]) (args0:=[.ptr 0 0,.int .i64 c,.int .u64 f]) (bs':=[.cells [.slo 1 0 n 0,.slo 2 0 sz 0,.int .i64 (popD sz kc cs f nd),.ptr 3 0] none,.cells kc (some 2),.cells sc (some 1),.cells [.int .i64 most,.slo 4 0 (popN sz most kc cs c f d) 0] none,.obj lvF (popC sz most kc cs c f) 6,.dead,.dead]) (v0:=.tup [.int .i64 (popV sz most kc cs c f),.int .i64 (popE sz most kc cs c f)]) hfr hs1 (nodupB_nd hbc)
            ⟨⟨there hfr hb0,_,hb0,by first | exact lb_same rfl | exact lb_cells (lws_cons (lw_slo rfl) (lws_cons (lw_slo rfl) (lws_cons (lw_int) (lws_cons (lw_ptr rfl) lws_nil)))) (by simp),fun κ hκ=>lb_cells (lws_cons (lw_slo (hκ 1 q rfl)) (lws_cons (lw_slo (hκ 2 p rfl)) (lws_cons (lw_int) (lws_cons (lw_ptr (hκ 3 l rfl)) lws_nil)))) (by simp)⟩,⟨there hfr hb1,_,hb1,lb_same (by(exact zId)),fun κ hκ=>lb_same (by(exact zId))⟩,⟨there hfr hb2,_,hb2,lb_same (by(exact zId)),fun κ hκ=>lb_same (by(exact zId))⟩,⟨there hfr hb3,_,hb3,by first | exact lb_same rfl | exact lb_cells (lws_cons (lw_int) (lws_cons (lw_slo rfl) lws_nil)) (by simp),fun κ hκ=>lb_cells (lws_cons (lw_int) (lws_cons (lw_slo (hκ 4 o rfl)) lws_nil)) (by simp)⟩,⟨there hfr hb4,_,hb4,lb_obj rfl,fun κ hκ=>lb_obj (hκ 5 e rfl)⟩,⟨there hfr hb5,_,hb5,lb_dead,fun κ hκ=>lb_dead⟩,trivial⟩ (by(exact zTl)) ?_
            fun κ h1 h2=>⟨⟨lb_cells (lws_cons (lw_slo (h1 1 q rfl)) (lws_cons (lw_slo (h1 2 p rfl)) (lws_cons (lw_int) (lws_cons (lw_ptr (h1 3 l rfl)) lws_nil)))) (by simp),lb_same (by(exact zId)),lb_same (by(exact zId)),lb_cells (lws_cons (lw_int) (lws_cons (lw_slo (h1 4 o rfl)) lws_nil)) (by simp),lb_obj (h2 0 (by simp)),lb_dead,lb_dead,trivial⟩,lw_noid rfl⟩
           rw [hgl]; exact(pop_c sz n kc sc c f nd most d cs k1 k2 k3)
          ·cases hg
       ·cases hg
      ·cases hg
     ·cases hg
    ·cases hg
   ·cases hg
  ·cases hg
 ·cases hg
def bmpG:Gc:=fun args s=>match args,s.g with
 | [.ptr b 0,.int .i64 c],[]=>(match s.h.get b with
   | some (.cells [.slo q 0 n 0,.slo p 0 sz 0,.int .i64 nd,.ptr l 0] none)=>(match s.h.get q with
     | some (.cells kc (some 2))=>(match s.h.get p with
       | some (.cells sc (some 1))=>(match s.h.get l with
         | some (.cells [.int .i64 most,.slo o 0 d 0] none)=>(match s.h.get o with
           | some (.obj F_o cs e)=>(match s.h.get e with
             | some (.dead)=>cond (nodupB [b,q,p,l,o,e]) (match s.lay [b,q,p,l,o,e] [.cells [.slo q 0 n 0,.slo p 0 sz 0,.int .i64 (rdDW sz kc cs 5 nd),.ptr l 0] none,.cells kc (some 2),.cells sc (some 1),.cells [.int .i64 most,.slo o 0 (bmpN sz most kc cs c d) 0] none,.obj lvF (bmpC sz most kc cs c) s.n,.dead] [.dead] with
               | some s'=>some ([okK sz n kc,eqL sc (spW sz kc),okR most cs d,isF F_o lvF],.tup [.int .i64 (bmpV sz most kc cs c),.int .i64 (bmpE sz most kc cs c)],s')
               | none=>none) none
             | _=>none)
           | _=>none)
         | _=>none)
       | _=>none)
     | _=>none)
   | _=>none)
 | _,_=>none
theorem bmpG_ok:GOk prog 43 bmpG:=by
 intro args s bs l s' hg hb hfr
 unfold bmpG at hg
 split at hg
 ·rename_i b c hgl
  split at hg
  ·rename_i q n p sz nd l hb0
   split at hg
   ·rename_i kc hb1
    split at hg
    ·rename_i sc hb2
     split at hg
     ·rename_i most o d hb3
      split at hg
      ·rename_i F_o cs e hb4
       split at hg
       ·rename_i  hb5
        cases hbc:nodupB [b,q,p,l,o,e] with
        | false=>rw [hbc] at hg; cases hg
        | true =>
          rw [hbc] at hg
          simp only [cond_true] at hg
          split at hg
          ·rename_i s1 hs1
           simp only [Option.some.injEq,Prod.mk.injEq] at hg
           obtain⟨rfl,rfl,rfl⟩:=hg
           simp only [allT_cons] at hb
           obtain⟨k1,k2,k3,k4,_⟩:=hb
           have e_o:=isF_eq k4
           subst e_o
           have no:noIds kc=true:=okK_noids k1
           have no2:noIds sc=true:=by rw [eqL_eq k2]; exact spW_noids _ _
           refine SFun.lay (bs:=[.cells [.slo 1 0 n 0,.slo 2 0 sz 0,.int .i64 nd,.ptr 3 0] none,.cells kc (some 2),.cells sc (some 1),.cells [.int .i64 most,.slo 4 0 d 0] none,.obj lvF cs 5,.dead]) (args0:=[.ptr 0 0,.int .i64 c]) (bs':=[.cells [.slo 1 0 n 0,.slo 2 0 sz 0,.int .i64 (rdDW sz kc cs 5 nd),.ptr 3 0] none,.cells kc (some 2),.cells sc (some 1),.cells [.int .i64 most,.slo 4 0 (bmpN sz most kc cs c d) 0] none,.obj lvF (bmpC sz most kc cs c) 6,.dead,.dead]) (v0:=.tup [.int .i64 (bmpV sz most kc cs c),.int .i64 (bmpE sz most kc cs c)]) hfr hs1 (nodupB_nd hbc)
            ⟨⟨there hfr hb0,_,hb0,by first | exact lb_same rfl | exact lb_cells (lws_cons (lw_slo rfl) (lws_cons (lw_slo rfl) (lws_cons (lw_int) (lws_cons (lw_ptr rfl) lws_nil)))) (by simp),fun κ hκ=>lb_cells (lws_cons (lw_slo (hκ 1 q rfl)) (lws_cons (lw_slo (hκ 2 p rfl)) (lws_cons (lw_int) (lws_cons (lw_ptr (hκ 3 l rfl)) lws_nil)))) (by simp)⟩,⟨there hfr hb1,_,hb1,lb_same (by(exact zId)),fun κ hκ=>lb_same (by(exact zId))⟩,⟨there hfr hb2,_,hb2,lb_same (by(exact zId)),fun κ hκ=>lb_same (by(exact zId))⟩,⟨there hfr hb3,_,hb3,by first | exact lb_same rfl | exact lb_cells (lws_cons (lw_int) (lws_cons (lw_slo rfl) lws_nil)) (by simp),fun κ hκ=>lb_cells (lws_cons (lw_int) (lws_cons (lw_slo (hκ 4 o rfl)) lws_nil)) (by simp)⟩,⟨there hfr hb4,_,hb4,lb_obj rfl,fun κ hκ=>lb_obj (hκ 5 e rfl)⟩,⟨there hfr hb5,_,hb5,lb_dead,fun κ hκ=>lb_dead⟩,trivial⟩ (by(exact zTl)) ?_
            fun κ h1 h2=>⟨⟨lb_cells (lws_cons (lw_slo (h1 1 q rfl)) (lws_cons (lw_slo (h1 2 p rfl)) (lws_cons (lw_int) (lws_cons (lw_ptr (h1 3 l rfl)) lws_nil)))) (by simp),lb_same (by(exact zId)),lb_same (by(exact zId)),lb_cells (lws_cons (lw_int) (lws_cons (lw_slo (h1 4 o rfl)) lws_nil)) (by simp),lb_obj (h2 0 (by simp)),lb_dead,lb_dead,trivial⟩,lw_noid rfl⟩
           rw [hgl]; exact(bmp_c sz n kc sc c nd most d cs k1 k2 k3)
          ·cases hg
       ·cases hg
      ·cases hg
     ·cases hg
    ·cases hg
   ·cases hg
  ·cases hg
 ·cases hg
def cxal:Cx:=cxl [(40,rdG),(41,headG),(16,clsG),(42,popG),(43,bmpG)]
theorem alx (sz n:Nat) (s nd most:Int) (d:Nat) (kc sc cs:List LV) (K:Fk):(xfun prog cxal 60 12 [.ptr 0 0,.int .i64 s] (mkS (vwH sz n kc sc nd most d cs)) (vF K))=(
 bif xcm .eql (clsW s) 0 then(
 K (.tup [.int .i64 0,.int .i64 3]) [sN [.slo 1 0 n 0,.slo 2 0 sz 0,.int .i64 nd,.ptr 3 0],sC kc 2,sC sc 1,sN [.int .i64 most,.slo 4 0 d 0],some (.obj lvF cs 5),sD] [])
 else(
 ck (okK sz n kc) <|
 ck (eqL sc (spW sz kc)) <|
 ck (okR most cs d) <|
 ck (isF lvF lvF) <|
 bif xcm .neq (rdEW sz kc cs (heW (clsW s))) 0 then(
 K (.tup [.int .i64 0,.int .i64 (rdEW sz kc cs (heW (clsW s)))]) [sN [.slo 1 0 n 0,.slo 2 0 sz 0,.int .i64 (rdDW sz kc cs (heW (clsW s)) nd),.ptr 3 0],sC kc 2,sC sc 1,sN [.int .i64 most,.slo 4 0 d 0],some (.obj lvF cs 6),sD,sD] [])
 else(
 bif xcm .neq (rdVW sz kc cs (heW (clsW s))) 0 then(
 ck (okK sz n kc) <|
 ck (eqL sc (spW sz kc)) <|
 ck (okR most cs d) <|
 ck (isF lvF lvF) <|
 K (.tup [.int .i64 (popV sz most kc cs (clsW s) (rdVW sz kc cs (heW (clsW s)))),.int .i64 (popE sz most kc cs (clsW s) (rdVW sz kc cs (heW (clsW s))))]) [sN [.slo 1 0 n 0,.slo 2 0 sz 0,.int .i64 (popD sz kc cs (rdVW sz kc cs (heW (clsW s))) (rdDW sz kc cs (heW (clsW s)) nd)),.ptr 3 0],sC kc 2,sC sc 1,sN [.int .i64 most,.slo 4 0 (popN sz most kc cs (clsW s) (rdVW sz kc cs (heW (clsW s))) d) 0],some (.obj lvF (popC sz most kc cs (clsW s) (rdVW sz kc cs (heW (clsW s)))) 7),sD,sD,sD] [])
 else(
 ck (okK sz n kc) <|
 ck (eqL sc (spW sz kc)) <|
 ck (okR most cs d) <|
 ck (isF lvF lvF) <|
 K (.tup [.int .i64 (bmpV sz most kc cs (clsW s)),.int .i64 (bmpE sz most kc cs (clsW s))]) [sN [.slo 1 0 n 0,.slo 2 0 sz 0,.int .i64 (rdDW sz kc cs 5 (rdDW sz kc cs (heW (clsW s)) nd)),.ptr 3 0],sC kc 2,sC sc 1,sN [.int .i64 most,.slo 4 0 (bmpN sz most kc cs (clsW s) d) 0],some (.obj lvF (bmpC sz most kc cs (clsW s)) 7),sD,sD,sD] [])))):=by kernel_rfl
end
end Go.Lev
