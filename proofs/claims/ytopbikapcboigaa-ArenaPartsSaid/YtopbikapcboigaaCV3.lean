/- chapter 10: a view: Read of the reference, Take of both; contracts -/
import Derived.Test.YtopbikapcboigaaCV2
import Derived.Test.YtopbikapcboigaaLc
import Derived.Test.YtopbikapcboigaaChecked
import Derived.KernelRfl
namespace Go.Lev
set_option linter.unusedSimpArgs false
set_option linter.unusedVariables false
open Go.RowKit
open Go.Proofs.Try (prog)
set_option maxRecDepth 100000
noncomputable section
theorem kn_c (sz n:Nat) (kc sc:List LV) (a x nd most:Int) (d:Nat) (cs:List LV) (k1:okK sz n kc=true) (k2:sc=spW sz kc):SFun prog 27 [.ptr 0 0,.int .i64 a,.int .u64 x] (mkS (vwH sz n kc sc nd most d cs)) fun l t=>l=.int .i64 (knEW sz kc a x)∧t=mkS (vwI sz (knNW sz kc a x) (knCW sz kc a x) (spW sz (knCW sz kc a x)) nd most d cs):=by
 obtain⟨ks,rfl,rfl,h⟩:=okK_iff.1 k1
 subst k2
 simp only [knEW,knNW,knCW,spW,decC_enc]
 exact kn_ok sz ks h a x nd most d cs
theorem rd_c (sz n:Nat) (kc sc:List LV) (a nd most:Int) (d:Nat) (cs:List LV) (k1:okK sz n kc=true) (k2:sc=spW sz kc) (k3:okR most cs d=true):SFun prog 40 [.ptr 0 0,.int .i64 a] (mkS (vwH sz n kc sc nd most d cs)) fun l t=>l=.tup [.int .u64 (rdVW sz kc cs a),.int .i64 (rdEW sz kc cs a)]∧t=mkS (vwJ sz n kc sc (rdDW sz kc cs a nd) most d cs):=by
 obtain⟨ks,rfl,rfl,h⟩:=okK_iff.1 k1
 obtain⟨ls,rfl,rfl,h1,h2,h3⟩:=okR_iff.1 k3
 subst k2
 simp only [rdVW,rdEW,rdDW,spW,decC_enc,decLs_enc]
 exact rd_ok sz ks h a nd most ls h1 h2 h3
theorem okK_noids {sz n:Nat} {kc:List LV} (h:okK sz n kc=true):noIds kc=true:=by obtain⟨_,e,_⟩:=okK_iff.1 h; rw [e]; exact noids_c _
theorem spW_noids (sz:Nat) (kc:List LV):noIds (spW sz kc)=true:=noIds_Ii64 _
def knG:Gc:=fun args s=>match args,s.g with
 | [.ptr b 0,.int .i64 a,.int .u64 x],[]=>(match s.h.get b with
   | some (.cells [.slo q 0 n 0,.slo p 0 sz 0,.int .i64 nd,.ptr l 0] none)=>(match s.h.get q with
     | some (.cells kc (some 2))=>(match s.h.get p with
       | some (.cells sc (some 1))=>(match s.h.get l with
         | some (.cells [.int .i64 most,.slo o 0 d 0] none)=>(match s.h.get o with
           | some (.obj F_o cs e)=>(match s.h.get e with
             | some (.dead)=>cond (nodupB [b,q,p,l,o,e]) (match s.lay [b,q,p,l,o,e] [.cells [.slo s.n 0 (knNW sz kc a x) 0,.slo p 0 sz 0,.int .i64 nd,.ptr l 0] none,.dead,.cells (spW sz (knCW sz kc a x)) (some 1),.cells [.int .i64 most,.slo o 0 d 0] none,.obj lvF cs e,.dead] [.cells (knCW sz kc a x) (some 2)] with
               | some s'=>some ([okK sz n kc,eqL sc (spW sz kc),isF F_o lvF],.int .i64 (knEW sz kc a x),s')
               | none=>none) none
             | _=>none)
           | _=>none)
         | _=>none)
       | _=>none)
     | _=>none)
   | _=>none)
 | _,_=>none
theorem knG_ok:GOk prog 27 knG:=by
 intro args s bs l s' hg hb hfr
 unfold knG at hg
 split at hg
 ·rename_i b a x hgl
  split at hg
  ·rename_i q n p sz nd l hb0
   split at hg
   ·rename_i kc hb1
    split at hg
    ·rename_i sc hb2
     split at hg
     ·rename_i most o d hb3
      split at hg
      ·rename_i F_o cs e hb4
       split at hg
       ·rename_i  hb5
        cases hbc:nodupB [b,q,p,l,o,e] with
        | false=>rw [hbc] at hg; cases hg
        | true =>
          rw [hbc] at hg
          simp only [cond_true] at hg
          split at hg
          ·rename_i s1 hs1
           simp only [Option.some.injEq,Prod.mk.injEq] at hg
           obtain⟨rfl,rfl,rfl⟩:=hg
           simp only [allT_cons] at hb
           obtain⟨k1,k2,k3,_⟩:=hb
           have e_o:=isF_eq k3
           subst e_o
           replace k2:=eqL_eq k2
           have no:noIds kc=true:=okK_noids k1
           have no2:noIds sc=true:=by rw [k2]; exact spW_noids _ _
           refine SFun.lay (bs:=[.cells [.slo 1 0 n 0,.slo 2 0 sz 0,.int .i64 nd,.ptr 3 0] none,.cells kc (some 2),.cells sc (some 1),.cells [.int .i64 most,.slo 4 0 d 0] none,.obj lvF cs 5,.dead]) (args0:=[.ptr 0 0,.int .i64 a,.int .u64 x]) (bs':=[.cells [.slo 6 0 (knNW sz kc a x) 0,.slo 2 0 sz 0,.int .i64 nd,.ptr 3 0] none,.dead,.cells (spW sz (knCW sz kc a x)) (some 1),.cells [.int .i64 most,.slo 4 0 d 0] none,.obj lvF cs 5,.dead,.cells (knCW sz kc a x) (some 2)]) (v0:=.int .i64 (knEW sz kc a x)) hfr hs1 (nodupB_nd hbc)
            ⟨⟨there hfr hb0,_,hb0,by first | exact lb_same rfl | exact lb_cells (lws_cons (lw_slo rfl) (lws_cons (lw_slo rfl) (lws_cons (lw_int) (lws_cons (lw_ptr rfl) lws_nil)))) (by simp),fun κ hκ=>lb_cells (lws_cons (lw_slo (hκ 1 q rfl)) (lws_cons (lw_slo (hκ 2 p rfl)) (lws_cons (lw_int) (lws_cons (lw_ptr (hκ 3 l rfl)) lws_nil)))) (by simp)⟩,⟨there hfr hb1,_,hb1,lb_same (by(exact zId)),fun κ hκ=>lb_same (by(exact zId))⟩,⟨there hfr hb2,_,hb2,lb_same (by(exact zId)),fun κ hκ=>lb_same (by(exact zId))⟩,⟨there hfr hb3,_,hb3,by first | exact lb_same rfl | exact lb_cells (lws_cons (lw_int) (lws_cons (lw_slo rfl) lws_nil)) (by simp),fun κ hκ=>lb_cells (lws_cons (lw_int) (lws_cons (lw_slo (hκ 4 o rfl)) lws_nil)) (by simp)⟩,⟨there hfr hb4,_,hb4,lb_obj rfl,fun κ hκ=>lb_obj (hκ 5 e rfl)⟩,⟨there hfr hb5,_,hb5,lb_dead,fun κ hκ=>lb_dead⟩,trivial⟩ (by(exact zTl)) ?_
            fun κ h1 h2=>⟨⟨lb_cells (lws_cons (lw_slo (h2 0 (by simp))) (lws_cons (lw_slo (h1 2 p rfl)) (lws_cons (lw_int) (lws_cons (lw_ptr (h1 3 l rfl)) lws_nil)))) (by simp),lb_dead,lb_same (spW_noids _ _),lb_cells (lws_cons (lw_int) (lws_cons (lw_slo (h1 4 o rfl)) lws_nil)) (by simp),lb_obj (h1 5 e rfl),lb_dead,lb_same (noids_c _),trivial⟩,lw_int⟩
           rw [hgl]; exact(kn_c sz n kc sc a x nd most d cs k1 k2)
          ·cases hg
       ·cases hg
      ·cases hg
     ·cases hg
    ·cases hg
   ·cases hg
  ·cases hg
 ·cases hg
def rdG:Gc:=fun args s=>match args,s.g with
 | [.ptr b 0,.int .i64 a],[]=>(match s.h.get b with
   | some (.cells [.slo q 0 n 0,.slo p 0 sz 0,.int .i64 nd,.ptr l 0] none)=>(match s.h.get q with
     | some (.cells kc (some 2))=>(match s.h.get p with
       | some (.cells sc (some 1))=>(match s.h.get l with
         | some (.cells [.int .i64 most,.slo o 0 d 0] none)=>(match s.h.get o with
           | some (.obj F_o cs e)=>(match s.h.get e with
             | some (.dead)=>cond (nodupB [b,q,p,l,o,e]) (match s.lay [b,q,p,l,o,e] [.cells [.slo q 0 n 0,.slo p 0 sz 0,.int .i64 (rdDW sz kc cs a nd),.ptr l 0] none,.cells kc (some 2),.cells sc (some 1),.cells [.int .i64 most,.slo o 0 d 0] none,.obj lvF cs s.n,.dead] [.dead] with
               | some s'=>some ([okK sz n kc,eqL sc (spW sz kc),okR most cs d,isF F_o lvF],.tup [.int .u64 (rdVW sz kc cs a),.int .i64 (rdEW sz kc cs a)],s')
               | none=>none) none
             | _=>none)
           | _=>none)
         | _=>none)
       | _=>none)
     | _=>none)
   | _=>none)
 | _,_=>none
theorem rdG_ok:GOk prog 40 rdG:=by
 intro args s bs l s' hg hb hfr
 unfold rdG at hg
 split at hg
 ·rename_i b a hgl
  split at hg
  ·rename_i q n p sz nd l hb0
   split at hg
   ·rename_i kc hb1
    split at hg
    ·rename_i sc hb2
     split at hg
     ·rename_i most o d hb3
      split at hg
      ·rename_i F_o cs e hb4
       split at hg
       ·rename_i  hb5
        cases hbc:nodupB [b,q,p,l,o,e] with
        | false=>rw [hbc] at hg; cases hg
        | true =>
          rw [hbc] at hg
          simp only [cond_true] at hg
          split at hg
          ·rename_i s1 hs1
           simp only [Option.some.injEq,Prod.mk.injEq] at hg
           obtain⟨rfl,rfl,rfl⟩:=hg
           simp only [allT_cons] at hb
           obtain⟨k1,k2,k3,k4,_⟩:=hb
           have e_o:=isF_eq k4
           subst e_o
           replace k2:=eqL_eq k2
           have no:noIds kc=true:=okK_noids k1
           have no2:noIds sc=true:=by rw [k2]; exact spW_noids _ _
           refine SFun.lay (bs:=[.cells [.slo 1 0 n 0,.slo 2 0 sz 0,.int .i64 nd,.ptr 3 0] none,.cells kc (some 2),.cells sc (some 1),.cells [.int .i64 most,.slo 4 0 d 0] none,.obj lvF cs 5,.dead]) (args0:=[.ptr 0 0,.int .i64 a]) (bs':=[.cells [.slo 1 0 n 0,.slo 2 0 sz 0,.int .i64 (rdDW sz kc cs a nd),.ptr 3 0] none,.cells kc (some 2),.cells sc (some 1),.cells [.int .i64 most,.slo 4 0 d 0] none,.obj lvF cs 6,.dead,.dead]) (v0:=.tup [.int .u64 (rdVW sz kc cs a),.int .i64 (rdEW sz kc cs a)]) hfr hs1 (nodupB_nd hbc)
            ⟨⟨there hfr hb0,_,hb0,by first | exact lb_same rfl | exact lb_cells (lws_cons (lw_slo rfl) (lws_cons (lw_slo rfl) (lws_cons (lw_int) (lws_cons (lw_ptr rfl) lws_nil)))) (by simp),fun κ hκ=>lb_cells (lws_cons (lw_slo (hκ 1 q rfl)) (lws_cons (lw_slo (hκ 2 p rfl)) (lws_cons (lw_int) (lws_cons (lw_ptr (hκ 3 l rfl)) lws_nil)))) (by simp)⟩,⟨there hfr hb1,_,hb1,lb_same (by(exact zId)),fun κ hκ=>lb_same (by(exact zId))⟩,⟨there hfr hb2,_,hb2,lb_same (by(exact zId)),fun κ hκ=>lb_same (by(exact zId))⟩,⟨there hfr hb3,_,hb3,by first | exact lb_same rfl | exact lb_cells (lws_cons (lw_int) (lws_cons (lw_slo rfl) lws_nil)) (by simp),fun κ hκ=>lb_cells (lws_cons (lw_int) (lws_cons (lw_slo (hκ 4 o rfl)) lws_nil)) (by simp)⟩,⟨there hfr hb4,_,hb4,lb_obj rfl,fun κ hκ=>lb_obj (hκ 5 e rfl)⟩,⟨there hfr hb5,_,hb5,lb_dead,fun κ hκ=>lb_dead⟩,trivial⟩ (by(exact zTl)) ?_
            fun κ h1 h2=>⟨⟨lb_cells (lws_cons (lw_slo (h1 1 q rfl)) (lws_cons (lw_slo (h1 2 p rfl)) (lws_cons (lw_int) (lws_cons (lw_ptr (h1 3 l rfl)) lws_nil)))) (by simp),lb_same (by(exact zId)),lb_same (by(exact zId)),lb_cells (lws_cons (lw_int) (lws_cons (lw_slo (h1 4 o rfl)) lws_nil)) (by simp),lb_obj (h2 0 (by simp)),lb_dead,lb_dead,trivial⟩,lw_noid rfl⟩
           rw [hgl]; exact(rd_c sz n kc sc a nd most d cs k1 k2 k3)
          ·cases hg
       ·cases hg
      ·cases hg
     ·cases hg
    ·cases hg
   ·cases hg
  ·cases hg
 ·cases hg
end
end Go.Lev
