/- chapter 11: the reference's Free, Give, Alloc as contracts -/
import Derived.Test.YtopbikapcboigaaCZ19
import Derived.Test.YtopbikapcboigaaLc
import Derived.Test.YtopbikapcboigaaChecked
import Derived.KernelRfl
namespace Go.Lev
set_option linter.unusedSimpArgs false
set_option linter.unusedVariables false
open Go.RowKit
open Go.Proofs.Try (prog)
set_option maxRecDepth 100000
noncomputable section
theorem cxof_ok:CtrOk prog (ctrOf cxof):=cxl_ok ⟨ohdG_ok,wtk1G_ok,ofreeG_ok,trivial⟩
theorem cxog_ok:CtrOk prog (ctrOf cxog):=cxl_ok ⟨ohdG_ok,wtk2G_ok,ordG_ok,trivial⟩
theorem cxoa_ok:CtrOk prog (ctrOf cxoa):=cxl_ok ⟨oclsG_ok,osizeG_ok,wtk2G_ok,ordG_ok,trivial⟩
abbrev ovM (sz n:Nat) (kc:List LV) (nd most:Int) (d:Nat) (cs:List LV):List LB:=[.cells [.int .i64 sz,.slo 1 0 n 0,.ptr 2 0,.int .i64 nd] none,.cells kc (some 2),.cells [.int .i64 most,.slo 5 0 d 0] none,.dead,.dead,.obj orF cs 6,.dead]
def okv (sz:Nat) (kc cs:List LV):Bool:=@decide (∀ a:Int,0≤rdVW sz kc cs a∧rdVW sz kc cs a≤18446744073709551615) (Classical.propDecidable _)
theorem okv_get {sz:Nat} {kc cs:List LV} (h:okv sz kc cs=true) (a:Int):0≤rdVW sz kc cs a∧rdVW sz kc cs a≤18446744073709551615:=by simp only [okv,decide_eq_true_eq] at h; exact h a
theorem okv_hr {sz:Nat} {kc cs:List LV} (h:okv sz kc cs=true) (a:Int):0≤hrV sz kc cs a∧hrV sz kc cs a≤18446744073709551615:=by
 unfold hrV; split
 ·exact okv_get h _
 ·omega
theorem ilX_eq {h:Int} (h0:0≤h) (h1:h≤18446744073709551615):ilW h=decide (9≤h∧h≤12):=by
 rw [ilW,Bool.eq_iff_iff]
 simp only [Bool.and_eq_true,decide_eq_true_eq]
 by_cases c:8 < h
 ·have:lwrap .u64 (h - 8)=h - 8:=wrap_u64 (by omega) (by omega)
  rw [this]; omega
 ·constructor
  ·rintro⟨q,_⟩; exact absurd q c
  ·intro q; omega
theorem clx_b {s c:Int} (h:clsW s=c) (hc:c≠0):1≤c∧c≤4:=by
 subst h; unfold clsW at *; split <;> (try split) <;> (try split) <;> (try split) <;> (try split) <;> (try omega) <;> simp_all
theorem hex_eq {c:Int} (h:1≤c∧c≤4):heW c=c:=by rw [heW,add_i64 (by omega) (by omega)]; omega
theorem hex_2 {c:Int} (h:1≤c∧c≤4):xar .sub .i64 (xar .add .i64 1 c) 1=heW c:=by rw [hex_eq h,add_i64 (by omega) (by omega),sub_i64 (by omega) (by omega)]; omega
theorem addu {x y:Int} (h1:0≤x+y) (h2:x+y≤18446744073709551615):xar .add .u64 x y=x+y:=wrap_u64 h1 h2
theorem subu {x y:Int} (h1:0≤x - y) (h2:x - y≤18446744073709551615):xar .sub .u64 x y=x - y:=wrap_u64 h1 h2
theorem lix_2 {c:Int} (h:1≤c∧c≤4):xwr .u64 (xar .add .i64 c 8)=liveW c:=by
 rw [liveW,wr_u64 (n:=c) (by omega) (by omega),addu (by omega) (by omega),add_i64 (by omega) (by omega),wr_u64 (by omega) (by omega)]
theorem szx_b {c:Int} (h:1≤c∧c≤4):2≤szW c∧szW c≤16:=by
 have:c=1∨c=2∨c=3∨c=4:=by omega
 rcases this with rfl | rfl | rfl | rfl
 ·rw [szW_1]; omega
 ·rw [szW_2]; omega
 ·rw [szW_3]; omega
 ·rw [szW_4]; omega
abbrev bmQ (c P:Int):List LV:=[.int .i64 5,.int .u64 (P+1+szW c),.int .i64 P,.int .u64 (liveW c)]
abbrev jx (a b:Nat):List Src:=[.id 0,.id 1,.id 2,.id 3,.id 4,.id a,.id b]
theorem of_c (sz n:Nat) (kc:List LV) (a nd most:Int) (d:Nat) (cs:List LV) (k1:okK sz n kc=true) (k3:okR most cs d=true) (k5:okv sz kc cs=true) (k4:fbF sz most kc cs a=true):SFun prog 50 [.ptr 0 0,.int .i64 a] (mkS (ovH sz n kc nd most d cs)) fun l t=>l=.int .i64 (fbE sz most kc cs a)∧t=mkS (ovM sz n kc (hrD sz kc cs a nd) most (fbN sz most kc cs a d) (fbC sz most kc cs a)):=by
 refine SFun.mono (SFun.vc (Q:=fun l b=>l=.int .i64 (fbE sz most kc cs a)∧b=ovM sz n kc (hrD sz kc cs a nd) most (fbN sz most kc cs a d) (fbC sz most kc cs a)) cxof_ok (n:=60) 5 rfl ?_) fun l s' ⟨b0,⟨h1,h2⟩,h3⟩=>⟨h1,by rw [h3,h2]⟩
 have no:noIds kc=true:=okK_noids k1
 have f1:=isF_self orF
 have hr:=okv_hr k5 a
 have o8:okm 8=true:=decide_eq_true (.inr rfl)
 rw [ofx]
 simp only [k1,k3,f1,o8,cond_true]
 rw [fbF] at k4
 rw [fbE,fbN,fbC]
 by_cases c1:hrE sz kc cs a=0
 ·by_cases c2:9≤hrV sz kc cs a∧hrV sz kc cs a≤12
  ·have c2':ilW (hrV sz kc cs a)=true:=by rw [ilX_eq hr.1 hr.2]; exact decide_eq_true c2
   have eB:ohB sz kc cs a 8=true:=decide_eq_true ⟨c1,by omega,by omega⟩
   have eO:ohE sz kc cs a 8=0:=by rw [ohE,if_pos c1,eB]; rfl
   have eV:xwr .u64 (ohV sz kc cs a 8)=xar .sub .u64 (hrV sz kc cs a) 8:=by rw [ohV,eB,if_pos rfl,subu (by omega) (by omega),wr_u64 (by omega) (by omega)]
   simp only [eO,eV]
   by_cases c3:vtEW sz most cs (fbL sz kc cs a)=0
   ·have eM:fbM sz most kc cs a=4:=by rw [fbM,if_pos c1,c2',if_pos rfl,if_pos c3]
    rw [eM] at k4
    simp only [if_true,Bool.and_eq_true] at k4
    obtain⟨k6,k7⟩:=k4
    rw [eM]; try dsimp only
    rw [fbL] at c3 k6 k7 ⊢
    simp only [k6,k7,c3,cond_true]
    (refine zR ?_)
    exact⟨rfl,_,_,(jx 8 10),⟨rfl,rfl⟩,by(exact zC)⟩
   ·have eM:fbM sz most kc cs a=3:=by rw [fbM,if_pos c1,c2',if_pos rfl,if_neg c3]
    rw [eM]; try dsimp only
    rw [fbL] at c3 ⊢
    (refine zR ?_)
    exact⟨rfl,_,_,(jx 8 9),⟨rfl,rfl⟩,by(exact zC)⟩
  ·have c2':ilW (hrV sz kc cs a)=false:=by rw [ilX_eq hr.1 hr.2]; exact decide_eq_false c2
   have eB:ohB sz kc cs a 8=false:=decide_eq_false fun z=>c2 (by omega)
   have eO:ohE sz kc cs a 8=2:=by rw [ohE,if_pos c1,eB]; rfl
   have eM:fbM sz most kc cs a=2:=by rw [fbM,if_pos c1,c2']; rfl
   rw [eM,eO]; try dsimp only
   (refine zR ?_)
   exact⟨rfl,_,_,(jx 3 5),⟨rfl,rfl⟩,by(exact zC)⟩
 ·have eO:ohE sz kc cs a 8=hrE sz kc cs a:=if_neg c1
  have eM:fbM sz most kc cs a=1:=if_neg c1
  rw [eM,eO]; try dsimp only
  (refine zR ?_)
  exact⟨rfl,_,_,(jx 3 5),⟨rfl,rfl⟩,by(exact zC)⟩
theorem og_c (sz n:Nat) (kc:List LV) (a nd most:Int) (d:Nat) (cs:List LV) (k1:okK sz n kc=true) (k3:okR most cs d=true) (k5:okv sz kc cs=true):SFun prog 51 [.ptr 0 0,.int .i64 a] (mkS (ovH sz n kc nd most d cs)) fun l t=>l=.int .i64 (gvE sz most kc cs a)∧t=mkS (ovM sz n kc (gvD sz kc cs a nd) most (gvN sz most kc cs a d) (gvC sz most kc cs a)):=by
 refine SFun.mono (SFun.vc (Q:=fun l b=>l=.int .i64 (gvE sz most kc cs a)∧b=ovM sz n kc (gvD sz kc cs a nd) most (gvN sz most kc cs a d) (gvC sz most kc cs a)) cxog_ok (n:=60) 5 rfl ?_) fun l s' ⟨b0,⟨h1,h2⟩,h3⟩=>⟨h1,by rw [h3,h2]⟩
 have no:noIds kc=true:=okK_noids k1
 have f1:=isF_self orF
 have o0:okm 0=true:=decide_eq_true (.inl rfl)
 rw [ogx]
 simp only [k1,k3,f1,o0,cond_true]
 rw [gvE,gvN,gvC,gvD]
 by_cases c1:hrE sz kc cs a=0
 ·by_cases c2:1≤hrV sz kc cs a∧hrV sz kc cs a≤4
  ·have c2':icW (hrV sz kc cs a)=true:=decide_eq_true c2
   have eB:ohB sz kc cs a 0=true:=decide_eq_true ⟨c1,by omega,by omega⟩
   have eO:ohE sz kc cs a 0=0:=by rw [ohE,if_pos c1,eB]; rfl
   have eV:ohV sz kc cs a 0=hrV sz kc cs a:=by rw [ohV,eB,if_pos rfl]; omega
   have eX:xwr .i64 (hrV sz kc cs a)=hrV sz kc cs a:=wr_i64 (by omega) (by omega)
   simp only [eO,eV,hex_2 c2]
   rw [gvL]
   simp only [eX]
   by_cases c3:rdEW sz kc cs (heW (hrV sz kc cs a))=0
   ·have eM:gvM sz kc cs a=4:=by rw [gvM,if_pos c1,c2',if_pos rfl,eX,if_pos c3]
    rw [eM]; try dsimp only
    (refine zR ?_)
    exact⟨rfl,_,_,(jx 9 10),⟨rfl,rfl⟩,by(exact zC)⟩
   ·have eM:gvM sz kc cs a=3:=by rw [gvM,if_pos c1,c2',if_pos rfl,eX,if_neg c3]
    rw [eM]; try dsimp only
    (refine zR ?_)
    exact⟨rfl,_,_,(jx 3 6),⟨rfl,rfl⟩,by(exact zC)⟩
  ·have c2':icW (hrV sz kc cs a)=false:=decide_eq_false c2
   have eB:ohB sz kc cs a 0=false:=decide_eq_false fun z=>c2 (by omega)
   have eO:ohE sz kc cs a 0=2:=by rw [ohE,if_pos c1,eB]; rfl
   have eM:gvM sz kc cs a=2:=by rw [gvM,if_pos c1,c2']; rfl
   rw [eM,eO]; try dsimp only
   (refine zR ?_)
   exact⟨rfl,_,_,(jx 3 5),⟨rfl,rfl⟩,by(exact zC)⟩
 ·have eO:ohE sz kc cs a 0=hrE sz kc cs a:=if_neg c1
  have eM:gvM sz kc cs a=1:=if_neg c1
  rw [eM,eO]; try dsimp only
  (refine zR ?_)
  exact⟨rfl,_,_,(jx 3 5),⟨rfl,rfl⟩,by(exact zC)⟩
theorem rd_m1 (sz:Nat) (kc cs:List LV) (nd:Int):rdEW sz kc cs (-1)=2∧rdDW sz kc cs (-1) nd=nd:=by
 have h:¬ inV sz (-1):=fun z=>absurd z.1 (by omega)
 have e:rdE sz (decC kc) (decLs cs) (-1)=2:=if_neg h
 exact⟨e,by rw [rdDW,rdD,e]; rfl⟩
set_option maxHeartbeats 1000000 in
theorem oa_c (sz n:Nat) (kc:List LV) (s nd most:Int) (d:Nat) (cs:List LV) (k1:okK sz n kc=true) (k3:okR most cs d=true) (k5:okv sz kc cs=true):SFun prog 58 [.ptr 0 0,.int .i64 s] (mkS (ovH sz n kc nd most d cs)) fun l t=>l=.tup [.int .i64 (alV sz most kc cs s),.int .i64 (alE sz most kc cs s)]∧t=mkS (ovM sz n kc (alD sz kc cs s nd) most (alN sz most kc cs s d) (alC sz most kc cs s)):=by
 refine SFun.mono (SFun.vc (Q:=fun l b=>l=.tup [.int .i64 (alV sz most kc cs s),.int .i64 (alE sz most kc cs s)]∧b=ovM sz n kc (alD sz kc cs s nd) most (alN sz most kc cs s d) (alC sz most kc cs s)) cxoa_ok (n:=60) 5 rfl ?_) fun l s' ⟨b0,⟨h1,h2⟩,h3⟩=>⟨h1,by rw [h3,h2]⟩
 have no:noIds kc=true:=okK_noids k1
 have f1:=isF_self orF
 have hs:sz≤256:=by obtain⟨ks,_,_,h⟩:=okK_iff.1 k1; exact h.s
 rw [oax]; simp only [oax_b1,oax_b2,oax_b3,oax_b4]
 simp only [oax_b1,oax_b2,oax_b3,oax_b4,k1,k3,f1,cond_true]
 rw [alE,alV,alD,alN,alC]
 by_cases c0:clsW s=0
 ·have eM:alM sz kc cs s=0:=if_pos c0
  rw [eM]; try dsimp only
  (refine zR ?_)
  exact⟨rfl,_,_,(jx 3 4),⟨rfl,rfl⟩,by(exact zC)⟩
 have hc:=clx_b rfl c0
 have hz:=szx_b hc
 simp only [hex_2 hc,lix_2 hc]
 by_cases c1:rdEW sz kc cs (heW (clsW s))=0
 ·by_cases c2:rdVW sz kc cs (heW (clsW s))=0
  ·have eM:alM sz kc cs s=3:=by rw [alM,if_neg c0,if_pos c1,if_pos c2]
   rw [eM]; try dsimp only
   have hP:=okv_get k5 5
   generalize hh:rdVW sz kc cs 5=P at *
   by_cases d1:rdEW sz kc cs 5=0
   ·have hw:xwr .u64 (Int.ofNat sz)=(sz:Int):=wr_u64 (n:=(sz:Int)) (by omega) (by omega)
    have hzc:xwr .u64 (szW (clsW s))=szW (clsW s):=wr_u64 (by omega) (by omega)
    by_cases d2:14≤P∧P+1+szW (clsW s)≤sz
    ·have eS:xar .add .u64 (xar .add .u64 P 1) (xwr .u64 (szW (clsW s)))=P+1+szW (clsW s):=by rw [hzc,addu (x:=P) (by omega) (by omega),addu (by omega) (by omega)]
     have eP:xwr .i64 P=P:=wr_i64 (by omega) (by omega)
     have eT:xar .add .i64 (xar .add .i64 P 1) (szW (clsW s))=P+1+szW (clsW s):=by rw [add_i64 (x:=P) (by omega) (by omega),add_i64 (by omega) (by omega)]
     have eU:xwr .u64 (P+1+szW (clsW s))=P+1+szW (clsW s):=wr_u64 (by omega) (by omega)
     have e0:bmpB sz kc cs (clsW s)=true:=by rw [bmpB,bmpS,hh,eS,hw]; exact decide_eq_true ⟨d1,d2.1,by omega,d2.2⟩
     have eL:bmpL (clsW s) P=(bmQ (clsW s) P):=by rw [bmpL,eS,eP]
     have eE:bmpE sz most kc cs (clsW s)=vtEW sz most cs (bmQ (clsW s) P):=by rw [bmpE,e0,hh,eL]; rfl
     have eN:bmpN sz most kc cs (clsW s) d=vtDW sz most cs (bmQ (clsW s) P):=by rw [bmpN,e0,hh,eL]; rfl
     have eC:bmpC sz most kc cs (clsW s)=vtCW sz most cs (bmQ (clsW s) P):=by rw [bmpC,e0,hh,eL]; rfl
     have eV:bmpV sz most kc cs (clsW s)=if vtEW sz most cs (bmQ (clsW s) P)=0 then xar .add .i64 P 1 else 0:=by rw [bmpV,eE,hh,eP]
     rw [eE,eN,eC,eV]
     have d7:xcm .gtr (P+1+szW (clsW s)) (Int.ofNat sz)=false:=show xcm .gtr (P+1+szW (clsW s)) ((sz:Nat):Int)=false from f_gtr (by omega)
     simp only [eP,eT,eU,d7]
     by_cases d3:vtEW sz most cs (bmQ (clsW s) P)=0
     ·rw [if_pos d3]
      simp only [d3]
      (refine zR ?_)
      exact⟨rfl,_,_,(jx 9 10),⟨rfl,rfl⟩,by(exact zC)⟩
     ·rw [if_neg d3]
      (refine zR ?_)
      exact⟨rfl,_,_,(jx 9 10),⟨rfl,rfl⟩,by(exact zC)⟩
    ·have e0:bmpB sz kc cs (clsW s)=false:=by
      rw [bmpB,bmpS,hh,hw]
      refine decide_eq_false fun z=>d2 ⟨z.2.1,?_⟩
      have z2:=z.2.2.2
      rwa [hzc,addu (x:=P) (by omega) (by omega),addu (by omega) (by omega)] at z2
     have eE:bmpE sz most kc cs (clsW s)=4:=by rw [bmpE,e0]; exact if_pos d1
     have eN:bmpN sz most kc cs (clsW s) d=d:=by rw [bmpN,e0]; rfl
     have eC:bmpC sz most kc cs (clsW s)=cs:=by rw [bmpC,e0]; rfl
     have eV:bmpV sz most kc cs (clsW s)=0:=by rw [bmpV,eE]; rfl
     rw [eE,eN,eC,eV]
     by_cases d4:2147483648≤P
     ·(refine zR ?_)
      exact⟨rfl,_,_,(jx 3 6),⟨rfl,rfl⟩,by(exact zC)⟩
     have eP:xwr .i64 P=P:=wr_i64 (by omega) (by omega)
     simp only [eP]
     by_cases d5:P < 14
     ·(refine zR ?_)
      exact⟨rfl,_,_,(jx 3 6),⟨rfl,rfl⟩,by(exact zC)⟩
     have eT:xar .add .i64 (xar .add .i64 P 1) (szW (clsW s))=P+1+szW (clsW s):=by rw [add_i64 (x:=P) (by omega) (by omega),add_i64 (by omega) (by omega)]
     simp only [eT]
     have d6:(sz:Int) < P+1+szW (clsW s):=by omega
     have d7:xcm .gtr (P+1+szW (clsW s)) (Int.ofNat sz)=true:=show xcm .gtr (P+1+szW (clsW s)) ((sz:Nat):Int)=true from t_gtr d6
     simp only [d7]
     (refine zR ?_)
     exact⟨rfl,_,_,(jx 3 6),⟨rfl,rfl⟩,by(exact zC)⟩
   ·have e0:bmpB sz kc cs (clsW s)=false:=decide_eq_false fun z=>d1 z.1
    have eE:bmpE sz most kc cs (clsW s)=rdEW sz kc cs 5:=by rw [bmpE,e0]; exact if_neg d1
    have eN:bmpN sz most kc cs (clsW s) d=d:=by rw [bmpN,e0]; rfl
    have eC:bmpC sz most kc cs (clsW s)=cs:=by rw [bmpC,e0]; rfl
    have eV:bmpV sz most kc cs (clsW s)=0:=by rw [bmpV,eE]; exact if_neg d1
    rw [eE,eN,eC,eV]
    (refine zR ?_)
    exact⟨rfl,_,_,(jx 3 6),⟨rfl,rfl⟩,by(exact zC)⟩
  ·have eM:alM sz kc cs s=2:=by rw [alM,if_neg c0,if_pos c1,if_neg c2]
   rw [eM]; try dsimp only
   generalize hf:rdVW sz kc cs (heW (clsW s))=f at *
   by_cases d1:f < 2147483648
   ·by_cases d2:rdEW sz kc cs (xwr .i64 f)=0
    ·have e0:popB sz kc cs f=true:=decide_eq_true ⟨d1,d2⟩
     have eE:popE sz most kc cs (clsW s) f=vtEW sz most cs (popL (clsW s) f (rdVW sz kc cs (xwr .i64 f))):=by rw [popE,e0]; rfl
     have eD:∀ x,popD sz kc cs f x=rdDW sz kc cs (xwr .i64 f) x:=fun x=>if_pos d1
     have eN:popN sz most kc cs (clsW s) f d=vtDW sz most cs (popL (clsW s) f (rdVW sz kc cs (xwr .i64 f))):=by rw [popN,e0]; rfl
     have eC:popC sz most kc cs (clsW s) f=vtCW sz most cs (popL (clsW s) f (rdVW sz kc cs (xwr .i64 f))):=by rw [popC,e0]; rfl
     have eV:popV sz most kc cs (clsW s) f=if vtEW sz most cs (popL (clsW s) f (rdVW sz kc cs (xwr .i64 f)))=0 then xwr .i64 f else 0:=by rw [popV,eE]
     rw [eE,eD,eN,eC,eV]
     by_cases d3:vtEW sz most cs (popL (clsW s) f (rdVW sz kc cs (xwr .i64 f)))=0
     ·rw [if_pos d3,d3]
      rw [popL] at d3 ⊢
      simp only [d3]
      (refine zR ?_)
      exact⟨rfl,_,_,(jx 9 10),⟨rfl,rfl⟩,by(exact zC)⟩
     ·rw [if_neg d3]
      rw [popL] at d3 ⊢
      (refine zR ?_)
      exact⟨rfl,_,_,(jx 9 10),⟨rfl,rfl⟩,by(exact zC)⟩
    ·have e0:popB sz kc cs f=false:=decide_eq_false fun z=>d2 z.2
     have eE:popE sz most kc cs (clsW s) f=rdEW sz kc cs (xwr .i64 f):=by rw [popE,e0]; exact if_pos d1
     have eD:∀ x,popD sz kc cs f x=rdDW sz kc cs (xwr .i64 f) x:=fun x=>if_pos d1
     have eN:popN sz most kc cs (clsW s) f d=d:=by rw [popN,e0]; rfl
     have eC:popC sz most kc cs (clsW s) f=cs:=by rw [popC,e0]; rfl
     have eV:popV sz most kc cs (clsW s) f=0:=by rw [popV,eE]; exact if_neg d2
     rw [eE,eD,eN,eC,eV]
     (refine zR ?_)
     exact⟨rfl,_,_,(jx 3 6),⟨rfl,rfl⟩,by(exact zC)⟩
   ·have e0:popB sz kc cs f=false:=decide_eq_false fun z=>d1 z.1
    have eE:popE sz most kc cs (clsW s) f=2:=by rw [popE,e0]; exact if_neg d1
    have eD:∀ x,popD sz kc cs f x=x:=fun x=>if_neg d1
    have eN:popN sz most kc cs (clsW s) f d=d:=by rw [popN,e0]; rfl
    have eC:popC sz most kc cs (clsW s) f=cs:=by rw [popC,e0]; rfl
    have eV:popV sz most kc cs (clsW s) f=0:=by rw [popV,eE]; rfl
    have em:=rd_m1 sz kc cs
    rw [eE,eD,eN,eC,eV]
    simp only [(em 0).1,(em _).2]
    (refine zR ?_)
    exact⟨rfl,_,_,(jx 3 6),⟨rfl,rfl⟩,by(exact zC)⟩
 ·have eM:alM sz kc cs s=1:=by rw [alM,if_neg c0,if_neg c1]
  rw [eM]; try dsimp only
  (refine zR ?_)
  exact⟨rfl,_,_,(jx 3 5),⟨rfl,rfl⟩,by(exact zC)⟩
def ofrG:Gc:=fun args s=>match args,s.g with
 | [.ptr b 0,.int .i64 a],[]=>(match s.h.get b with
   | some (.cells [.int .i64 (.ofNat sz),.slo q 0 n 0,.ptr l 0,.int .i64 nd] none)=>(match s.h.get q with
     | some (.cells kc (some 2))=>(match s.h.get l with
       | some (.cells [.int .i64 most,.slo o 0 d 0] none)=>(match s.h.get o with
         | some (.obj F_o cs e)=>(match s.h.get e with
           | some (.dead)=>cond (nodupB [b,q,l,o,e]) (match s.lay [b,q,l,o,e] [.cells [.int .i64 (.ofNat sz),.slo q 0 n 0,.ptr l 0,.int .i64 (hrD sz kc cs a nd)] none,.cells kc (some 2),.cells [.int .i64 most,.slo s.n 0 (fbN sz most kc cs a d) 0] none,.dead,.dead] [.obj orF (fbC sz most kc cs a) (Nat.succ s.n),.dead] with
             | some s'=>some ([okK sz n kc,okR most cs d,okv sz kc cs,fbF sz most kc cs a,isF F_o orF],.int .i64 (fbE sz most kc cs a),s')
             | none=>none) none
           | _=>none)
         | _=>none)
       | _=>none)
     | _=>none)
   | _=>none)
 | _,_=>none
theorem ofrG_ok:GOk prog 50 ofrG:=by
 intro args s bs l s' hg hb hfr
 unfold ofrG at hg
 split at hg
 ·rename_i b a hgl
  split at hg
  ·rename_i sz q n l nd hb0
   split at hg
   ·rename_i kc hb1
    split at hg
    ·rename_i most o d hb2
     split at hg
     ·rename_i F_o cs e hb3
      split at hg
      ·rename_i  hb4
       cases hbc:nodupB [b,q,l,o,e] with
       | false=>rw [hbc] at hg; cases hg
       | true =>
         rw [hbc] at hg
         simp only [cond_true] at hg
         split at hg
         ·rename_i s1 hs1
          simp only [Option.some.injEq,Prod.mk.injEq] at hg
          obtain⟨rfl,rfl,rfl⟩:=hg
          simp only [allT_cons] at hb
          obtain⟨k1,k2,k3,k4,k5,_⟩:=hb
          have e_o:=isF_eq k5
          subst e_o
          have no:noIds kc=true:=okK_noids k1
          refine SFun.lay (bs:=[.cells [.int .i64 (.ofNat sz),.slo 1 0 n 0,.ptr 2 0,.int .i64 nd] none,.cells kc (some 2),.cells [.int .i64 most,.slo 3 0 d 0] none,.obj orF cs 4,.dead]) (args0:=[.ptr 0 0,.int .i64 a]) (bs':=[.cells [.int .i64 (.ofNat sz),.slo 1 0 n 0,.ptr 2 0,.int .i64 (hrD sz kc cs a nd)] none,.cells kc (some 2),.cells [.int .i64 most,.slo 5 0 (fbN sz most kc cs a d) 0] none,.dead,.dead,.obj orF (fbC sz most kc cs a) 6,.dead]) (v0:=.int .i64 (fbE sz most kc cs a)) hfr hs1 (nodupB_nd hbc)
           ⟨⟨there hfr hb0,_,hb0,by first | exact lb_same rfl | exact lb_cells (lws_cons (lw_int) (lws_cons (lw_slo rfl) (lws_cons (lw_ptr rfl) (lws_cons (lw_int) lws_nil)))) (by simp),fun κ hκ=>lb_cells (lws_cons (lw_int) (lws_cons (lw_slo (hκ 1 q rfl)) (lws_cons (lw_ptr (hκ 2 l rfl)) (lws_cons (lw_int) lws_nil)))) (by simp)⟩,⟨there hfr hb1,_,hb1,lb_same (by(exact zId)),fun κ hκ=>lb_same (by(exact zId))⟩,⟨there hfr hb2,_,hb2,by first | exact lb_same rfl | exact lb_cells (lws_cons (lw_int) (lws_cons (lw_slo rfl) lws_nil)) (by simp),fun κ hκ=>lb_cells (lws_cons (lw_int) (lws_cons (lw_slo (hκ 3 o rfl)) lws_nil)) (by simp)⟩,⟨there hfr hb3,_,hb3,lb_obj rfl,fun κ hκ=>lb_obj (hκ 4 e rfl)⟩,⟨there hfr hb4,_,hb4,lb_dead,fun κ hκ=>lb_dead⟩,trivial⟩ (by(exact zTl)) ?_
           fun κ h1 h2=>⟨⟨lb_cells (lws_cons (lw_int) (lws_cons (lw_slo (h1 1 q rfl)) (lws_cons (lw_ptr (h1 2 l rfl)) (lws_cons (lw_int) lws_nil)))) (by simp),lb_same (by(exact zId)),lb_cells (lws_cons (lw_int) (lws_cons (lw_slo (h2 0 (by simp))) lws_nil)) (by simp),lb_dead,lb_dead,lb_obj (h2 1 (by simp)),lb_dead,trivial⟩,lw_int⟩
          rw [hgl]; exact(of_c sz n kc a nd most d cs k1 k2 k3 k4)
         ·cases hg
      ·cases hg
     ·cases hg
    ·cases hg
   ·cases hg
  ·cases hg
 ·cases hg
def ogvG:Gc:=fun args s=>match args,s.g with
 | [.ptr b 0,.int .i64 a],[]=>(match s.h.get b with
   | some (.cells [.int .i64 (.ofNat sz),.slo q 0 n 0,.ptr l 0,.int .i64 nd] none)=>(match s.h.get q with
     | some (.cells kc (some 2))=>(match s.h.get l with
       | some (.cells [.int .i64 most,.slo o 0 d 0] none)=>(match s.h.get o with
         | some (.obj F_o cs e)=>(match s.h.get e with
           | some (.dead)=>cond (nodupB [b,q,l,o,e]) (match s.lay [b,q,l,o,e] [.cells [.int .i64 (.ofNat sz),.slo q 0 n 0,.ptr l 0,.int .i64 (gvD sz kc cs a nd)] none,.cells kc (some 2),.cells [.int .i64 most,.slo s.n 0 (gvN sz most kc cs a d) 0] none,.dead,.dead] [.obj orF (gvC sz most kc cs a) (Nat.succ s.n),.dead] with
             | some s'=>some ([okK sz n kc,okR most cs d,okv sz kc cs,isF F_o orF],.int .i64 (gvE sz most kc cs a),s')
             | none=>none) none
           | _=>none)
         | _=>none)
       | _=>none)
     | _=>none)
   | _=>none)
 | _,_=>none
theorem ogvG_ok:GOk prog 51 ogvG:=by
 intro args s bs l s' hg hb hfr
 unfold ogvG at hg
 split at hg
 ·rename_i b a hgl
  split at hg
  ·rename_i sz q n l nd hb0
   split at hg
   ·rename_i kc hb1
    split at hg
    ·rename_i most o d hb2
     split at hg
     ·rename_i F_o cs e hb3
      split at hg
      ·rename_i  hb4
       cases hbc:nodupB [b,q,l,o,e] with
       | false=>rw [hbc] at hg; cases hg
       | true =>
         rw [hbc] at hg
         simp only [cond_true] at hg
         split at hg
         ·rename_i s1 hs1
          simp only [Option.some.injEq,Prod.mk.injEq] at hg
          obtain⟨rfl,rfl,rfl⟩:=hg
          simp only [allT_cons] at hb
          obtain⟨k1,k2,k3,k4,_⟩:=hb
          have e_o:=isF_eq k4
          subst e_o
          have no:noIds kc=true:=okK_noids k1
          refine SFun.lay (bs:=[.cells [.int .i64 (.ofNat sz),.slo 1 0 n 0,.ptr 2 0,.int .i64 nd] none,.cells kc (some 2),.cells [.int .i64 most,.slo 3 0 d 0] none,.obj orF cs 4,.dead]) (args0:=[.ptr 0 0,.int .i64 a]) (bs':=[.cells [.int .i64 (.ofNat sz),.slo 1 0 n 0,.ptr 2 0,.int .i64 (gvD sz kc cs a nd)] none,.cells kc (some 2),.cells [.int .i64 most,.slo 5 0 (gvN sz most kc cs a d) 0] none,.dead,.dead,.obj orF (gvC sz most kc cs a) 6,.dead]) (v0:=.int .i64 (gvE sz most kc cs a)) hfr hs1 (nodupB_nd hbc)
           ⟨⟨there hfr hb0,_,hb0,by first | exact lb_same rfl | exact lb_cells (lws_cons (lw_int) (lws_cons (lw_slo rfl) (lws_cons (lw_ptr rfl) (lws_cons (lw_int) lws_nil)))) (by simp),fun κ hκ=>lb_cells (lws_cons (lw_int) (lws_cons (lw_slo (hκ 1 q rfl)) (lws_cons (lw_ptr (hκ 2 l rfl)) (lws_cons (lw_int) lws_nil)))) (by simp)⟩,⟨there hfr hb1,_,hb1,lb_same (by(exact zId)),fun κ hκ=>lb_same (by(exact zId))⟩,⟨there hfr hb2,_,hb2,by first | exact lb_same rfl | exact lb_cells (lws_cons (lw_int) (lws_cons (lw_slo rfl) lws_nil)) (by simp),fun κ hκ=>lb_cells (lws_cons (lw_int) (lws_cons (lw_slo (hκ 3 o rfl)) lws_nil)) (by simp)⟩,⟨there hfr hb3,_,hb3,lb_obj rfl,fun κ hκ=>lb_obj (hκ 4 e rfl)⟩,⟨there hfr hb4,_,hb4,lb_dead,fun κ hκ=>lb_dead⟩,trivial⟩ (by(exact zTl)) ?_
           fun κ h1 h2=>⟨⟨lb_cells (lws_cons (lw_int) (lws_cons (lw_slo (h1 1 q rfl)) (lws_cons (lw_ptr (h1 2 l rfl)) (lws_cons (lw_int) lws_nil)))) (by simp),lb_same (by(exact zId)),lb_cells (lws_cons (lw_int) (lws_cons (lw_slo (h2 0 (by simp))) lws_nil)) (by simp),lb_dead,lb_dead,lb_obj (h2 1 (by simp)),lb_dead,trivial⟩,lw_int⟩
          rw [hgl]; exact(og_c sz n kc a nd most d cs k1 k2 k3)
         ·cases hg
      ·cases hg
     ·cases hg
    ·cases hg
   ·cases hg
  ·cases hg
 ·cases hg
def oalG:Gc:=fun args s=>match args,s.g with
 | [.ptr b 0,.int .i64 w],[]=>(match s.h.get b with
   | some (.cells [.int .i64 (.ofNat sz),.slo q 0 n 0,.ptr l 0,.int .i64 nd] none)=>(match s.h.get q with
     | some (.cells kc (some 2))=>(match s.h.get l with
       | some (.cells [.int .i64 most,.slo o 0 d 0] none)=>(match s.h.get o with
         | some (.obj F_o cs e)=>(match s.h.get e with
           | some (.dead)=>cond (nodupB [b,q,l,o,e]) (match s.lay [b,q,l,o,e] [.cells [.int .i64 (.ofNat sz),.slo q 0 n 0,.ptr l 0,.int .i64 (alD sz kc cs w nd)] none,.cells kc (some 2),.cells [.int .i64 most,.slo s.n 0 (alN sz most kc cs w d) 0] none,.dead,.dead] [.obj orF (alC sz most kc cs w) (Nat.succ s.n),.dead] with
             | some s'=>some ([okK sz n kc,okR most cs d,okv sz kc cs,isF F_o orF],.tup [.int .i64 (alV sz most kc cs w),.int .i64 (alE sz most kc cs w)],s')
             | none=>none) none
           | _=>none)
         | _=>none)
       | _=>none)
     | _=>none)
   | _=>none)
 | _,_=>none
theorem oalG_ok:GOk prog 58 oalG:=by
 intro args s bs l s' hg hb hfr
 unfold oalG at hg
 split at hg
 ·rename_i b w hgl
  split at hg
  ·rename_i sz q n l nd hb0
   split at hg
   ·rename_i kc hb1
    split at hg
    ·rename_i most o d hb2
     split at hg
     ·rename_i F_o cs e hb3
      split at hg
      ·rename_i  hb4
       cases hbc:nodupB [b,q,l,o,e] with
       | false=>rw [hbc] at hg; cases hg
       | true =>
         rw [hbc] at hg
         simp only [cond_true] at hg
         split at hg
         ·rename_i s1 hs1
          simp only [Option.some.injEq,Prod.mk.injEq] at hg
          obtain⟨rfl,rfl,rfl⟩:=hg
          simp only [allT_cons] at hb
          obtain⟨k1,k2,k3,k4,_⟩:=hb
          have e_o:=isF_eq k4
          subst e_o
          have no:noIds kc=true:=okK_noids k1
          refine SFun.lay (bs:=[.cells [.int .i64 (.ofNat sz),.slo 1 0 n 0,.ptr 2 0,.int .i64 nd] none,.cells kc (some 2),.cells [.int .i64 most,.slo 3 0 d 0] none,.obj orF cs 4,.dead]) (args0:=[.ptr 0 0,.int .i64 w]) (bs':=[.cells [.int .i64 (.ofNat sz),.slo 1 0 n 0,.ptr 2 0,.int .i64 (alD sz kc cs w nd)] none,.cells kc (some 2),.cells [.int .i64 most,.slo 5 0 (alN sz most kc cs w d) 0] none,.dead,.dead,.obj orF (alC sz most kc cs w) 6,.dead]) (v0:=.tup [.int .i64 (alV sz most kc cs w),.int .i64 (alE sz most kc cs w)]) hfr hs1 (nodupB_nd hbc)
           ⟨⟨there hfr hb0,_,hb0,by first | exact lb_same rfl | exact lb_cells (lws_cons (lw_int) (lws_cons (lw_slo rfl) (lws_cons (lw_ptr rfl) (lws_cons (lw_int) lws_nil)))) (by simp),fun κ hκ=>lb_cells (lws_cons (lw_int) (lws_cons (lw_slo (hκ 1 q rfl)) (lws_cons (lw_ptr (hκ 2 l rfl)) (lws_cons (lw_int) lws_nil)))) (by simp)⟩,⟨there hfr hb1,_,hb1,lb_same (by(exact zId)),fun κ hκ=>lb_same (by(exact zId))⟩,⟨there hfr hb2,_,hb2,by first | exact lb_same rfl | exact lb_cells (lws_cons (lw_int) (lws_cons (lw_slo rfl) lws_nil)) (by simp),fun κ hκ=>lb_cells (lws_cons (lw_int) (lws_cons (lw_slo (hκ 3 o rfl)) lws_nil)) (by simp)⟩,⟨there hfr hb3,_,hb3,lb_obj rfl,fun κ hκ=>lb_obj (hκ 4 e rfl)⟩,⟨there hfr hb4,_,hb4,lb_dead,fun κ hκ=>lb_dead⟩,trivial⟩ (by(exact zTl)) ?_
           fun κ h1 h2=>⟨⟨lb_cells (lws_cons (lw_int) (lws_cons (lw_slo (h1 1 q rfl)) (lws_cons (lw_ptr (h1 2 l rfl)) (lws_cons (lw_int) lws_nil)))) (by simp),lb_same (by(exact zId)),lb_cells (lws_cons (lw_int) (lws_cons (lw_slo (h2 0 (by simp))) lws_nil)) (by simp),lb_dead,lb_dead,lb_obj (h2 1 (by simp)),lb_dead,trivial⟩,lw_noid rfl⟩
          rw [hgl]; exact(oa_c sz n kc w nd most d cs k1 k2 k3)
         ·cases hg
      ·cases hg
     ·cases hg
    ·cases hg
   ·cases hg
  ·cases hg
 ·cases hg
end
end Go.Lev
