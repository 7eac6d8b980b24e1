/- ViewPlays: Take as contracts; place; what an ask does -/
import Derived.Test.YtopbikapcboigaaCV4
import Derived.Test.YtopbikapcboigaaLc
import Derived.Test.YtopbikapcboigaaChecked
import Derived.KernelRfl
namespace Go.Lev
set_option linter.unusedSimpArgs false
set_option linter.unusedVariables false
open Go.RowKit
open Go.Proofs.Try (prog)
set_option maxRecDepth 100000
noncomputable section
theorem within_x (a lo hi:Int) (K:Fk):(xfun prog (fun _=>none) 40 35 [.int .i64 a,.int .i64 lo,.int .i64 hi] (mkS []) (vF K))=(
 ck (xcm .neq (xar .add .i64 (xar .sub .i64 hi lo) 1) 0) <|
 bif xcm .lss (xar .rem .i64 a (xar .add .i64 (xar .sub .i64 hi lo) 1)) 0 then(
 K (.int .i64 (xar .add .i64 lo (xar .add .i64 (xar .sub .i64 (xar .add .i64 (xar .rem .i64 a (xar .add .i64 (xar .sub .i64 hi lo) 1)) hi) lo) 1))) [] [])
 else(
 K (.int .i64 (xar .add .i64 lo (xar .rem .i64 a (xar .add .i64 (xar .sub .i64 hi lo) 1)))) [] [])):=by kernel_rfl
def wthV (a lo hi:Int):Int:=lo+a % (hi - lo+1)
def withinG:Gc:=fun args s=>match args,s.g with
 | [.int .i64 a,.int .i64 lo,.int .i64 hi],[]=>some ([xcm .leq lo hi,xcm .leq (-1000000) lo,xcm .leq hi 1000000],.int .i64 (wthV a lo hi),s)
 | _,_=>none
theorem tmod_pos (a m:Int) (hm:0 < m) : -m < a.tmod m∧a.tmod m < m∧(a.tmod m=a % m∨(a.tmod m < 0∧a.tmod m+m=a % m)):=by
 have hb:=Int.emod_nonneg a (b:=m) (by omega)
 have hc:=Int.emod_lt_of_pos a hm
 rcases Int.lt_or_le a 0 with h | h
 ·have e:a.tmod m = -((-a).tmod m):=by have:=Int.neg_tmod (-a) m; rw [Int.neg_neg] at this; exact this
  have h6:0≤(-a).tmod m:=Int.tmod_nonneg _ (by omega)
  have h7:(-a).tmod m < m:=Int.tmod_lt_of_pos _ hm
  refine⟨by omega,by omega,?_⟩
  have h8:m ∣ a - a.tmod m:=Int.dvd_self_sub_tmod
  have h9:m ∣ a - a % m:=Int.dvd_self_sub_emod
  obtain⟨u,hu⟩:=h8
  obtain⟨v,hv⟩:=h9
  have hd:a % m - a.tmod m=m * (u - v):=by rw [Int.mul_sub]; omega
  by_cases h0:u - v ≤ -1
  ·have:m * (u - v)≤m * (-1):=Int.mul_le_mul_of_nonneg_left h0 (by omega)
   omega
  ·by_cases h1:u - v=0
   ·rw [h1] at hd; simp at hd; exact .inl (by omega)
   ·by_cases h2:u - v=1
    ·rw [h2] at hd; simp at hd; exact .inr ⟨by omega,by omega⟩
    ·have:m * 2≤m * (u - v):=Int.mul_le_mul_of_nonneg_left (by omega) (by omega)
     omega
 ·have h6:=Int.tmod_nonneg m h
  exact⟨by omega,Int.tmod_lt_of_pos _ hm,.inl (Int.tmod_eq_emod_of_nonneg h)⟩
theorem wthV_in {a lo hi:Int} (h:lo≤hi):lo≤wthV a lo hi∧wthV a lo hi≤hi:=by
 simp only [wthV]
 have hb:=Int.emod_nonneg a (b:=hi - lo+1) (by omega)
 have hc:=Int.emod_lt_of_pos a (b:=hi - lo+1) (by omega)
 omega
theorem within_ok (a lo hi:Int) (h:lo≤hi) (h1 : -1000000≤lo) (h2:hi≤1000000):SFun prog 35 [.int .i64 a,.int .i64 lo,.int .i64 hi] (mkS []) fun l s=>l=.int .i64 (wthV a lo hi)∧s=mkS []:=by
 refine SFun.mono (SFun.vc (Q:=fun l b=>l=.int .i64 (wthV a lo hi)∧b=[]) noCx_ok (n:=40) 0 rfl ?_) fun l s' ⟨b0,⟨h1,h2⟩,h3⟩=>⟨h1,by rw [h3,h2]⟩
 have hq:=Int.emod_nonneg a (b:=hi - lo+1) (by omega)
 have e1:xar .sub .i64 hi lo=hi - lo:=sub_i64 (by omega) (by omega)
 have e2:xar .add .i64 (hi - lo) 1=hi - lo+1:=add_i64 (by omega) (by omega)
 have e3:xar .rem .i64 a (hi - lo+1)=a.tmod (hi - lo+1):=xar_rem _ _ _ (by omega)
 obtain⟨t1,t2,t3⟩:=tmod_pos a (hi - lo+1) (by omega)
 rw [within_x,e1,e2,e3]
 refine must (t_neq (by omega)) ?_
 rw [xcm_lss]
 refine ite_way (fun hn=>?_) (fun hn=>?_)
 ·have e:xar .add .i64 lo (xar .add .i64 (xar .sub .i64 (xar .add .i64 (a.tmod (hi - lo+1)) hi) lo) 1)=wthV a lo hi:=by
   simp only [wthV]
   rw [add_i64 (x:=a.tmod (hi - lo+1)) (by omega) (by omega),sub_i64 (by omega) (by omega),add_i64 (x:=a.tmod (hi - lo+1)+hi - lo) (by omega) (by omega),add_i64 (by omega) (by omega)]
   omega
  rw [e]
  exact⟨rfl,_,[],[],⟨rfl,rfl⟩,by(exact zC)⟩
 ·have e:xar .add .i64 lo (a.tmod (hi - lo+1))=wthV a lo hi:=by
   simp only [wthV]
   rw [add_i64 (by omega) (by omega)]; omega
  rw [e]
  exact⟨rfl,_,[],[],⟨rfl,rfl⟩,by(exact zC)⟩
theorem withinG_ok:GOk prog 35 withinG:=by
 intro args s bs l s' hg hb hfr
 unfold withinG at hg
 split at hg
 ·rename_i a lo hi hgl
  simp only [Option.some.injEq,Prod.mk.injEq] at hg
  obtain⟨rfl,rfl,rfl⟩:=hg
  obtain⟨k1,hb⟩:=allT_cons.1 hb
  obtain⟨k2,hb⟩:=allT_cons.1 hb
  have k3:=(allT_cons.1 hb).1
  rw [xcm_leq,decide_eq_true_eq] at k1 k2 k3
  exact SFun.pure hfr hgl rfl rfl (within_ok a lo hi k1 k2 k3)
 ·cases hg
section
variable {P:Program}
end
theorem okn:okC [] 0=true:=okC_enc (xs:=[]) (by simp)
theorem vt_c (sz n nc:Nat) (kc sc:List LV) (nd most:Int) (d:Nat) (cs c:List LV) (k1:okK sz n kc=true) (k2:sc=spW sz kc) (k3:okR most cs d=true) (k4:okC c nc=true) (k5:xle nc 800000=true):SFun prog 46 [.ptr 0 0,.slo 6 0 nc 0] (mkS (vtH sz n kc sc nd most d cs c)) fun l t=>l=.int .i64 (vtEW sz most cs c)∧t=mkS (vtO sz n kc sc nd most (vtDW sz most cs c) (vtCW sz most cs c) c):=by
 obtain⟨ks,rfl,rfl,h⟩:=okK_iff.1 k1
 obtain⟨ls,rfl,rfl,h1,h2,h3⟩:=okR_iff.1 k3
 obtain⟨xs,rfl,rfl,h4⟩:=okC_iff.1 k4
 rw [wd_le,decide_eq_true_eq] at k5
 simp only [vtEW,vtDW,vtCW,decC_enc,decLs_enc]
 exact vt_ok sz _ _ _ (noids_c _) (by rw [k2]; exact spW_noids _ _) h.s nd most ls h1 h2 h3 xs k5
def vtkG:Gc:=fun args s=>match args,s.g with
 | [.ptr b 0,.slo r 0 nc 0],[]=>(match s.h.get b with
   | some (.cells [.slo q 0 n 0,.slo p 0 sz 0,.int .i64 nd,.ptr l 0] none)=>(match s.h.get q with
     | some (.cells kc (some 2))=>(match s.h.get p with
       | some (.cells sc (some 1))=>(match s.h.get l with
         | some (.cells [.int .i64 most,.slo o 0 d 0] none)=>(match s.h.get o with
           | some (.obj F_o cs e)=>(match s.h.get e with
             | some (.dead)=>(match s.h.get r with
               | some (.cells c (some 2))=>cond (nodupB [b,q,p,l,o,e,r]) (match s.lay [b,q,p,l,o,e,r] [.cells [.slo q 0 n 0,.slo p 0 sz 0,.int .i64 nd,.ptr l 0] none,.cells kc (some 2),.cells sc (some 1),.cells [.int .i64 most,.slo o 0 (vtDW sz most cs c) 0] none,.obj lvF (vtCW sz most cs c) s.n,.dead,.cells c (some 2)] [.dead] with
                 | some s'=>some ([okK sz n kc,eqL sc (spW sz kc),okR most cs d,okC c nc,xle nc 800000,isF F_o lvF],.int .i64 (vtEW sz most cs c),s')
                 | none=>none) none
               | _=>none)
             | _=>none)
           | _=>none)
         | _=>none)
       | _=>none)
     | _=>none)
   | _=>none)
 | _,_=>none
theorem vtkG_ok:GOk prog 46 vtkG:=by
 intro args s bs l s' hg hb hfr
 unfold vtkG at hg
 split at hg
 ·rename_i b r nc hgl
  split at hg
  ·rename_i q n p sz nd l hb0
   split at hg
   ·rename_i kc hb1
    split at hg
    ·rename_i sc hb2
     split at hg
     ·rename_i most o d hb3
      split at hg
      ·rename_i F_o cs e hb4
       split at hg
       ·rename_i  hb5
        split at hg
        ·rename_i c hb6
         cases hbc:nodupB [b,q,p,l,o,e,r] with
         | false=>rw [hbc] at hg; cases hg
         | true =>
           rw [hbc] at hg
           simp only [cond_true] at hg
           split at hg
           ·rename_i s1 hs1
            simp only [Option.some.injEq,Prod.mk.injEq] at hg
            obtain⟨rfl,rfl,rfl⟩:=hg
            simp only [allT_cons] at hb
            obtain⟨k1,k2,k3,k4,k5,k6,_⟩:=hb
            have e_o:=isF_eq k6
            subst e_o
            replace k2:=eqL_eq k2
            have no:noIds kc=true:=okK_noids k1
            have no2:noIds sc=true:=by rw [k2]; exact spW_noids _ _
            have no3:noIds c=true:=noids_ok k4
            refine SFun.lay (bs:=[.cells [.slo 1 0 n 0,.slo 2 0 sz 0,.int .i64 nd,.ptr 3 0] none,.cells kc (some 2),.cells sc (some 1),.cells [.int .i64 most,.slo 4 0 d 0] none,.obj lvF cs 5,.dead,.cells c (some 2)]) (args0:=[.ptr 0 0,.slo 6 0 nc 0]) (bs':=[.cells [.slo 1 0 n 0,.slo 2 0 sz 0,.int .i64 nd,.ptr 3 0] none,.cells kc (some 2),.cells sc (some 1),.cells [.int .i64 most,.slo 4 0 (vtDW sz most cs c) 0] none,.obj lvF (vtCW sz most cs c) 7,.dead,.cells c (some 2),.dead]) (v0:=.int .i64 (vtEW sz most cs c)) hfr hs1 (nodupB_nd hbc)
             ⟨⟨there hfr hb0,_,hb0,by first | exact lb_same rfl | exact lb_cells (lws_cons (lw_slo rfl) (lws_cons (lw_slo rfl) (lws_cons (lw_int) (lws_cons (lw_ptr rfl) lws_nil)))) (by simp),fun κ hκ=>lb_cells (lws_cons (lw_slo (hκ 1 q rfl)) (lws_cons (lw_slo (hκ 2 p rfl)) (lws_cons (lw_int) (lws_cons (lw_ptr (hκ 3 l rfl)) lws_nil)))) (by simp)⟩,⟨there hfr hb1,_,hb1,lb_same (by(exact zId)),fun κ hκ=>lb_same (by(exact zId))⟩,⟨there hfr hb2,_,hb2,lb_same (by(exact zId)),fun κ hκ=>lb_same (by(exact zId))⟩,⟨there hfr hb3,_,hb3,by first | exact lb_same rfl | exact lb_cells (lws_cons (lw_int) (lws_cons (lw_slo rfl) lws_nil)) (by simp),fun κ hκ=>lb_cells (lws_cons (lw_int) (lws_cons (lw_slo (hκ 4 o rfl)) lws_nil)) (by simp)⟩,⟨there hfr hb4,_,hb4,lb_obj rfl,fun κ hκ=>lb_obj (hκ 5 e rfl)⟩,⟨there hfr hb5,_,hb5,lb_dead,fun κ hκ=>lb_dead⟩,⟨there hfr hb6,_,hb6,lb_same (by(exact zId)),fun κ hκ=>lb_same (by(exact zId))⟩,trivial⟩ (by(exact zTl)) ?_
             fun κ h1 h2=>⟨⟨lb_cells (lws_cons (lw_slo (h1 1 q rfl)) (lws_cons (lw_slo (h1 2 p rfl)) (lws_cons (lw_int) (lws_cons (lw_ptr (h1 3 l rfl)) lws_nil)))) (by simp),lb_same (by(exact zId)),lb_same (by(exact zId)),lb_cells (lws_cons (lw_int) (lws_cons (lw_slo (h1 4 o rfl)) lws_nil)) (by simp),lb_obj (h2 0 (by simp)),lb_dead,lb_same (by(exact zId)),lb_dead,trivial⟩,lw_int⟩
            rw [hgl]; exact(vt_c sz n nc kc sc nd most d cs c k1 k2 k3 k4 k5)
           ·cases hg
        ·cases hg
       ·cases hg
      ·cases hg
     ·cases hg
    ·cases hg
   ·cases hg
  ·cases hg
 ·cases hg
end
end Go.Lev
