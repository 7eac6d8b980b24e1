/- chapter 9: the code's levels: Take as a contract, Put, Free -/
import Derived.Test.YtbeolgofafknmaaGreatDoorCW7
import Derived.Test.YtbeolgofafknmaaGreatDoorLc
import Derived.Test.YtbeolgofafknmaaGreatDoorChecked
import Derived.KernelRfl
namespace Go.Lev
set_option linter.unusedSimpArgs false
set_option linter.unusedVariables false
open Go.RowKit
open Go.Proofs.Tryz (prog)
set_option maxRecDepth 100000
noncomputable section
def ltE (most:Int) (cs c:List LV):Int:=tkE most (decLs cs) (decC c)
def ltD (most:Int) (cs c:List LV):Nat:=(tkC most (decLs cs) (decC c)).length
def ltC (most:Int) (cs c:List LV):List LV:=encLs (tkC most (decLs cs) (decC c))
theorem ltake_c (most:Int) (d nc:Nat) (cs c:List LV) (k1:okR most cs d=true) (k2:okC c nc=true) (k3:xle nc 800000=true):SFun prog 63 [.ptr 0 0,.slo 3 0 nc 0] (mkS (lvS most d cs [.cells c (some 2)])) fun l t=>l=.int .i64 (ltE most cs c)∧t=mkS (lvS' most (ltD most cs c) (ltC most cs c) [.cells c (some 2)]):=by
 obtain⟨ls,rfl,rfl,h,h1,h2⟩:=okR_iff.1 k1
 obtain⟨xs,rfl,rfl,_⟩:=okC_iff.1 k2
 rw [wd_le,decide_eq_true_eq] at k3
 simp only [ltE,ltD,ltC,decLs_enc,decC_enc]
 exact ltake_ok most xs k3 ls h1 h2
def ltakeG:Gc:=fun args s=>match args,s.g with
 | [.ptr b 0,.slo r 0 nc 0],[]=>(match s.h.get b with
   | some (.cells [.int .i64 most,.slo o 0 d 0] none)=>(match s.h.get o with
     | some (.obj F_o cs e)=>(match s.h.get e with
       | some (.dead)=>(match s.h.get r with
         | some (.cells c (some 2))=>cond (nodupB [b,o,e,r]) (match s.lay [b,o,e,r] [.cells [.int .i64 most,.slo o 0 (ltD most cs c) 0] none,.obj lvF (ltC most cs c) s.n,.dead,.cells c (some 2)] [.dead] with
           | some s'=>some ([okR most cs d,okC c nc,xle nc 800000,isF F_o lvF],.int .i64 (ltE most cs c),s')
           | none=>none) none
         | _=>none)
       | _=>none)
     | _=>none)
   | _=>none)
 | _,_=>none
theorem ltakeG_ok:GOk prog 63 ltakeG:=by
 intro args s bs l s' hg hb hfr
 unfold ltakeG at hg
 split at hg
 ·rename_i b r nc hgl
  split at hg
  ·rename_i most o d hb0
   split at hg
   ·rename_i F_o cs e hb1
    split at hg
    ·rename_i  hb2
     split at hg
     ·rename_i c hb3
      cases hbc:nodupB [b,o,e,r] with
      | false=>rw [hbc] at hg; cases hg
      | true =>
        rw [hbc] at hg
        simp only [cond_true] at hg
        split at hg
        ·rename_i s1 hs1
         simp only [Option.some.injEq,Prod.mk.injEq] at hg
         obtain⟨rfl,rfl,rfl⟩:=hg
         simp only [allT_cons] at hb
         obtain⟨k1,k2,k3,k4,_⟩:=hb
         have e_o:=isF_eq k4
         subst e_o
         have no:noIds c=true:=noids_ok k2
         refine SFun.lay (bs:=[.cells [.int .i64 most,.slo 1 0 d 0] none,.obj lvF cs 2,.dead,.cells c (some 2)]) (args0:=[.ptr 0 0,.slo 3 0 nc 0]) (bs':=[.cells [.int .i64 most,.slo 1 0 (ltD most cs c) 0] none,.obj lvF (ltC most cs c) 4,.dead,.cells c (some 2),.dead]) (v0:=.int .i64 (ltE most cs c)) hfr hs1 (nodupB_nd hbc)
          ⟨⟨there hfr hb0,_,hb0,by first | exact lb_same rfl | exact lb_cells (lws_cons (lw_int) (lws_cons (lw_slo rfl) lws_nil)) (by simp),fun κ hκ=>lb_cells (lws_cons (lw_int) (lws_cons (lw_slo (hκ 1 o rfl)) lws_nil)) (by simp)⟩,⟨there hfr hb1,_,hb1,lb_obj rfl,fun κ hκ=>lb_obj (hκ 2 e rfl)⟩,⟨there hfr hb2,_,hb2,lb_dead,fun κ hκ=>lb_dead⟩,⟨there hfr hb3,_,hb3,lb_same (by(exact zId)),fun κ hκ=>lb_same (by(exact zId))⟩,trivial⟩ (by(exact zTl)) ?_
          fun κ h1 h2=>⟨⟨lb_cells (lws_cons (lw_int) (lws_cons (lw_slo (h1 1 o rfl)) lws_nil)) (by simp),lb_obj (h2 0 (by simp)),lb_dead,lb_same (by(exact zId)),lb_dead,trivial⟩,lw_int⟩
         rw [hgl]; exact(ltake_c most d nc cs c k1 k2 k3)
        ·cases hg
     ·cases hg
    ·cases hg
   ·cases hg
  ·cases hg
 ·cases hg
end
end Go.Lev
