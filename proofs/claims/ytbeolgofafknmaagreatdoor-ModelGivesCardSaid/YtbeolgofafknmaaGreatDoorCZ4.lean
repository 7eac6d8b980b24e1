/- chapter 11: Take of two cells that are written out, as a contract; trees of pop and bump -/
import Derived.Test.YtbeolgofafknmaaGreatDoorCZ3
import Derived.Test.YtbeolgofafknmaaGreatDoorLc
import Derived.Test.YtbeolgofafknmaaGreatDoorChecked
import Derived.KernelRfl
namespace Go.Lev
set_option linter.unusedSimpArgs false
set_option linter.unusedVariables false
open Go.RowKit
open Go.Proofs.Tryz (prog)
set_option maxRecDepth 100000
noncomputable section
def vtk2G:Gc:=fun args s=>match args,s.g with
 | [.ptr b 0,.sl r 0 2 2],[]=>(match s.h.get b with
   | some (.cells [.slo q 0 n 0,.slo p 0 sz 0,.int .i64 nd,.ptr l 0] none)=>(match s.h.get q with
     | some (.cells kc (some 2))=>(match s.h.get p with
       | some (.cells sc (some 1))=>(match s.h.get l with
         | some (.cells [.int .i64 most,.slo o 0 d 0] none)=>(match s.h.get o with
           | some (.obj F_o cs e)=>(match s.h.get e with
             | some (.dead)=>(match s.h.get r with
               | some (.cells [.int .i64 a,.int .u64 x,.int .i64 z,.int .u64 y] none)=>cond (nodupB [b,q,p,l,o,e,r]) (match s.lay [b,q,p,l,o,e,r] [.cells [.slo q 0 n 0,.slo p 0 sz 0,.int .i64 nd,.ptr l 0] none,.cells kc (some 2),.cells sc (some 1),.cells [.int .i64 most,.slo o 0 (vtDW sz most cs [.int .i64 a,.int .u64 x,.int .i64 z,.int .u64 y]) 0] none,.obj lvF (vtCW sz most cs [.int .i64 a,.int .u64 x,.int .i64 z,.int .u64 y]) (Nat.succ s.n),.dead,.dead] [.cells [.int .i64 a,.int .u64 x,.int .i64 z,.int .u64 y] (some 2),.dead] with
                 | some s'=>some ([okK sz n kc,eqL sc (spW sz kc),okR most cs d,isF F_o lvF],.int .i64 (vtEW sz most cs [.int .i64 a,.int .u64 x,.int .i64 z,.int .u64 y]),s')
                 | none=>none) none
               | _=>none)
             | _=>none)
           | _=>none)
         | _=>none)
       | _=>none)
     | _=>none)
   | _=>none)
 | _,_=>none
theorem vtk2G_ok:GOk prog 43 vtk2G:=by
 intro args s bs l s' hg hb hfr
 unfold vtk2G at hg
 split at hg
 ·rename_i b r hgl
  split at hg
  ·rename_i q n p sz nd l hb0
   split at hg
   ·rename_i kc hb1
    split at hg
    ·rename_i sc hb2
     split at hg
     ·rename_i most o d hb3
      split at hg
      ·rename_i F_o cs e hb4
       split at hg
       ·rename_i  hb5
        split at hg
        ·rename_i a x z y hb6
         cases hbc:nodupB [b,q,p,l,o,e,r] with
         | false=>rw [hbc] at hg; cases hg
         | true =>
           rw [hbc] at hg
           simp only [cond_true] at hg
           split at hg
           ·rename_i s1 hs1
            simp only [Option.some.injEq,Prod.mk.injEq] at hg
            obtain⟨rfl,rfl,rfl⟩:=hg
            simp only [allT_cons] at hb
            obtain⟨k1,k2,k3,k4,_⟩:=hb
            have e_o:=isF_eq k4
            subst e_o
            have no:noIds kc=true:=okK_noids k1
            have no2:noIds sc=true:=by rw [eqL_eq k2]; exact spW_noids _ _
            refine SFun.lay (bs:=[.cells [.slo 1 0 n 0,.slo 2 0 sz 0,.int .i64 nd,.ptr 3 0] none,.cells kc (some 2),.cells sc (some 1),.cells [.int .i64 most,.slo 4 0 d 0] none,.obj lvF cs 5,.dead,.cells [.int .i64 a,.int .u64 x,.int .i64 z,.int .u64 y] none]) (args0:=[.ptr 0 0,.sl 6 0 2 2]) (bs':=[.cells [.slo 1 0 n 0,.slo 2 0 sz 0,.int .i64 nd,.ptr 3 0] none,.cells kc (some 2),.cells sc (some 1),.cells [.int .i64 most,.slo 4 0 (vtDW sz most cs [.int .i64 a,.int .u64 x,.int .i64 z,.int .u64 y]) 0] none,.obj lvF (vtCW sz most cs [.int .i64 a,.int .u64 x,.int .i64 z,.int .u64 y]) 8,.dead,.dead,.cells [.int .i64 a,.int .u64 x,.int .i64 z,.int .u64 y] (some 2),.dead]) (v0:=.int .i64 (vtEW sz most cs [.int .i64 a,.int .u64 x,.int .i64 z,.int .u64 y])) hfr hs1 (nodupB_nd hbc)
             ⟨⟨there hfr hb0,_,hb0,by first | exact lb_same rfl | exact lb_cells (lws_cons (lw_slo rfl) (lws_cons (lw_slo rfl) (lws_cons (lw_int) (lws_cons (lw_ptr rfl) lws_nil)))) (by simp),fun κ hκ=>lb_cells (lws_cons (lw_slo (hκ 1 q rfl)) (lws_cons (lw_slo (hκ 2 p rfl)) (lws_cons (lw_int) (lws_cons (lw_ptr (hκ 3 l rfl)) lws_nil)))) (by simp)⟩,⟨there hfr hb1,_,hb1,lb_same (by(exact zId)),fun κ hκ=>lb_same (by(exact zId))⟩,⟨there hfr hb2,_,hb2,lb_same (by(exact zId)),fun κ hκ=>lb_same (by(exact zId))⟩,⟨there hfr hb3,_,hb3,by first | exact lb_same rfl | exact lb_cells (lws_cons (lw_int) (lws_cons (lw_slo rfl) lws_nil)) (by simp),fun κ hκ=>lb_cells (lws_cons (lw_int) (lws_cons (lw_slo (hκ 4 o rfl)) lws_nil)) (by simp)⟩,⟨there hfr hb4,_,hb4,lb_obj rfl,fun κ hκ=>lb_obj (hκ 5 e rfl)⟩,⟨there hfr hb5,_,hb5,lb_dead,fun κ hκ=>lb_dead⟩,⟨there hfr hb6,_,hb6,by first | exact lb_same rfl | exact lb_cells (lws_cons (lw_int) (lws_cons (lw_int) (lws_cons (lw_int) (lws_cons (lw_int) lws_nil)))) (by simp),fun κ hκ=>lb_cells (lws_cons (lw_int) (lws_cons (lw_int) (lws_cons (lw_int) (lws_cons (lw_int) lws_nil)))) (by simp)⟩,trivial⟩ (by(exact zTl)) ?_
             fun κ h1 h2=>⟨⟨lb_cells (lws_cons (lw_slo (h1 1 q rfl)) (lws_cons (lw_slo (h1 2 p rfl)) (lws_cons (lw_int) (lws_cons (lw_ptr (h1 3 l rfl)) lws_nil)))) (by simp),lb_same (by(exact zId)),lb_same (by(exact zId)),lb_cells (lws_cons (lw_int) (lws_cons (lw_slo (h1 4 o rfl)) lws_nil)) (by simp),lb_obj (h2 1 (by simp)),lb_dead,lb_dead,lb_cells (lws_cons (lw_int) (lws_cons (lw_int) (lws_cons (lw_int) (lws_cons (lw_int) lws_nil)))) (by simp),lb_dead,trivial⟩,lw_int⟩
            rw [hgl]; exact(vt2_c sz n kc sc nd most d cs a x z y k1 k2 k3)
           ·cases hg
        ·cases hg
       ·cases hg
      ·cases hg
     ·cases hg
    ·cases hg
   ·cases hg
  ·cases hg
 ·cases hg
end
end Go.Lev
