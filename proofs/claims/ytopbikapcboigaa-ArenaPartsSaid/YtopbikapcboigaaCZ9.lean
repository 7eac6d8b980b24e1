/- chapter 11: Take of one cell as a contract; trees of Free and Give -/
import Derived.Test.YtopbikapcboigaaCZ8
import Derived.Test.YtopbikapcboigaaLc
import Derived.Test.YtopbikapcboigaaChecked
import Derived.KernelRfl
namespace Go.Lev
set_option linter.unusedSimpArgs false
set_option linter.unusedVariables false
open Go.RowKit
open Go.Proofs.Try (prog)
set_option maxRecDepth 100000
noncomputable section
abbrev cL1 (a x:Int):List LV:=[.int .i64 a,.int .u64 x]
theorem vt1_c (sz n:Nat) (kc sc:List LV) (nd most:Int) (d:Nat) (cs:List LV) (a x:Int) (k1:okK sz n kc=true) (k2:eqL sc (spW sz kc)=true) (k3:okR most cs d=true):SFun prog 46 [.ptr 0 0,.sl 6 0 1 1] (mkS (vtH2 sz n kc sc nd most d cs (cL1 a x))) fun l t=>l=.int .i64 (vtEW sz most cs (cL1 a x))∧t=mkS (vtO3 sz n kc sc nd most (vtDW sz most cs (cL1 a x)) (vtCW sz most cs (cL1 a x)) (cL1 a x)):=by
 have no:noIds kc=true:=okK_noids k1
 have no2:noIds sc=true:=by rw [eqL_eq k2]; exact spW_noids _ _
 have k4:okC (cL1 a x) 1=true:=okC_enc (xs:=[(a,x)]) (by simp)
 refine SFun.sub (ρ:=lsrc [.id 0,.id 1,.id 2,.id 3,.id 4,.id 5,.id 6,.cap 6 0 1]) (s0:=mkS (vtH3 sz n kc sc nd most d cs (cL1 a x))) (args0:=[.ptr 0 0,.slo 7 0 1 0]) ?_ (lws_cons (lw_ptr rfl) (lws_cons (lw_cap rfl (Nat.le_refl _)) lws_nil)) (vt3_c sz n 1 kc sc nd most d cs (cL1 a x) k1 k2 k3 k4 (t_le (by omega)))
 refine @Sub.of_ok _ 1 [] [] _ [] _ _ mkS_hfr ?_
 show convOk 7 1 [] [] [sN [.slo 1 0 n 0,.slo 2 0 sz 0,.int .i64 nd,.ptr 3 0],sC kc 2,sC sc 1,sN [.int .i64 most,.slo 4 0 d 0],some (.obj lvF cs 5),sD,sN (cL1 a x)] _ [] _
 (exact zD)
def vtk1G:Gc:=fun args s=>match args,s.g with
 | [.ptr b 0,.sl r 0 1 1],[]=>(match s.h.get b with
   | some (.cells [.slo q 0 n 0,.slo p 0 sz 0,.int .i64 nd,.ptr l 0] none)=>(match s.h.get q with
     | some (.cells kc (some 2))=>(match s.h.get p with
       | some (.cells sc (some 1))=>(match s.h.get l with
         | some (.cells [.int .i64 most,.slo o 0 d 0] none)=>(match s.h.get o with
           | some (.obj F_o cs e)=>(match s.h.get e with
             | some (.dead)=>(match s.h.get r with
               | some (.cells [.int .i64 a,.int .u64 x] none)=>cond (nodupB [b,q,p,l,o,e,r]) (match s.lay [b,q,p,l,o,e,r] [.cells [.slo q 0 n 0,.slo p 0 sz 0,.int .i64 nd,.ptr l 0] none,.cells kc (some 2),.cells sc (some 1),.cells [.int .i64 most,.slo o 0 (vtDW sz most cs [.int .i64 a,.int .u64 x]) 0] none,.obj lvF (vtCW sz most cs [.int .i64 a,.int .u64 x]) (Nat.succ s.n),.dead,.dead] [.cells [.int .i64 a,.int .u64 x] (some 2),.dead] with
                 | some s'=>some ([okK sz n kc,eqL sc (spW sz kc),okR most cs d,isF F_o lvF],.int .i64 (vtEW sz most cs [.int .i64 a,.int .u64 x]),s')
                 | none=>none) none
               | _=>none)
             | _=>none)
           | _=>none)
         | _=>none)
       | _=>none)
     | _=>none)
   | _=>none)
 | _,_=>none
theorem vtk1G_ok:GOk prog 46 vtk1G:=by
 intro args s bs l s' hg hb hfr
 unfold vtk1G at hg
 split at hg
 ·rename_i b r hgl
  split at hg
  ·rename_i q n p sz nd l hb0
   split at hg
   ·rename_i kc hb1
    split at hg
    ·rename_i sc hb2
     split at hg
     ·rename_i most o d hb3
      split at hg
      ·rename_i F_o cs e hb4
       split at hg
       ·rename_i  hb5
        split at hg
        ·rename_i a x hb6
         cases hbc:nodupB [b,q,p,l,o,e,r] with
         | false=>rw [hbc] at hg; cases hg
         | true =>
           rw [hbc] at hg
           simp only [cond_true] at hg
           split at hg
           ·rename_i s1 hs1
            simp only [Option.some.injEq,Prod.mk.injEq] at hg
            obtain⟨rfl,rfl,rfl⟩:=hg
            simp only [allT_cons] at hb
            obtain⟨k1,k2,k3,k4,_⟩:=hb
            have e_o:=isF_eq k4
            subst e_o
            have no:noIds kc=true:=okK_noids k1
            have no2:noIds sc=true:=by rw [eqL_eq k2]; exact spW_noids _ _
            refine SFun.lay (bs:=[.cells [.slo 1 0 n 0,.slo 2 0 sz 0,.int .i64 nd,.ptr 3 0] none,.cells kc (some 2),.cells sc (some 1),.cells [.int .i64 most,.slo 4 0 d 0] none,.obj lvF cs 5,.dead,.cells [.int .i64 a,.int .u64 x] none]) (args0:=[.ptr 0 0,.sl 6 0 1 1]) (bs':=[.cells [.slo 1 0 n 0,.slo 2 0 sz 0,.int .i64 nd,.ptr 3 0] none,.cells kc (some 2),.cells sc (some 1),.cells [.int .i64 most,.slo 4 0 (vtDW sz most cs [.int .i64 a,.int .u64 x]) 0] none,.obj lvF (vtCW sz most cs [.int .i64 a,.int .u64 x]) 8,.dead,.dead,.cells [.int .i64 a,.int .u64 x] (some 2),.dead]) (v0:=.int .i64 (vtEW sz most cs [.int .i64 a,.int .u64 x])) hfr hs1 (nodupB_nd hbc)
             ⟨⟨there hfr hb0,_,hb0,by first | exact lb_same rfl | exact lb_cells (lws_cons (lw_slo rfl) (lws_cons (lw_slo rfl) (lws_cons (lw_int) (lws_cons (lw_ptr rfl) lws_nil)))) (by simp),fun κ hκ=>lb_cells (lws_cons (lw_slo (hκ 1 q rfl)) (lws_cons (lw_slo (hκ 2 p rfl)) (lws_cons (lw_int) (lws_cons (lw_ptr (hκ 3 l rfl)) lws_nil)))) (by simp)⟩,⟨there hfr hb1,_,hb1,lb_same (by(exact zId)),fun κ hκ=>lb_same (by(exact zId))⟩,⟨there hfr hb2,_,hb2,lb_same (by(exact zId)),fun κ hκ=>lb_same (by(exact zId))⟩,⟨there hfr hb3,_,hb3,by first | exact lb_same rfl | exact lb_cells (lws_cons (lw_int) (lws_cons (lw_slo rfl) lws_nil)) (by simp),fun κ hκ=>lb_cells (lws_cons (lw_int) (lws_cons (lw_slo (hκ 4 o rfl)) lws_nil)) (by simp)⟩,⟨there hfr hb4,_,hb4,lb_obj rfl,fun κ hκ=>lb_obj (hκ 5 e rfl)⟩,⟨there hfr hb5,_,hb5,lb_dead,fun κ hκ=>lb_dead⟩,⟨there hfr hb6,_,hb6,by first | exact lb_same rfl | exact lb_cells (lws_cons (lw_int) (lws_cons (lw_int) lws_nil)) (by simp),fun κ hκ=>lb_cells (lws_cons (lw_int) (lws_cons (lw_int) lws_nil)) (by simp)⟩,trivial⟩ (by(exact zTl)) ?_
             fun κ h1 h2=>⟨⟨lb_cells (lws_cons (lw_slo (h1 1 q rfl)) (lws_cons (lw_slo (h1 2 p rfl)) (lws_cons (lw_int) (lws_cons (lw_ptr (h1 3 l rfl)) lws_nil)))) (by simp),lb_same (by(exact zId)),lb_same (by(exact zId)),lb_cells (lws_cons (lw_int) (lws_cons (lw_slo (h1 4 o rfl)) lws_nil)) (by simp),lb_obj (h2 1 (by simp)),lb_dead,lb_dead,lb_cells (lws_cons (lw_int) (lws_cons (lw_int) lws_nil)) (by simp),lb_dead,trivial⟩,lw_int⟩
            rw [hgl]; exact(vt1_c sz n kc sc nd most d cs a x k1 k2 k3)
           ·cases hg
        ·cases hg
       ·cases hg
      ·cases hg
     ·cases hg
    ·cases hg
   ·cases hg
  ·cases hg
 ·cases hg
def cxfr:Cx:=cxl [(46,vtk1G),(73,lfreeG),(45,islvG),(44,hdrG)]
def cxgv:Cx:=cxl [(40,rdG),(46,vtk2G),(41,headG),(48,isclG),(44,hdrG)]
abbrev frx_b1 (sz:Nat) (n:Nat) (a:Int) (nd:Int) (most:Int) (d:Nat) (kc:List LV) (sc:List LV) (cs:List LV):List (Option LB):=[sN [.slo 1 0 n 0,.slo 2 0 sz 0,.int .i64 (hrD sz kc cs a nd),.ptr 3 0],sC kc 2,sC sc 1,sN [.int .i64 most,.slo 4 0 d 0],some (.obj lvF cs 6),sD,sD]
theorem frx (sz n:Nat) (a nd most:Int) (d:Nat) (kc sc cs:List LV) (K:Fk):(xfun prog cxfr 60 13 [.ptr 0 0,.int .i64 a] (mkS (vwH sz n kc sc nd most d cs)) (vF K))=(
 ck (okK sz n kc) <|
 ck (eqL sc (spW sz kc)) <|
 ck (okR most cs d) <|
 ck (isF lvF lvF) <|
 bif xcm .neq (hrE sz kc cs a) 0 then(
 K (.int .i64 (hrE sz kc cs a)) (frx_b1 sz n a nd most d kc sc cs) [])
 else(
 bif xnot (ilW (hrV sz kc cs a)) then(
 K (.int .i64 2) (frx_b1 sz n a nd most d kc sc cs) [])
 else(
 ck (okK sz n kc) <|
 ck (eqL sc (spW sz kc)) <|
 ck (okR most cs d) <|
 ck (isF lvF lvF) <|
 bif xcm .neq (vtEW sz most cs [.int .i64 (xar .sub .i64 a 1),.int .u64 (xar .sub .u64 (hrV sz kc cs a) 8)]) 0 then(
 K (.int .i64 (vtEW sz most cs [.int .i64 (xar .sub .i64 a 1),.int .u64 (xar .sub .u64 (hrV sz kc cs a) 8)])) [sN [.slo 1 0 n 0,.slo 2 0 sz 0,.int .i64 (hrD sz kc cs a nd),.ptr 3 0],sC kc 2,sC sc 1,sN [.int .i64 most,.slo 4 0 (vtDW sz most cs [.int .i64 (xar .sub .i64 a 1),.int .u64 (xar .sub .u64 (hrV sz kc cs a) 8)]) 0],some (.obj lvF (vtCW sz most cs [.int .i64 (xar .sub .i64 a 1),.int .u64 (xar .sub .u64 (hrV sz kc cs a) 8)]) 9),sD,sD,sD,sC [.int .i64 (xar .sub .i64 a 1),.int .u64 (xar .sub .u64 (hrV sz kc cs a) 8)] 2,sD] [])
 else(
 ck (okR most (vtCW sz most cs [.int .i64 (xar .sub .i64 a 1),.int .u64 (xar .sub .u64 (hrV sz kc cs a) 8)]) (vtDW sz most cs [.int .i64 (xar .sub .i64 a 1),.int .u64 (xar .sub .u64 (hrV sz kc cs a) 8)])) <|
 ck (okF (vtCW sz most cs [.int .i64 (xar .sub .i64 a 1),.int .u64 (xar .sub .u64 (hrV sz kc cs a) 8)])) <|
 ck (isF lvF lvF) <|
 K (.int .i64 0) [sN [.slo 1 0 n 0,.slo 2 0 sz 0,.int .i64 (hrD sz kc cs a nd),.ptr 3 0],sC kc 2,sC sc 1,sN [.int .i64 most,.slo 4 0 (lfD (vtCW sz most cs [.int .i64 (xar .sub .i64 a 1),.int .u64 (xar .sub .u64 (hrV sz kc cs a) 8)]) a) 0],some (.obj lvF (lfC (vtCW sz most cs [.int .i64 (xar .sub .i64 a 1),.int .u64 (xar .sub .u64 (hrV sz kc cs a) 8)]) a) 10),sD,sD,sD,sC [.int .i64 (xar .sub .i64 a 1),.int .u64 (xar .sub .u64 (hrV sz kc cs a) 8)] 2,sD,sD] [])))):=by kernel_rfl
abbrev gvx_b1 (sz:Nat) (n:Nat) (a:Int) (nd:Int) (most:Int) (d:Nat) (kc:List LV) (sc:List LV) (cs:List LV):List (Option LB):=[sN [.slo 1 0 n 0,.slo 2 0 sz 0,.int .i64 (hrD sz kc cs a nd),.ptr 3 0],sC kc 2,sC sc 1,sN [.int .i64 most,.slo 4 0 d 0],some (.obj lvF cs 6),sD,sD]
theorem gvx (sz n:Nat) (a nd most:Int) (d:Nat) (kc sc cs:List LV) (K:Fk):(xfun prog cxgv 60 14 [.ptr 0 0,.int .i64 a] (mkS (vwH sz n kc sc nd most d cs)) (vF K))=(
 ck (okK sz n kc) <|
 ck (eqL sc (spW sz kc)) <|
 ck (okR most cs d) <|
 ck (isF lvF lvF) <|
 bif xcm .neq (hrE sz kc cs a) 0 then(
 K (.int .i64 (hrE sz kc cs a)) (gvx_b1 sz n a nd most d kc sc cs) [])
 else(
 bif xnot (icW (hrV sz kc cs a)) then(
 K (.int .i64 2) (gvx_b1 sz n a nd most d kc sc cs) [])
 else(
 ck (okK sz n kc) <|
 ck (eqL sc (spW sz kc)) <|
 ck (okR most cs d) <|
 ck (isF lvF lvF) <|
 bif xcm .neq (rdEW sz kc cs (heW (xwr .i64 (hrV sz kc cs a)))) 0 then(
 K (.int .i64 (rdEW sz kc cs (heW (xwr .i64 (hrV sz kc cs a))))) [sN [.slo 1 0 n 0,.slo 2 0 sz 0,.int .i64 (rdDW sz kc cs (heW (xwr .i64 (hrV sz kc cs a))) (hrD sz kc cs a nd)),.ptr 3 0],sC kc 2,sC sc 1,sN [.int .i64 most,.slo 4 0 d 0],some (.obj lvF cs 7),sD,sD,sD] [])
 else(
 ck (okK sz n kc) <|
 ck (eqL sc (spW sz kc)) <|
 ck (okR most cs d) <|
 ck (isF lvF lvF) <|
 K (.int .i64 (vtEW sz most cs [.int .i64 a,.int .u64 (rdVW sz kc cs (heW (xwr .i64 (hrV sz kc cs a)))),.int .i64 (heW (xwr .i64 (hrV sz kc cs a))),.int .u64 (xwr .u64 a)])) [sN [.slo 1 0 n 0,.slo 2 0 sz 0,.int .i64 (rdDW sz kc cs (heW (xwr .i64 (hrV sz kc cs a))) (hrD sz kc cs a nd)),.ptr 3 0],sC kc 2,sC sc 1,sN [.int .i64 most,.slo 4 0 (vtDW sz most cs [.int .i64 a,.int .u64 (rdVW sz kc cs (heW (xwr .i64 (hrV sz kc cs a)))),.int .i64 (heW (xwr .i64 (hrV sz kc cs a))),.int .u64 (xwr .u64 a)]) 0],some (.obj lvF (vtCW sz most cs [.int .i64 a,.int .u64 (rdVW sz kc cs (heW (xwr .i64 (hrV sz kc cs a)))),.int .i64 (heW (xwr .i64 (hrV sz kc cs a))),.int .u64 (xwr .u64 a)]) 10),sD,sD,sD,sD,sC [.int .i64 a,.int .u64 (rdVW sz kc cs (heW (xwr .i64 (hrV sz kc cs a)))),.int .i64 (heW (xwr .i64 (hrV sz kc cs a))),.int .u64 (xwr .u64 a)] 2,sD] [])))):=by kernel_rfl
end
end Go.Lev
