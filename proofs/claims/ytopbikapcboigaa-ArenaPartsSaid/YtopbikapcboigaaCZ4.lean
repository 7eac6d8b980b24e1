/- chapter 11: Take of two cells that are written out, as a contract; trees of pop and bump -/
import Derived.Test.YtopbikapcboigaaCZ3
import Derived.Test.YtopbikapcboigaaLc
import Derived.Test.YtopbikapcboigaaChecked
import Derived.KernelRfl
namespace Go.Lev
set_option linter.unusedSimpArgs false
set_option linter.unusedVariables false
open Go.RowKit
open Go.Proofs.Try (prog)
set_option maxRecDepth 100000
noncomputable section
def vtk2G:Gc:=fun args s=>match args,s.g with
 | [.ptr b 0,.sl r 0 2 2],[]=>(match s.h.get b with
   | some (.cells [.slo q 0 n 0,.slo p 0 sz 0,.int .i64 nd,.ptr l 0] none)=>(match s.h.get q with
     | some (.cells kc (some 2))=>(match s.h.get p with
       | some (.cells sc (some 1))=>(match s.h.get l with
         | some (.cells [.int .i64 most,.slo o 0 d 0] none)=>(match s.h.get o with
           | some (.obj F_o cs e)=>(match s.h.get e with
             | some (.dead)=>(match s.h.get r with
               | some (.cells [.int .i64 a,.int .u64 x,.int .i64 z,.int .u64 y] none)=>cond (nodupB [b,q,p,l,o,e,r]) (match s.lay [b,q,p,l,o,e,r] [.cells [.slo q 0 n 0,.slo p 0 sz 0,.int .i64 nd,.ptr l 0] none,.cells kc (some 2),.cells sc (some 1),.cells [.int .i64 most,.slo o 0 (vtDW sz most cs [.int .i64 a,.int .u64 x,.int .i64 z,.int .u64 y]) 0] none,.obj lvF (vtCW sz most cs [.int .i64 a,.int .u64 x,.int .i64 z,.int .u64 y]) (Nat.succ s.n),.dead,.dead] [.cells [.int .i64 a,.int .u64 x,.int .i64 z,.int .u64 y] (some 2),.dead] with
                 | some s'=>some ([okK sz n kc,eqL sc (spW sz kc),okR most cs d,isF F_o lvF],.int .i64 (vtEW sz most cs [.int .i64 a,.int .u64 x,.int .i64 z,.int .u64 y]),s')
                 | none=>none) none
               | _=>none)
             | _=>none)
           | _=>none)
         | _=>none)
       | _=>none)
     | _=>none)
   | _=>none)
 | _,_=>none
theorem vtk2G_ok:GOk prog 46 vtk2G:=by
 intro args s bs l s' hg hb hfr
 unfold vtk2G at hg
 split at hg
 ·rename_i b r hgl
  split at hg
  ·rename_i q n p sz nd l hb0
   split at hg
   ·rename_i kc hb1
    split at hg
    ·rename_i sc hb2
     split at hg
     ·rename_i most o d hb3
      split at hg
      ·rename_i F_o cs e hb4
       split at hg
       ·rename_i  hb5
        split at hg
        ·rename_i a x z y hb6
         cases hbc:nodupB [b,q,p,l,o,e,r] with
         | false=>rw [hbc] at hg; cases hg
         | true =>
           rw [hbc] at hg
           simp only [cond_true] at hg
           split at hg
           ·rename_i s1 hs1
            simp only [Option.some.injEq,Prod.mk.injEq] at hg
            obtain⟨rfl,rfl,rfl⟩:=hg
            simp only [allT_cons] at hb
            obtain⟨k1,k2,k3,k4,_⟩:=hb
            have e_o:=isF_eq k4
            subst e_o
            have no:noIds kc=true:=okK_noids k1
            have no2:noIds sc=true:=by rw [eqL_eq k2]; exact spW_noids _ _
            refine SFun.lay (bs:=[.cells [.slo 1 0 n 0,.slo 2 0 sz 0,.int .i64 nd,.ptr 3 0] none,.cells kc (some 2),.cells sc (some 1),.cells [.int .i64 most,.slo 4 0 d 0] none,.obj lvF cs 5,.dead,.cells [.int .i64 a,.int .u64 x,.int .i64 z,.int .u64 y] none]) (args0:=[.ptr 0 0,.sl 6 0 2 2]) (bs':=[.cells [.slo 1 0 n 0,.slo 2 0 sz 0,.int .i64 nd,.ptr 3 0] none,.cells kc (some 2),.cells sc (some 1),.cells [.int .i64 most,.slo 4 0 (vtDW sz most cs [.int .i64 a,.int .u64 x,.int .i64 z,.int .u64 y]) 0] none,.obj lvF (vtCW sz most cs [.int .i64 a,.int .u64 x,.int .i64 z,.int .u64 y]) 8,.dead,.dead,.cells [.int .i64 a,.int .u64 x,.int .i64 z,.int .u64 y] (some 2),.dead]) (v0:=.int .i64 (vtEW sz most cs [.int .i64 a,.int .u64 x,.int .i64 z,.int .u64 y])) hfr hs1 (nodupB_nd hbc)
             ⟨⟨there hfr hb0,_,hb0,by first | exact lb_same rfl | exact lb_cells (lws_cons (lw_slo rfl) (lws_cons (lw_slo rfl) (lws_cons (lw_int) (lws_cons (lw_ptr rfl) lws_nil)))) (by simp),fun κ hκ=>lb_cells (lws_cons (lw_slo (hκ 1 q rfl)) (lws_cons (lw_slo (hκ 2 p rfl)) (lws_cons (lw_int) (lws_cons (lw_ptr (hκ 3 l rfl)) lws_nil)))) (by simp)⟩,⟨there hfr hb1,_,hb1,lb_same (by(exact zId)),fun κ hκ=>lb_same (by(exact zId))⟩,⟨there hfr hb2,_,hb2,lb_same (by(exact zId)),fun κ hκ=>lb_same (by(exact zId))⟩,⟨there hfr hb3,_,hb3,by first | exact lb_same rfl | exact lb_cells (lws_cons (lw_int) (lws_cons (lw_slo rfl) lws_nil)) (by simp),fun κ hκ=>lb_cells (lws_cons (lw_int) (lws_cons (lw_slo (hκ 4 o rfl)) lws_nil)) (by simp)⟩,⟨there hfr hb4,_,hb4,lb_obj rfl,fun κ hκ=>lb_obj (hκ 5 e rfl)⟩,⟨there hfr hb5,_,hb5,lb_dead,fun κ hκ=>lb_dead⟩,⟨there hfr hb6,_,hb6,by first | exact lb_same rfl | exact lb_cells (lws_cons (lw_int) (lws_cons (lw_int) (lws_cons (lw_int) (lws_cons (lw_int) lws_nil)))) (by simp),fun κ hκ=>lb_cells (lws_cons (lw_int) (lws_cons (lw_int) (lws_cons (lw_int) (lws_cons (lw_int) lws_nil)))) (by simp)⟩,trivial⟩ (by(exact zTl)) ?_
             fun κ h1 h2=>⟨⟨lb_cells (lws_cons (lw_slo (h1 1 q rfl)) (lws_cons (lw_slo (h1 2 p rfl)) (lws_cons (lw_int) (lws_cons (lw_ptr (h1 3 l rfl)) lws_nil)))) (by simp),lb_same (by(exact zId)),lb_same (by(exact zId)),lb_cells (lws_cons (lw_int) (lws_cons (lw_slo (h1 4 o rfl)) lws_nil)) (by simp),lb_obj (h2 1 (by simp)),lb_dead,lb_dead,lb_cells (lws_cons (lw_int) (lws_cons (lw_int) (lws_cons (lw_int) (lws_cons (lw_int) lws_nil)))) (by simp),lb_dead,trivial⟩,lw_int⟩
            rw [hgl]; exact(vt2_c sz n kc sc nd most d cs a x z y k1 k2 k3)
           ·cases hg
        ·cases hg
       ·cases hg
      ·cases hg
     ·cases hg
    ·cases hg
   ·cases hg
  ·cases hg
 ·cases hg
def cxa2:Cx:=cxl [(40,rdG),(46,vtk2G),(39,vszG),(41,headG),(71,liveG),(16,clsG),(17,sizeG),(48,isclG),(45,islvG),(44,hdrG)]
abbrev popx_b1 (sz:Nat) (n:Nat) (c:Int) (f:Int) (nd:Int) (most:Int) (kc:List LV) (sc:List LV) (cs:List LV):List (Option LB):=[sN [.slo 1 0 n 0,.slo 2 0 sz 0,.int .i64 (rdDW sz kc cs (xwr .i64 f) nd),.ptr 3 0],sC kc 2,sC sc 1,sN [.int .i64 most,.slo 4 0 (vtDW sz most cs [.int .i64 (heW c),.int .u64 (rdVW sz kc cs (xwr .i64 f)),.int .i64 (xar .sub .i64 (xwr .i64 f) 1),.int .u64 (liveW c)]) 0],some (.obj lvF (vtCW sz most cs [.int .i64 (heW c),.int .u64 (rdVW sz kc cs (xwr .i64 f)),.int .i64 (xar .sub .i64 (xwr .i64 f) 1),.int .u64 (liveW c)]) 9),sD,sD,sD,sC [.int .i64 (heW c),.int .u64 (rdVW sz kc cs (xwr .i64 f)),.int .i64 (xar .sub .i64 (xwr .i64 f) 1),.int .u64 (liveW c)] 2,sD]
theorem popx (sz n:Nat) (c f nd most:Int) (d:Nat) (kc sc cs:List LV) (K:Fk):(xfun prog cxa2 60 42 [.ptr 0 0,.int .i64 c,.int .u64 f] (mkS (vwH sz n kc sc nd most d cs)) (vF K))=(
 bif xcm .geq f 2147483648 then(
 K (.tup [.int .i64 0,.int .i64 2]) [sN [.slo 1 0 n 0,.slo 2 0 sz 0,.int .i64 nd,.ptr 3 0],sC kc 2,sC sc 1,sN [.int .i64 most,.slo 4 0 d 0],some (.obj lvF cs 5),sD] [])
 else(
 ck (okK sz n kc) <|
 ck (eqL sc (spW sz kc)) <|
 ck (okR most cs d) <|
 ck (isF lvF lvF) <|
 bif xcm .neq (rdEW sz kc cs (xwr .i64 f)) 0 then(
 K (.tup [.int .i64 0,.int .i64 (rdEW sz kc cs (xwr .i64 f))]) [sN [.slo 1 0 n 0,.slo 2 0 sz 0,.int .i64 (rdDW sz kc cs (xwr .i64 f) nd),.ptr 3 0],sC kc 2,sC sc 1,sN [.int .i64 most,.slo 4 0 d 0],some (.obj lvF cs 6),sD,sD] [])
 else(
 ck (okK sz n kc) <|
 ck (eqL sc (spW sz kc)) <|
 ck (okR most cs d) <|
 ck (isF lvF lvF) <|
 bif xcm .neq (vtEW sz most cs [.int .i64 (heW c),.int .u64 (rdVW sz kc cs (xwr .i64 f)),.int .i64 (xar .sub .i64 (xwr .i64 f) 1),.int .u64 (liveW c)]) 0 then(
 K (.tup [.int .i64 0,.int .i64 (vtEW sz most cs [.int .i64 (heW c),.int .u64 (rdVW sz kc cs (xwr .i64 f)),.int .i64 (xar .sub .i64 (xwr .i64 f) 1),.int .u64 (liveW c)])]) (popx_b1 sz n c f nd most kc sc cs) [])
 else(
 K (.tup [.int .i64 (xwr .i64 f),.int .i64 0]) (popx_b1 sz n c f nd most kc sc cs) [])))):=by kernel_rfl
abbrev bmpx_b1 (sz:Nat) (n:Nat) (c:Int) (nd:Int) (most:Int) (kc:List LV) (sc:List LV) (cs:List LV):List (Option LB):=[sN [.slo 1 0 n 0,.slo 2 0 sz 0,.int .i64 (rdDW sz kc cs 5 nd),.ptr 3 0],sC kc 2,sC sc 1,sN [.int .i64 most,.slo 4 0 (vtDW sz most cs [.int .i64 5,.int .u64 (xar .add .u64 (xar .add .u64 (rdVW sz kc cs 5) 1) (xwr .u64 (szW c))),.int .i64 (xwr .i64 (rdVW sz kc cs 5)),.int .u64 (liveW c)]) 0],some (.obj lvF (vtCW sz most cs [.int .i64 5,.int .u64 (xar .add .u64 (xar .add .u64 (rdVW sz kc cs 5) 1) (xwr .u64 (szW c))),.int .i64 (xwr .i64 (rdVW sz kc cs 5)),.int .u64 (liveW c)]) 9),sD,sD,sD,sC [.int .i64 5,.int .u64 (xar .add .u64 (xar .add .u64 (rdVW sz kc cs 5) 1) (xwr .u64 (szW c))),.int .i64 (xwr .i64 (rdVW sz kc cs 5)),.int .u64 (liveW c)] 2,sD]
abbrev bmpx_b2 (sz:Nat) (n:Nat) (nd:Int) (most:Int) (d:Nat) (kc:List LV) (sc:List LV) (cs:List LV):List (Option LB):=[sN [.slo 1 0 n 0,.slo 2 0 sz 0,.int .i64 (rdDW sz kc cs 5 nd),.ptr 3 0],sC kc 2,sC sc 1,sN [.int .i64 most,.slo 4 0 d 0],some (.obj lvF cs 6),sD,sD]
theorem bmpx (sz n:Nat) (c nd most:Int) (d:Nat) (kc sc cs:List LV) (K:Fk):(xfun prog cxa2 60 43 [.ptr 0 0,.int .i64 c] (mkS (vwH sz n kc sc nd most d cs)) (vF K))=(
 ck (okK sz n kc) <|
 ck (eqL sc (spW sz kc)) <|
 ck (okR most cs d) <|
 ck (isF lvF lvF) <|
 bif xcm .neq (rdEW sz kc cs 5) 0 then(
 K (.tup [.int .i64 0,.int .i64 (rdEW sz kc cs 5)]) (bmpx_b2 sz n nd most d kc sc cs) [])
 else(
 ck (okK sz n kc) <|
 ck (eqL sc (spW sz kc)) <|
 ck (isF lvF lvF) <|
 bif xcm .lss (rdVW sz kc cs 5) 14 then(
 K (.tup [.int .i64 0,.int .i64 4]) (bmpx_b2 sz n nd most d kc sc cs) [])
 else(
 bif xcm .gtr (rdVW sz kc cs 5) (xwr .u64 (Int.ofNat sz)) then(
 K (.tup [.int .i64 0,.int .i64 4]) (bmpx_b2 sz n nd most d kc sc cs) [])
 else(
 bif xcm .gtr (xar .add .u64 (xar .add .u64 (rdVW sz kc cs 5) 1) (xwr .u64 (szW c))) (xwr .u64 (Int.ofNat sz)) then(
 K (.tup [.int .i64 0,.int .i64 4]) (bmpx_b2 sz n nd most d kc sc cs) [])
 else(
 ck (okK sz n kc) <|
 ck (eqL sc (spW sz kc)) <|
 ck (okR most cs d) <|
 ck (isF lvF lvF) <|
 bif xcm .neq (vtEW sz most cs [.int .i64 5,.int .u64 (xar .add .u64 (xar .add .u64 (rdVW sz kc cs 5) 1) (xwr .u64 (szW c))),.int .i64 (xwr .i64 (rdVW sz kc cs 5)),.int .u64 (liveW c)]) 0 then(
 K (.tup [.int .i64 0,.int .i64 (vtEW sz most cs [.int .i64 5,.int .u64 (xar .add .u64 (xar .add .u64 (rdVW sz kc cs 5) 1) (xwr .u64 (szW c))),.int .i64 (xwr .i64 (rdVW sz kc cs 5)),.int .u64 (liveW c)])]) (bmpx_b1 sz n c nd most kc sc cs) [])
 else(
 K (.tup [.int .i64 (xar .add .i64 (xwr .i64 (rdVW sz kc cs 5)) 1),.int .i64 0]) (bmpx_b1 sz n c nd most kc sc cs) [])))))):=by kernel_rfl
end
end Go.Lev
