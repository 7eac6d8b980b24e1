/- chapter 11: the reference's Give as a contract -/
import Derived.Test.YtbeolgofafknmaaGreatDoorCR5
import Derived.Test.YtbeolgofafknmaaGreatDoorLc
import Derived.Test.YtbeolgofafknmaaGreatDoorChecked
import Derived.KernelRfl
namespace Go.Lev
set_option linter.unusedSimpArgs false
set_option linter.unusedVariables false
open Go.RowKit
open Go.Proofs.Tryz (prog)
set_option maxRecDepth 100000
noncomputable section
def cxoh:Cx:=cxl [(47,ordG)]
abbrev ohS:List Code:=sp prog 46
abbrev ohL:List Nat:=[2,6,7,8,10]
abbrev ohT (m h c:Int):List (Nat×LV):=[(2,.int .i64 m),(8,.int .u64 h),(10,.int .i64 c)]
abbrev wtH2 (sz n:Nat) (kc:List LV) (nd most:Int) (d:Nat) (cs c:List LV):List LB:=[.cells [.int .i64 sz,.slo 1 0 n 0,.ptr 2 0,.int .i64 nd] none,.cells kc (some 2),.cells [.int .i64 most,.slo 3 0 d 0] none,.obj orF cs 4,.dead,.cells c none]
abbrev wtH3 (sz n:Nat) (kc:List LV) (nd most:Int) (d:Nat) (cs c:List LV):List LB:=[.cells [.int .i64 sz,.slo 1 0 n 0,.ptr 2 0,.int .i64 nd] none,.cells kc (some 2),.cells [.int .i64 most,.slo 3 0 d 0] none,.obj orF cs 4,.dead,.dead,.cells c (some 2)]
abbrev wtO3 (sz n:Nat) (kc:List LV) (nd most:Int) (d:Nat) (cs c:List LV):List LB:=[.cells [.int .i64 sz,.slo 1 0 n 0,.ptr 2 0,.int .i64 nd] none,.cells kc (some 2),.cells [.int .i64 most,.slo 7 0 d 0] none,.dead,.dead,.dead,.cells c (some 2),.obj orF cs 8,.dead]
def wtS3 (sz n:Nat) (kc:List LV) (nd most:Int) (d:Nat) (cs c:List LV):St:=laid ((mkS (wtH3 sz n kc nd most d cs c)).lay [0,1,2,3,4,6] [.cells [.int .i64 sz,.slo 1 0 n 0,.ptr 2 0,.int .i64 nd] none,.cells kc (some 2),.cells [.int .i64 most,.slo 7 0 (vtDW sz most cs c) 0] none,.dead,.dead,.cells c (some 2)] [.obj orF (vtCW sz most cs c) 8,.dead])
theorem wt3_c (sz n nc:Nat) (kc:List LV) (nd most:Int) (d:Nat) (cs c:List LV) (k1:okK sz n kc=true) (k3:okR most cs d=true) (k4:okC c nc=true) (k5:xle nc 800000=true):SFun prog 48 [.ptr 0 0,.slo 6 0 nc 0] (mkS (wtH3 sz n kc nd most d cs c)) fun l t=>l=.int .i64 (vtEW sz most cs c)∧t=mkS (wtO3 sz n kc nd most (vtDW sz most cs c) (vtCW sz most cs c) c):=by
 have no:noIds kc=true:=okK_noids k1
 have no3:noIds c=true:=noids_ok k4
 have hb:allT [okK sz n kc,okR most cs d,okC c nc,xle nc 800000,isF orF orF]:=by
  simp only [allT_cons]
  exact⟨k1,k3,k4,k5,isF_self orF,fun b h=>by cases h⟩
 have hg:wtkG [.ptr 0 0,.slo 6 0 nc 0] (mkS (wtH3 sz n kc nd most d cs c))=some ([okK sz n kc,okR most cs d,okC c nc,xle nc 800000,isF orF orF],.int .i64 (vtEW sz most cs c),wtS3 sz n kc nd most d cs c):=by kernel_rfl
 refine SFun.conv (wtkG_ok _ _ _ _ _ hg hb mkS_hfr) fun l s' ⟨e1,e2⟩=>?_
 subst e1 e2
 refine⟨_,wtO3 sz n kc nd most (vtDW sz most cs c) (vtCW sz most cs c) c,[.id 0,.id 1,.id 2,.id 3,.id 4,.id 5,.id 6,.id 7,.id 8],⟨rfl,congrArg (fun g=>mkS (wtO3 sz n kc nd most (vtDW sz most cs c) (vtCW sz most cs c) c) g) (by kernel_rfl)⟩,?_⟩
 rw [show blksOf (wtS3 sz n kc nd most d cs c)=[sN [.int .i64 sz,.slo 1 0 n 0,.ptr 2 0,.int .i64 nd],sC kc 2,sN [.int .i64 most,.slo 7 0 (vtDW sz most cs c) 0],sD,sD,sD,sC c 2,some (.obj orF (vtCW sz most cs c) 8),sD] from by kernel_rfl]
 (exact zC)
theorem wt2_c (sz n:Nat) (kc:List LV) (nd most:Int) (d:Nat) (cs:List LV) (a x b y:Int) (k1:okK sz n kc=true) (k3:okR most cs d=true):SFun prog 48 [.ptr 0 0,.sl 5 0 2 2] (mkS (wtH2 sz n kc nd most d cs (cL2 a x b y))) fun l t=>l=.int .i64 (vtEW sz most cs (cL2 a x b y))∧t=mkS (wtO3 sz n kc nd most (vtDW sz most cs (cL2 a x b y)) (vtCW sz most cs (cL2 a x b y)) (cL2 a x b y)):=by
 have no:noIds kc=true:=okK_noids k1
 have k4:okC (cL2 a x b y) 2=true:=okC_enc (xs:=[(a,x),(b,y)]) (by simp)
 refine SFun.sub (ρ:=lsrc [.id 0,.id 1,.id 2,.id 3,.id 4,.id 5,.cap 5 0 2]) (s0:=mkS (wtH3 sz n kc nd most d cs (cL2 a x b y))) (args0:=[.ptr 0 0,.slo 6 0 2 0]) ?_ (lws_cons (lw_ptr rfl) (lws_cons (lw_cap rfl (Nat.le_refl _)) lws_nil)) (wt3_c sz n 2 kc nd most d cs (cL2 a x b y) k1 k3 k4 (t_le (by omega)))
 refine @Sub.of_ok _ 1 [] [] _ [] _ _ mkS_hfr ?_
 show convOk 6 1 [] [] [sN [.int .i64 sz,.slo 1 0 n 0,.ptr 2 0,.int .i64 nd],sC kc 2,sN [.int .i64 most,.slo 3 0 d 0],some (.obj orF cs 4),sD,sN (cL2 a x b y)] _ [] _
 (exact zD)
def wtk2G:Gc:=fun args s=>match args,s.g with
 | [.ptr b 0,.sl r 0 2 2],[]=>(match s.h.get b with
   | some (.cells [.int .i64 (.ofNat sz),.slo q 0 n 0,.ptr l 0,.int .i64 nd] none)=>(match s.h.get q with
     | some (.cells kc (some 2))=>(match s.h.get l with
       | some (.cells [.int .i64 most,.slo o 0 d 0] none)=>(match s.h.get o with
         | some (.obj F_o cs e)=>(match s.h.get e with
           | some (.dead)=>(match s.h.get r with
             | some (.cells [.int .i64 a,.int .u64 x,.int .i64 z,.int .u64 y] none)=>cond (nodupB [b,q,l,o,e,r]) (match s.lay [b,q,l,o,e,r] [.cells [.int .i64 (.ofNat sz),.slo q 0 n 0,.ptr l 0,.int .i64 nd] none,.cells kc (some 2),.cells [.int .i64 most,.slo (Nat.succ s.n) 0 (vtDW sz most cs [.int .i64 a,.int .u64 x,.int .i64 z,.int .u64 y]) 0] none,.dead,.dead,.dead] [.cells [.int .i64 a,.int .u64 x,.int .i64 z,.int .u64 y] (some 2),.obj orF (vtCW sz most cs [.int .i64 a,.int .u64 x,.int .i64 z,.int .u64 y]) (Nat.succ (Nat.succ s.n)),.dead] with
               | some s'=>some ([okK sz n kc,okR most cs d,isF F_o orF],.int .i64 (vtEW sz most cs [.int .i64 a,.int .u64 x,.int .i64 z,.int .u64 y]),s')
               | none=>none) none
             | _=>none)
           | _=>none)
         | _=>none)
       | _=>none)
     | _=>none)
   | _=>none)
 | _,_=>none
theorem wtk2G_ok:GOk prog 48 wtk2G:=by
 intro args s bs l s' hg hb hfr
 unfold wtk2G at hg
 split at hg
 ·rename_i b r hgl
  split at hg
  ·rename_i sz q n l nd hb0
   split at hg
   ·rename_i kc hb1
    split at hg
    ·rename_i most o d hb2
     split at hg
     ·rename_i F_o cs e hb3
      split at hg
      ·rename_i  hb4
       split at hg
       ·rename_i a x z y hb5
        cases hbc:nodupB [b,q,l,o,e,r] with
        | false=>rw [hbc] at hg; cases hg
        | true =>
          rw [hbc] at hg
          simp only [cond_true] at hg
          split at hg
          ·rename_i s1 hs1
           simp only [Option.some.injEq,Prod.mk.injEq] at hg
           obtain⟨rfl,rfl,rfl⟩:=hg
           simp only [allT_cons] at hb
           obtain⟨k1,k2,k3,_⟩:=hb
           have e_o:=isF_eq k3
           subst e_o
           have no:noIds kc=true:=okK_noids k1
           refine SFun.lay (bs:=[.cells [.int .i64 (.ofNat sz),.slo 1 0 n 0,.ptr 2 0,.int .i64 nd] none,.cells kc (some 2),.cells [.int .i64 most,.slo 3 0 d 0] none,.obj orF cs 4,.dead,.cells [.int .i64 a,.int .u64 x,.int .i64 z,.int .u64 y] none]) (args0:=[.ptr 0 0,.sl 5 0 2 2]) (bs':=[.cells [.int .i64 (.ofNat sz),.slo 1 0 n 0,.ptr 2 0,.int .i64 nd] none,.cells kc (some 2),.cells [.int .i64 most,.slo 7 0 (vtDW sz most cs [.int .i64 a,.int .u64 x,.int .i64 z,.int .u64 y]) 0] none,.dead,.dead,.dead,.cells [.int .i64 a,.int .u64 x,.int .i64 z,.int .u64 y] (some 2),.obj orF (vtCW sz most cs [.int .i64 a,.int .u64 x,.int .i64 z,.int .u64 y]) 8,.dead]) (v0:=.int .i64 (vtEW sz most cs [.int .i64 a,.int .u64 x,.int .i64 z,.int .u64 y])) hfr hs1 (nodupB_nd hbc)
            ⟨⟨there hfr hb0,_,hb0,by first | exact lb_same rfl | exact lb_cells (lws_cons (lw_int) (lws_cons (lw_slo rfl) (lws_cons (lw_ptr rfl) (lws_cons (lw_int) lws_nil)))) (by simp),fun κ hκ=>lb_cells (lws_cons (lw_int) (lws_cons (lw_slo (hκ 1 q rfl)) (lws_cons (lw_ptr (hκ 2 l rfl)) (lws_cons (lw_int) lws_nil)))) (by simp)⟩,⟨there hfr hb1,_,hb1,lb_same (by(exact zId)),fun κ hκ=>lb_same (by(exact zId))⟩,⟨there hfr hb2,_,hb2,by first | exact lb_same rfl | exact lb_cells (lws_cons (lw_int) (lws_cons (lw_slo rfl) lws_nil)) (by simp),fun κ hκ=>lb_cells (lws_cons (lw_int) (lws_cons (lw_slo (hκ 3 o rfl)) lws_nil)) (by simp)⟩,⟨there hfr hb3,_,hb3,lb_obj rfl,fun κ hκ=>lb_obj (hκ 4 e rfl)⟩,⟨there hfr hb4,_,hb4,lb_dead,fun κ hκ=>lb_dead⟩,⟨there hfr hb5,_,hb5,by first | exact lb_same rfl | exact lb_cells (lws_cons (lw_int) (lws_cons (lw_int) (lws_cons (lw_int) (lws_cons (lw_int) lws_nil)))) (by simp),fun κ hκ=>lb_cells (lws_cons (lw_int) (lws_cons (lw_int) (lws_cons (lw_int) (lws_cons (lw_int) lws_nil)))) (by simp)⟩,trivial⟩ (by(exact zTl)) ?_
            fun κ h1 h2=>⟨⟨lb_cells (lws_cons (lw_int) (lws_cons (lw_slo (h1 1 q rfl)) (lws_cons (lw_ptr (h1 2 l rfl)) (lws_cons (lw_int) lws_nil)))) (by simp),lb_same (by(exact zId)),lb_cells (lws_cons (lw_int) (lws_cons (lw_slo (h2 1 (by simp))) lws_nil)) (by simp),lb_dead,lb_dead,lb_dead,lb_cells (lws_cons (lw_int) (lws_cons (lw_int) (lws_cons (lw_int) (lws_cons (lw_int) lws_nil)))) (by simp),lb_obj (h2 2 (by simp)),lb_dead,trivial⟩,lw_int⟩
           rw [hgl]; exact(wt2_c sz n kc nd most d cs a x z y k1 k2)
          ·cases hg
       ·cases hg
      ·cases hg
     ·cases hg
    ·cases hg
   ·cases hg
  ·cases hg
 ·cases hg
abbrev ohd_a_b1 (sz:Nat) (n:Nat) (nd:Int) (most:Int) (d:Nat) (kc:List LV) (cs:List LV):List (Option LB):=[sN [.int .i64 ↑sz,.slo 1 0 n 0,.ptr 2 0,.int .i64 nd],sC kc 2,sN [.int .i64 most,.slo 3 0 d 0],some (.obj orF cs 4),sD]
theorem ohd_a (sz n:Nat) (a m nd most:Int) (d:Nat) (kc cs:List LV) (K:Pk):(xsp prog cxoh 60 42 (seg ohS 0 7) (tm0 [.ptr 0 0,.int .i64 a,.int .i64 m]) (mkS (ovH sz n kc nd most d cs)) (vK ohL K))=(
 bif xcm .leq a 14 then(
 K .ret [.int .i64 m,.int .i64 0,.int .i64 2,.tup [],.tup []] (ohd_a_b1 sz n nd most d kc cs) [])
 else(
 bif xcm .geq a ↑sz then(
 K .ret [.int .i64 m,.int .i64 0,.int .i64 2,.tup [],.tup []] (ohd_a_b1 sz n nd most d kc cs) [])
 else(
 ck (okK sz n kc) <|
 ck (okR most cs d) <|
 ck (isF orF orF) <|
 bif xcm .neq (rdEW sz kc cs (xar .sub .i64 a 1)) 0 then(
 K .ret [.int .i64 m,.int .i64 0,.int .i64 (rdEW sz kc cs (xar .sub .i64 a 1)),.int .u64 (rdVW sz kc cs (xar .sub .i64 a 1)),.tup []] [sN [.int .i64 (Int.ofNat sz),.slo 1 0 n 0,.ptr 2 0,.int .i64 (rdDW sz kc cs (xar .sub .i64 a 1) nd)],sC kc 2,sN [.int .i64 most,.slo 3 0 d 0],some (.obj orF cs 5),sD,sD] [])
 else(
 K .normal [.int .i64 m,.int .i64 0,.int .i64 0,.int .u64 (rdVW sz kc cs (xar .sub .i64 a 1)),.int .i64 1] [sN [.int .i64 (Int.ofNat sz),.slo 1 0 n 0,.ptr 2 0,.int .i64 (rdDW sz kc cs (xar .sub .i64 a 1) nd)],sC kc 2,sN [.int .i64 most,.slo 3 0 d 0],some (.obj orF cs 5),sD,sD] [])))):=by kernel_rfl
abbrev ohd_b_b1 (sz:Nat) (n:Nat) (nd:Int) (most:Int) (d:Nat) (kc:List LV) (cs:List LV):List (Option LB):=[sN [.int .i64 ↑sz,.slo 1 0 n 0,.ptr 2 0,.int .i64 nd],sC kc 2,sN [.int .i64 most,.slo 3 0 d 0],some (.obj (fun cs W0 w x own=>∃ v,cs=Kd.enc orK v∧∃ r,Lev.Inv W0 r (mkS (Kd.bs orK v 0 1)) w∧r 0=some x∧∀ (B:Nat),own B↔Owned r (mkS (Kd.bs orK v 0 1)) B) cs 5),sD,sD]
theorem ohd_b (sz n:Nat) (m h c nd most:Int) (d:Nat) (kc cs:List LV) (K:Pk):(xcode prog cxoh 60 42 (loopOf (nthC ohS 7)) (mkTm 42 (ohT m h c)) (mkS (ovJ sz n kc nd most d cs)) (vK ohL K))=(
 bif xcm .leq c 4 then(
 bif xcm .eql h (xwr .u64 (xar .add .i64 c m)) then(
 K .ret [.int .i64 m,.int .i64 c,.int .i64 0,.int .u64 h,.int .i64 c] (ohd_b_b1 sz n nd most d kc cs) [])
 else(
 K .normal [.int .i64 m,.any,.any,.int .u64 h,.int .i64 (xar .add .i64 c 1)] (ohd_b_b1 sz n nd most d kc cs) []))
 else(
 K (.exit 0) [.int .i64 m,.any,.any,.int .u64 h,.int .i64 c] (ohd_b_b1 sz n nd most d kc cs) [])):=by kernel_rfl
theorem ohd_z (sz n:Nat) (m h c nd most:Int) (d:Nat) (kc cs:List LV) (K:Pk):(xsp prog cxoh 60 42 (ohS.drop 8) (mkTm 42 (ohT m h c)) (mkS (ovJ sz n kc nd most d cs)) (vK ohL K))=(
 K .ret [.int .i64 m,.int .i64 0,.int .i64 2,.int .u64 h,.int .i64 c] [sN [.int .i64 ↑sz,.slo 1 0 n 0,.ptr 2 0,.int .i64 nd],sC kc 2,sN [.int .i64 most,.slo 3 0 d 0],some (.obj (fun cs W0 w x own=>∃ v,cs=Kd.enc orK v∧∃ r,Lev.Inv W0 r (mkS (Kd.bs orK v 0 1)) w∧r 0=some x∧∀ (B:Nat),own B↔Owned r (mkS (Kd.bs orK v 0 1)) B) cs 5),sD,sD] []):=by kernel_rfl
theorem cxoh_ok:CtrOk prog (ctrOf cxoh):=cxl_ok ⟨ordG_ok,trivial⟩
def ohB (sz:Nat) (kc cs:List LV) (a m:Int):Bool:=decide (hrE sz kc cs a=0∧1≤hrV sz kc cs a - m∧hrV sz kc cs a - m≤4)
def ohE (sz:Nat) (kc cs:List LV) (a m:Int):Int:=if hrE sz kc cs a=0 then(if ohB sz kc cs a m then 0 else 2) else hrE sz kc cs a
def ohV (sz:Nat) (kc cs:List LV) (a m:Int):Int:=if ohB sz kc cs a m then hrV sz kc cs a - m else 0
def okm (m:Int):Bool:=decide (m=0∨m=8)
theorem ohd_c (sz n:Nat) (kc:List LV) (a m nd most:Int) (d:Nat) (cs:List LV) (k1:okK sz n kc=true) (k3:okR most cs d=true) (k4:okm m=true):SFun prog 46 [.ptr 0 0,.int .i64 a,.int .i64 m] (mkS (ovH sz n kc nd most d cs)) fun l t=>l=.tup [.int .i64 (ohV sz kc cs a m),.int .i64 (ohE sz kc cs a m)]∧t=mkS (ovJ sz n kc (hrD sz kc cs a nd) most d cs):=by
 refine SFun.mono (SFun.pieces (Q:=fun l b=>l=.tup [.int .i64 (ohV sz kc cs a m),.int .i64 (ohE sz kc cs a m)]∧b=ovJ sz n kc (hrD sz kc cs a nd) most d cs) 42 5 ohL [6,7] (by kernel_rfl) rfl rfl rfl ?_) fun l s' ⟨b0,⟨h1,h2⟩,h3⟩=>⟨h1,by rw [h3,h2]⟩
 have no:noIds kc=true:=okK_noids k1
 have f1:=isF_self orF
 have hs:sz≤256:=by obtain⟨ks,_,_,h⟩:=okK_iff.1 k1; exact h.s
 rw [okm,decide_eq_true_eq] at k4
 refine SSp.to cxoh_ok (n:=60) (g:=[]) 7 7 rfl (σ:={_u:Unit // hrE sz kc cs a=0}) (fun _=>ohT m (hrV sz kc cs a) 1) (fun _=>ovJ sz n kc (hrD sz kc cs a nd) most d cs) (mkS_le (Nat.le_of_ble_eq_true rfl)) (by kernel_rfl) ?_ fun⟨_,hE⟩=>?_
 ·rw [ohd_a]
  simp only [k1,k3,f1,cond_true]
  by_cases c:15≤a∧a≤(sz:Int) - 1
  ·have e0:hrB sz a=true:=decide_eq_true c
   have eA:xar .sub .i64 a 1=a - 1:=sub_i64 (by omega) (by omega)
   have eE:hrE sz kc cs a=rdEW sz kc cs (a - 1):=by rw [hrE,e0]; rfl
   have eV:hrV sz kc cs a=rdVW sz kc cs (a - 1):=by rw [hrV,e0]; rfl
   have eD:hrD sz kc cs a nd=rdDW sz kc cs (a - 1) nd:=by rw [hrD,e0]; rfl
   simp only [eA]
   by_cases c1:rdEW sz kc cs (a - 1)=0
   ·rw [eV,eD]
    (refine zR ?_)
    exact⟨rfl,⟨(),by rw [eE]; exact c1⟩,[.id 0,.id 1,.id 2,.id 3,.id 4,.id 5],by(exact zC)⟩
   ·have eO:ohE sz kc cs a m=rdEW sz kc cs (a - 1):=by rw [ohE,eE,if_neg c1]
    have eB:ohB sz kc cs a m=false:=by rw [ohB,decide_eq_false_iff_not,eE]; exact fun z=>c1 z.1
    have eW:ohV sz kc cs a m=0:=by rw [ohV,eB]; rfl
    rw [eO,eW,eD]
    (refine zR ?_)
    exact⟨trivial,rfl,_,_,[.id 0,.id 1,.id 2,.id 3,.id 4,.id 5],⟨rfl,rfl⟩,by(exact zC)⟩
  ·have e0:hrB sz a=false:=decide_eq_false c
   have eE:hrE sz kc cs a=2:=by rw [hrE,e0]; rfl
   have eD:hrD sz kc cs a nd=nd:=by rw [hrD,e0]; rfl
   have eO:ohE sz kc cs a m=2:=by rw [ohE,eE]; rfl
   have eB:ohB sz kc cs a m=false:=by rw [ohB,decide_eq_false_iff_not,eE]; exact fun z=>absurd z.1 (by omega)
   have eW:ohV sz kc cs a m=0:=by rw [ohV,eB]; rfl
   rw [eO,eW,eD]
   by_cases c1:a≤14
   ·(refine zR ?_)
    exact⟨trivial,rfl,_,_,[.id 0,.id 1,.id 2,.id 3,.id 4,.id 4],⟨rfl,rfl⟩,by(exact zC)⟩
   ·(refine zR ?_)
    exact⟨trivial,rfl,_,_,[.id 0,.id 1,.id 2,.id 3,.id 4,.id 4],⟨rfl,rfl⟩,by(exact zC)⟩
 try dsimp only
 generalize hh:hrV sz kc cs a=h
 refine SSp.code_to (g:=[]) 8 rfl (σ:={c:Int // ¬ (1≤h - m∧h - m≤4)}) (fun c=>ohT m h c.1) (fun _=>ovJ sz n kc (hrD sz kc cs a nd) most d cs) (by kernel_rfl) ?_ fun⟨c,hc⟩=>?_
 ·refine SCode.loop_vc cxoh_ok (n:=60) (n0:=5) 0 (by kernel_rfl) (σ:={c:Int // 1≤c∧c≤5∧∀ x:Int,1≤x→x < c→h - m≠x}) (fun c=>ohT m h c.1) (fun _=>ovJ sz n kc (hrD sz kc cs a nd) most d cs) (fun c=>(5 - c.1).toNat) (fun _=>Nat.le_of_ble_eq_true rfl) (fun⟨c,c1,c2,c3⟩=>?_) ⟨1,by omega,by omega,fun x h1 h2=>absurd h2 (by omega)⟩
  dsimp only
  rw [ohd_b]
  by_cases c4:c≤4
  ·have e1:xwr .u64 (xar .add .i64 c m)=c+m:=by rw [add_i64 (by omega) (by omega)]; exact wrap_u64 (by omega) (by omega)
   have e2:xar .add .i64 c 1=c+1:=add_i64 (by omega) (by omega)
   simp only [e1,e2]
   by_cases k:h=c+m
   ·have eB:ohB sz kc cs a m=true:=decide_eq_true ⟨hE,by rw [hh]; omega,by rw [hh]; omega⟩
    have eO:ohE sz kc cs a m=0:=by rw [ohE,if_pos hE,eB]; rfl
    have eW:ohV sz kc cs a m=c:=by rw [ohV,eB,if_pos rfl,hh]; omega
    rw [eO,eW]
    (refine zR ?_)
    exact⟨trivial,rfl,_,_,[.id 0,.id 1,.id 2,.id 3,.id 4,.id 5],⟨rfl,rfl⟩,by(exact zC)⟩
   ·(refine zR ?_)
    exact⟨rfl,⟨c+1,by omega,by omega,fun x h1 h2=>by
     by_cases q:x=c
     ·omega
     ·exact c3 x h1 (by omega)⟩,by simp only; omega,[.id 0,.id 1,.id 2,.id 3,.id 4,.id 5],by(exact zC)⟩
  ·have:c=5:=by omega
   subst this
   (refine zR ?_)
   exact⟨rfl,⟨5,fun z=>c3 (h - m) z.1 (by omega) rfl⟩,[.id 0,.id 1,.id 2,.id 3,.id 4,.id 5],by(exact zC)⟩
 try dsimp only
 have eB:ohB sz kc cs a m=false:=decide_eq_false fun z=>hc (by rw [← hh]; exact z.2)
 have eO:ohE sz kc cs a m=2:=by rw [ohE,if_pos hE,eB]; rfl
 have eW:ohV sz kc cs a m=0:=by rw [ohV,eB]; rfl
 refine zE cxoh_ok ?_
 rw [ohd_z,eO,eW]
 exact⟨trivial,rfl,_,_,[.id 0,.id 1,.id 2,.id 3,.id 4,.id 5],⟨rfl,rfl⟩,by(exact zC)⟩
def ohdG:Gc:=fun args s=>match args,s.g with
 | [.ptr b 0,.int .i64 a,.int .i64 m],[]=>(match s.h.get b with
   | some (.cells [.int .i64 (.ofNat sz),.slo q 0 n 0,.ptr l 0,.int .i64 nd] none)=>(match s.h.get q with
     | some (.cells kc (some 2))=>(match s.h.get l with
       | some (.cells [.int .i64 most,.slo o 0 d 0] none)=>(match s.h.get o with
         | some (.obj F_o cs e)=>(match s.h.get e with
           | some (.dead)=>cond (nodupB [b,q,l,o,e]) (match s.lay [b,q,l,o,e] [.cells [.int .i64 (.ofNat sz),.slo q 0 n 0,.ptr l 0,.int .i64 (hrD sz kc cs a nd)] none,.cells kc (some 2),.cells [.int .i64 most,.slo o 0 d 0] none,.obj orF cs s.n,.dead] [.dead] with
             | some s'=>some ([okK sz n kc,okR most cs d,okm m,isF F_o orF],.tup [.int .i64 (ohV sz kc cs a m),.int .i64 (ohE sz kc cs a m)],s')
             | none=>none) none
           | _=>none)
         | _=>none)
       | _=>none)
     | _=>none)
   | _=>none)
 | _,_=>none
theorem ohdG_ok:GOk prog 46 ohdG:=by
 intro args s bs l s' hg hb hfr
 unfold ohdG at hg
 split at hg
 ·rename_i b a m hgl
  split at hg
  ·rename_i sz q n l nd hb0
   split at hg
   ·rename_i kc hb1
    split at hg
    ·rename_i most o d hb2
     split at hg
     ·rename_i F_o cs e hb3
      split at hg
      ·rename_i  hb4
       cases hbc:nodupB [b,q,l,o,e] with
       | false=>rw [hbc] at hg; cases hg
       | true =>
         rw [hbc] at hg
         simp only [cond_true] at hg
         split at hg
         ·rename_i s1 hs1
          simp only [Option.some.injEq,Prod.mk.injEq] at hg
          obtain⟨rfl,rfl,rfl⟩:=hg
          simp only [allT_cons] at hb
          obtain⟨k1,k2,k3,k4,_⟩:=hb
          have e_o:=isF_eq k4
          subst e_o
          have no:noIds kc=true:=okK_noids k1
          refine SFun.lay (bs:=[.cells [.int .i64 (.ofNat sz),.slo 1 0 n 0,.ptr 2 0,.int .i64 nd] none,.cells kc (some 2),.cells [.int .i64 most,.slo 3 0 d 0] none,.obj orF cs 4,.dead]) (args0:=[.ptr 0 0,.int .i64 a,.int .i64 m]) (bs':=[.cells [.int .i64 (.ofNat sz),.slo 1 0 n 0,.ptr 2 0,.int .i64 (hrD sz kc cs a nd)] none,.cells kc (some 2),.cells [.int .i64 most,.slo 3 0 d 0] none,.obj orF cs 5,.dead,.dead]) (v0:=.tup [.int .i64 (ohV sz kc cs a m),.int .i64 (ohE sz kc cs a m)]) hfr hs1 (nodupB_nd hbc)
           ⟨⟨there hfr hb0,_,hb0,by first | exact lb_same rfl | exact lb_cells (lws_cons (lw_int) (lws_cons (lw_slo rfl) (lws_cons (lw_ptr rfl) (lws_cons (lw_int) lws_nil)))) (by simp),fun κ hκ=>lb_cells (lws_cons (lw_int) (lws_cons (lw_slo (hκ 1 q rfl)) (lws_cons (lw_ptr (hκ 2 l rfl)) (lws_cons (lw_int) lws_nil)))) (by simp)⟩,⟨there hfr hb1,_,hb1,lb_same (by(exact zId)),fun κ hκ=>lb_same (by(exact zId))⟩,⟨there hfr hb2,_,hb2,by first | exact lb_same rfl | exact lb_cells (lws_cons (lw_int) (lws_cons (lw_slo rfl) lws_nil)) (by simp),fun κ hκ=>lb_cells (lws_cons (lw_int) (lws_cons (lw_slo (hκ 3 o rfl)) lws_nil)) (by simp)⟩,⟨there hfr hb3,_,hb3,lb_obj rfl,fun κ hκ=>lb_obj (hκ 4 e rfl)⟩,⟨there hfr hb4,_,hb4,lb_dead,fun κ hκ=>lb_dead⟩,trivial⟩ (by(exact zTl)) ?_
           fun κ h1 h2=>⟨⟨lb_cells (lws_cons (lw_int) (lws_cons (lw_slo (h1 1 q rfl)) (lws_cons (lw_ptr (h1 2 l rfl)) (lws_cons (lw_int) lws_nil)))) (by simp),lb_same (by(exact zId)),lb_cells (lws_cons (lw_int) (lws_cons (lw_slo (h1 3 o rfl)) lws_nil)) (by simp),lb_obj (h2 0 (by simp)),lb_dead,lb_dead,trivial⟩,lw_noid rfl⟩
          rw [hgl]; exact(ohd_c sz n kc a m nd most d cs k1 k2 k3)
         ·cases hg
      ·cases hg
     ·cases hg
    ·cases hg
   ·cases hg
  ·cases hg
 ·cases hg
def cxog:Cx:=cxl [(46,ohdG),(48,wtk2G),(47,ordG)]
theorem ogx (sz n:Nat) (a nd most:Int) (d:Nat) (kc cs:List LV) (K:Fk):(xfun prog cxog 60 24 [.ptr 0 0,.int .i64 a] (mkS (ovH sz n kc nd most d cs)) (vF K))=(
 ck (okK sz n kc) <|
 ck (okR most cs d) <|
 ck (okm 0) <|
 ck (isF orF orF) <|
 bif xcm .neq (ohE sz kc cs a 0) 0 then(
 K (.int .i64 (ohE sz kc cs a 0)) [sN [.int .i64 (Int.ofNat sz),.slo 1 0 n 0,.ptr 2 0,.int .i64 (hrD sz kc cs a nd)],sC kc 2,sN [.int .i64 most,.slo 3 0 d 0],some (.obj orF cs 5),sD,sD] [])
 else(
 ck (okK sz n kc) <|
 ck (okR most cs d) <|
 ck (isF orF orF) <|
 bif xcm .neq (rdEW sz kc cs (xar .sub .i64 (xar .add .i64 1 (ohV sz kc cs a 0)) 1)) 0 then(
 K (.int .i64 (rdEW sz kc cs (xar .sub .i64 (xar .add .i64 1 (ohV sz kc cs a 0)) 1))) [sN [.int .i64 (Int.ofNat sz),.slo 1 0 n 0,.ptr 2 0,.int .i64 (rdDW sz kc cs (xar .sub .i64 (xar .add .i64 1 (ohV sz kc cs a 0)) 1) (hrD sz kc cs a nd))],sC kc 2,sN [.int .i64 most,.slo 3 0 d 0],some (.obj orF cs 6),sD,sD,sD] [])
 else(
 ck (okK sz n kc) <|
 ck (okR most cs d) <|
 ck (isF orF orF) <|
 K (.int .i64 (vtEW sz most cs [.int .i64 a,.int .u64 (rdVW sz kc cs (xar .sub .i64 (xar .add .i64 1 (ohV sz kc cs a 0)) 1)),.int .i64 (xar .sub .i64 (xar .add .i64 1 (ohV sz kc cs a 0)) 1),.int .u64 (xwr .u64 a)])) [sN [.int .i64 (Int.ofNat sz),.slo 1 0 n 0,.ptr 2 0,.int .i64 (rdDW sz kc cs (xar .sub .i64 (xar .add .i64 1 (ohV sz kc cs a 0)) 1) (hrD sz kc cs a nd))],sC kc 2,sN [.int .i64 most,.slo 9 0 (vtDW sz most cs [.int .i64 a,.int .u64 (rdVW sz kc cs (xar .sub .i64 (xar .add .i64 1 (ohV sz kc cs a 0)) 1)),.int .i64 (xar .sub .i64 (xar .add .i64 1 (ohV sz kc cs a 0)) 1),.int .u64 (xwr .u64 a)]) 0],sD,sD,sD,sD,sD,sC [.int .i64 a,.int .u64 (rdVW sz kc cs (xar .sub .i64 (xar .add .i64 1 (ohV sz kc cs a 0)) 1)),.int .i64 (xar .sub .i64 (xar .add .i64 1 (ohV sz kc cs a 0)) 1),.int .u64 (xwr .u64 a)] 2,some (.obj orF (vtCW sz most cs [.int .i64 a,.int .u64 (rdVW sz kc cs (xar .sub .i64 (xar .add .i64 1 (ohV sz kc cs a 0)) 1)),.int .i64 (xar .sub .i64 (xar .add .i64 1 (ohV sz kc cs a 0)) 1),.int .u64 (xwr .u64 a)]) 10),sD] []))):=by kernel_rfl
theorem cxog_ok:CtrOk prog (ctrOf cxog):=cxl_ok ⟨ohdG_ok,wtk2G_ok,ordG_ok,trivial⟩
abbrev ovM (sz n:Nat) (kc:List LV) (nd most:Int) (d:Nat) (cs:List LV):List LB:=[.cells [.int .i64 sz,.slo 1 0 n 0,.ptr 2 0,.int .i64 nd] none,.cells kc (some 2),.cells [.int .i64 most,.slo 5 0 d 0] none,.dead,.dead,.obj orF cs 6,.dead]
def okv (sz:Nat) (kc cs:List LV):Bool:=@decide (∀ a:Int,0≤rdVW sz kc cs a∧rdVW sz kc cs a≤18446744073709551615) (Classical.propDecidable _)
theorem okv_get {sz:Nat} {kc cs:List LV} (h:okv sz kc cs=true) (a:Int):0≤rdVW sz kc cs a∧rdVW sz kc cs a≤18446744073709551615:=by simp only [okv,decide_eq_true_eq] at h; exact h a
theorem hex_eq {c:Int} (h:1≤c∧c≤4):heW c=c:=by rw [heW,add_i64 (by omega) (by omega)]; omega
theorem hex_2 {c:Int} (h:1≤c∧c≤4):xar .sub .i64 (xar .add .i64 1 c) 1=heW c:=by rw [hex_eq h,add_i64 (by omega) (by omega),sub_i64 (by omega) (by omega)]; omega
theorem og_c (sz n:Nat) (kc:List LV) (a nd most:Int) (d:Nat) (cs:List LV) (k1:okK sz n kc=true) (k3:okR most cs d=true) (k5:okv sz kc cs=true):SFun prog 24 [.ptr 0 0,.int .i64 a] (mkS (ovH sz n kc nd most d cs)) fun l t=>l=.int .i64 (gvE sz most kc cs a)∧t=mkS (ovM sz n kc (gvD sz kc cs a nd) most (gvN sz most kc cs a d) (gvC sz most kc cs a)):=by
 refine SFun.mono (SFun.vc (Q:=fun l b=>l=.int .i64 (gvE sz most kc cs a)∧b=ovM sz n kc (gvD sz kc cs a nd) most (gvN sz most kc cs a d) (gvC sz most kc cs a)) cxog_ok (n:=60) 5 rfl ?_) fun l s' ⟨b0,⟨h1,h2⟩,h3⟩=>⟨h1,by rw [h3,h2]⟩
 have no:noIds kc=true:=okK_noids k1
 have f1:=isF_self orF
 have o0:okm 0=true:=decide_eq_true (.inl rfl)
 rw [ogx]
 simp only [k1,k3,f1,o0,cond_true]
 rw [gvE,gvN,gvC,gvD]
 by_cases c1:hrE sz kc cs a=0
 ·by_cases c2:1≤hrV sz kc cs a∧hrV sz kc cs a≤4
  ·have c2':icW (hrV sz kc cs a)=true:=decide_eq_true c2
   have eB:ohB sz kc cs a 0=true:=decide_eq_true ⟨c1,by omega,by omega⟩
   have eO:ohE sz kc cs a 0=0:=by rw [ohE,if_pos c1,eB]; rfl
   have eV:ohV sz kc cs a 0=hrV sz kc cs a:=by rw [ohV,eB,if_pos rfl]; omega
   have eX:xwr .i64 (hrV sz kc cs a)=hrV sz kc cs a:=wr_i64 (by omega) (by omega)
   simp only [eO,eV,hex_2 c2]
   rw [gvL]
   simp only [eX]
   by_cases c3:rdEW sz kc cs (heW (hrV sz kc cs a))=0
   ·have eM:gvM sz kc cs a=4:=by rw [gvM,if_pos c1,c2',if_pos rfl,eX,if_pos c3]
    rw [eM]; try dsimp only
    (refine zR ?_)
    exact⟨rfl,_,_,[.id 0,.id 1,.id 2,.id 3,.id 4,.id 9,.id 10],⟨rfl,rfl⟩,by(exact zC)⟩
   ·have eM:gvM sz kc cs a=3:=by rw [gvM,if_pos c1,c2',if_pos rfl,eX,if_neg c3]
    rw [eM]; try dsimp only
    (refine zR ?_)
    exact⟨rfl,_,_,[.id 0,.id 1,.id 2,.id 3,.id 4,.id 3,.id 6],⟨rfl,rfl⟩,by(exact zC)⟩
  ·have c2':icW (hrV sz kc cs a)=false:=decide_eq_false c2
   have eB:ohB sz kc cs a 0=false:=decide_eq_false fun z=>c2 (by omega)
   have eO:ohE sz kc cs a 0=2:=by rw [ohE,if_pos c1,eB]; rfl
   have eM:gvM sz kc cs a=2:=by rw [gvM,if_pos c1,c2']; rfl
   rw [eM,eO]; try dsimp only
   (refine zR ?_)
   exact⟨rfl,_,_,[.id 0,.id 1,.id 2,.id 3,.id 4,.id 3,.id 5],⟨rfl,rfl⟩,by(exact zC)⟩
 ·have eO:ohE sz kc cs a 0=hrE sz kc cs a:=if_neg c1
  have eM:gvM sz kc cs a=1:=if_neg c1
  rw [eM,eO]; try dsimp only
  (refine zR ?_)
  exact⟨rfl,_,_,[.id 0,.id 1,.id 2,.id 3,.id 4,.id 3,.id 5],⟨rfl,rfl⟩,by(exact zC)⟩
def ogvG:Gc:=fun args s=>match args,s.g with
 | [.ptr b 0,.int .i64 a],[]=>(match s.h.get b with
   | some (.cells [.int .i64 (.ofNat sz),.slo q 0 n 0,.ptr l 0,.int .i64 nd] none)=>(match s.h.get q with
     | some (.cells kc (some 2))=>(match s.h.get l with
       | some (.cells [.int .i64 most,.slo o 0 d 0] none)=>(match s.h.get o with
         | some (.obj F_o cs e)=>(match s.h.get e with
           | some (.dead)=>cond (nodupB [b,q,l,o,e]) (match s.lay [b,q,l,o,e] [.cells [.int .i64 (.ofNat sz),.slo q 0 n 0,.ptr l 0,.int .i64 (gvD sz kc cs a nd)] none,.cells kc (some 2),.cells [.int .i64 most,.slo s.n 0 (gvN sz most kc cs a d) 0] none,.dead,.dead] [.obj orF (gvC sz most kc cs a) (Nat.succ s.n),.dead] with
             | some s'=>some ([okK sz n kc,okR most cs d,okv sz kc cs,isF F_o orF],.int .i64 (gvE sz most kc cs a),s')
             | none=>none) none
           | _=>none)
         | _=>none)
       | _=>none)
     | _=>none)
   | _=>none)
 | _,_=>none
theorem ogvG_ok:GOk prog 24 ogvG:=by
 intro args s bs l s' hg hb hfr
 unfold ogvG at hg
 split at hg
 ·rename_i b a hgl
  split at hg
  ·rename_i sz q n l nd hb0
   split at hg
   ·rename_i kc hb1
    split at hg
    ·rename_i most o d hb2
     split at hg
     ·rename_i F_o cs e hb3
      split at hg
      ·rename_i  hb4
       cases hbc:nodupB [b,q,l,o,e] with
       | false=>rw [hbc] at hg; cases hg
       | true =>
         rw [hbc] at hg
         simp only [cond_true] at hg
         split at hg
         ·rename_i s1 hs1
          simp only [Option.some.injEq,Prod.mk.injEq] at hg
          obtain⟨rfl,rfl,rfl⟩:=hg
          simp only [allT_cons] at hb
          obtain⟨k1,k2,k3,k4,_⟩:=hb
          have e_o:=isF_eq k4
          subst e_o
          have no:noIds kc=true:=okK_noids k1
          refine SFun.lay (bs:=[.cells [.int .i64 (.ofNat sz),.slo 1 0 n 0,.ptr 2 0,.int .i64 nd] none,.cells kc (some 2),.cells [.int .i64 most,.slo 3 0 d 0] none,.obj orF cs 4,.dead]) (args0:=[.ptr 0 0,.int .i64 a]) (bs':=[.cells [.int .i64 (.ofNat sz),.slo 1 0 n 0,.ptr 2 0,.int .i64 (gvD sz kc cs a nd)] none,.cells kc (some 2),.cells [.int .i64 most,.slo 5 0 (gvN sz most kc cs a d) 0] none,.dead,.dead,.obj orF (gvC sz most kc cs a) 6,.dead]) (v0:=.int .i64 (gvE sz most kc cs a)) hfr hs1 (nodupB_nd hbc)
           ⟨⟨there hfr hb0,_,hb0,by first | exact lb_same rfl | exact lb_cells (lws_cons (lw_int) (lws_cons (lw_slo rfl) (lws_cons (lw_ptr rfl) (lws_cons (lw_int) lws_nil)))) (by simp),fun κ hκ=>lb_cells (lws_cons (lw_int) (lws_cons (lw_slo (hκ 1 q rfl)) (lws_cons (lw_ptr (hκ 2 l rfl)) (lws_cons (lw_int) lws_nil)))) (by simp)⟩,⟨there hfr hb1,_,hb1,lb_same (by(exact zId)),fun κ hκ=>lb_same (by(exact zId))⟩,⟨there hfr hb2,_,hb2,by first | exact lb_same rfl | exact lb_cells (lws_cons (lw_int) (lws_cons (lw_slo rfl) lws_nil)) (by simp),fun κ hκ=>lb_cells (lws_cons (lw_int) (lws_cons (lw_slo (hκ 3 o rfl)) lws_nil)) (by simp)⟩,⟨there hfr hb3,_,hb3,lb_obj rfl,fun κ hκ=>lb_obj (hκ 4 e rfl)⟩,⟨there hfr hb4,_,hb4,lb_dead,fun κ hκ=>lb_dead⟩,trivial⟩ (by(exact zTl)) ?_
           fun κ h1 h2=>⟨⟨lb_cells (lws_cons (lw_int) (lws_cons (lw_slo (h1 1 q rfl)) (lws_cons (lw_ptr (h1 2 l rfl)) (lws_cons (lw_int) lws_nil)))) (by simp),lb_same (by(exact zId)),lb_cells (lws_cons (lw_int) (lws_cons (lw_slo (h2 0 (by simp))) lws_nil)) (by simp),lb_dead,lb_dead,lb_obj (h2 1 (by simp)),lb_dead,trivial⟩,lw_int⟩
          rw [hgl]; exact(og_c sz n kc a nd most d cs k1 k2 k3)
         ·cases hg
      ·cases hg
     ·cases hg
    ·cases hg
   ·cases hg
  ·cases hg
 ·cases hg
end
end Go.Lev
