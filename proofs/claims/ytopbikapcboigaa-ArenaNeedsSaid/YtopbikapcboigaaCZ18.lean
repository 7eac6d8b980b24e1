/- chapter 11: the reference's Class, Take of written out cells, header -/
import Derived.Test.YtopbikapcboigaaCZ12
import Derived.Test.YtopbikapcboigaaLc
import Derived.Test.YtopbikapcboigaaChecked
import Derived.KernelRfl
namespace Go.Lev
set_option linter.unusedSimpArgs false
set_option linter.unusedVariables false
open Go.RowKit
open Go.Proofs.Try (prog)
set_option maxRecDepth 100000
noncomputable section
def cxoc:Cx:=cxl [(69,osizeG)]
def cxoh:Cx:=cxl [(77,ordG)]
abbrev ohS:List Code:=sp prog 74
abbrev ohL:List Nat:=[2,6,7,8,10]
abbrev ohT (m h c:Int):List (Nat×LV):=[(2,.int .i64 m),(8,.int .u64 h),(10,.int .i64 c)]
abbrev wtH2 (sz n:Nat) (kc:List LV) (nd most:Int) (d:Nat) (cs c:List LV):List LB:=[.cells [.int .i64 sz,.slo 1 0 n 0,.ptr 2 0,.int .i64 nd] none,.cells kc (some 2),.cells [.int .i64 most,.slo 3 0 d 0] none,.obj orF cs 4,.dead,.cells c none]
abbrev wtH3 (sz n:Nat) (kc:List LV) (nd most:Int) (d:Nat) (cs c:List LV):List LB:=[.cells [.int .i64 sz,.slo 1 0 n 0,.ptr 2 0,.int .i64 nd] none,.cells kc (some 2),.cells [.int .i64 most,.slo 3 0 d 0] none,.obj orF cs 4,.dead,.dead,.cells c (some 2)]
abbrev wtO3 (sz n:Nat) (kc:List LV) (nd most:Int) (d:Nat) (cs c:List LV):List LB:=[.cells [.int .i64 sz,.slo 1 0 n 0,.ptr 2 0,.int .i64 nd] none,.cells kc (some 2),.cells [.int .i64 most,.slo 7 0 d 0] none,.dead,.dead,.dead,.cells c (some 2),.obj orF cs 8,.dead]
def wtS3 (sz n:Nat) (kc:List LV) (nd most:Int) (d:Nat) (cs c:List LV):St:=laid ((mkS (wtH3 sz n kc nd most d cs c)).lay [0,1,2,3,4,6] [.cells [.int .i64 sz,.slo 1 0 n 0,.ptr 2 0,.int .i64 nd] none,.cells kc (some 2),.cells [.int .i64 most,.slo 7 0 (vtDW sz most cs c) 0] none,.dead,.dead,.cells c (some 2)] [.obj orF (vtCW sz most cs c) 8,.dead])
theorem wt3_c (sz n nc:Nat) (kc:List LV) (nd most:Int) (d:Nat) (cs c:List LV) (k1:okK sz n kc=true) (k3:okR most cs d=true) (k4:okC c nc=true) (k5:xle nc 800000=true):SFun prog 75 [.ptr 0 0,.slo 6 0 nc 0] (mkS (wtH3 sz n kc nd most d cs c)) fun l t=>l=.int .i64 (vtEW sz most cs c)∧t=mkS (wtO3 sz n kc nd most (vtDW sz most cs c) (vtCW sz most cs c) c):=by
 have no:noIds kc=true:=okK_noids k1
 have no3:noIds c=true:=noids_ok k4
 have hb:allT [okK sz n kc,okR most cs d,okC c nc,xle nc 800000,isF orF orF]:=by
  simp only [allT_cons]
  exact⟨k1,k3,k4,k5,isF_self orF,fun b h=>by cases h⟩
 have hg:wtkG [.ptr 0 0,.slo 6 0 nc 0] (mkS (wtH3 sz n kc nd most d cs c))=some ([okK sz n kc,okR most cs d,okC c nc,xle nc 800000,isF orF orF],.int .i64 (vtEW sz most cs c),wtS3 sz n kc nd most d cs c):=by kernel_rfl
 refine SFun.conv (wtkG_ok _ _ _ _ _ hg hb mkS_hfr) fun l s' ⟨e1,e2⟩=>?_
 subst e1 e2
 refine⟨_,wtO3 sz n kc nd most (vtDW sz most cs c) (vtCW sz most cs c) c,[.id 0,.id 1,.id 2,.id 3,.id 4,.id 5,.id 6,.id 7,.id 8],⟨rfl,congrArg (fun g=>mkS (wtO3 sz n kc nd most (vtDW sz most cs c) (vtCW sz most cs c) c) g) (by kernel_rfl)⟩,?_⟩
 rw [show blksOf (wtS3 sz n kc nd most d cs c)=[sN [.int .i64 sz,.slo 1 0 n 0,.ptr 2 0,.int .i64 nd],sC kc 2,sN [.int .i64 most,.slo 7 0 (vtDW sz most cs c) 0],sD,sD,sD,sC c 2,some (.obj orF (vtCW sz most cs c) 8),sD] from by kernel_rfl]
 (exact zC)
theorem wt2_c (sz n:Nat) (kc:List LV) (nd most:Int) (d:Nat) (cs:List LV) (a x b y:Int) (k1:okK sz n kc=true) (k3:okR most cs d=true):SFun prog 75 [.ptr 0 0,.sl 5 0 2 2] (mkS (wtH2 sz n kc nd most d cs (cL2 a x b y))) fun l t=>l=.int .i64 (vtEW sz most cs (cL2 a x b y))∧t=mkS (wtO3 sz n kc nd most (vtDW sz most cs (cL2 a x b y)) (vtCW sz most cs (cL2 a x b y)) (cL2 a x b y)):=by
 have no:noIds kc=true:=okK_noids k1
 have k4:okC (cL2 a x b y) 2=true:=okC_enc (xs:=[(a,x),(b,y)]) (by simp)
 refine SFun.sub (ρ:=lsrc [.id 0,.id 1,.id 2,.id 3,.id 4,.id 5,.cap 5 0 2]) (s0:=mkS (wtH3 sz n kc nd most d cs (cL2 a x b y))) (args0:=[.ptr 0 0,.slo 6 0 2 0]) ?_ (lws_cons (lw_ptr rfl) (lws_cons (lw_cap rfl (Nat.le_refl _)) lws_nil)) (wt3_c sz n 2 kc nd most d cs (cL2 a x b y) k1 k3 k4 (t_le (by omega)))
 refine @Sub.of_ok _ 1 [] [] _ [] _ _ mkS_hfr ?_
 show convOk 6 1 [] [] [sN [.int .i64 sz,.slo 1 0 n 0,.ptr 2 0,.int .i64 nd],sC kc 2,sN [.int .i64 most,.slo 3 0 d 0],some (.obj orF cs 4),sD,sN (cL2 a x b y)] _ [] _
 (exact zD)
theorem wt1_c (sz n:Nat) (kc:List LV) (nd most:Int) (d:Nat) (cs:List LV) (a x:Int) (k1:okK sz n kc=true) (k3:okR most cs d=true):SFun prog 75 [.ptr 0 0,.sl 5 0 1 1] (mkS (wtH2 sz n kc nd most d cs (cL1 a x))) fun l t=>l=.int .i64 (vtEW sz most cs (cL1 a x))∧t=mkS (wtO3 sz n kc nd most (vtDW sz most cs (cL1 a x)) (vtCW sz most cs (cL1 a x)) (cL1 a x)):=by
 have no:noIds kc=true:=okK_noids k1
 have k4:okC (cL1 a x) 1=true:=okC_enc (xs:=[(a,x)]) (by simp)
 refine SFun.sub (ρ:=lsrc [.id 0,.id 1,.id 2,.id 3,.id 4,.id 5,.cap 5 0 1]) (s0:=mkS (wtH3 sz n kc nd most d cs (cL1 a x))) (args0:=[.ptr 0 0,.slo 6 0 1 0]) ?_ (lws_cons (lw_ptr rfl) (lws_cons (lw_cap rfl (Nat.le_refl _)) lws_nil)) (wt3_c sz n 1 kc nd most d cs (cL1 a x) k1 k3 k4 (t_le (by omega)))
 refine @Sub.of_ok _ 1 [] [] _ [] _ _ mkS_hfr ?_
 show convOk 6 1 [] [] [sN [.int .i64 sz,.slo 1 0 n 0,.ptr 2 0,.int .i64 nd],sC kc 2,sN [.int .i64 most,.slo 3 0 d 0],some (.obj orF cs 4),sD,sN (cL1 a x)] _ [] _
 (exact zD)
def wtk2G:Gc:=fun args s=>match args,s.g with
 | [.ptr b 0,.sl r 0 2 2],[]=>(match s.h.get b with
   | some (.cells [.int .i64 (.ofNat sz),.slo q 0 n 0,.ptr l 0,.int .i64 nd] none)=>(match s.h.get q with
     | some (.cells kc (some 2))=>(match s.h.get l with
       | some (.cells [.int .i64 most,.slo o 0 d 0] none)=>(match s.h.get o with
         | some (.obj F_o cs e)=>(match s.h.get e with
           | some (.dead)=>(match s.h.get r with
             | some (.cells [.int .i64 a,.int .u64 x,.int .i64 z,.int .u64 y] none)=>cond (nodupB [b,q,l,o,e,r]) (match s.lay [b,q,l,o,e,r] [.cells [.int .i64 (.ofNat sz),.slo q 0 n 0,.ptr l 0,.int .i64 nd] none,.cells kc (some 2),.cells [.int .i64 most,.slo (Nat.succ s.n) 0 (vtDW sz most cs [.int .i64 a,.int .u64 x,.int .i64 z,.int .u64 y]) 0] none,.dead,.dead,.dead] [.cells [.int .i64 a,.int .u64 x,.int .i64 z,.int .u64 y] (some 2),.obj orF (vtCW sz most cs [.int .i64 a,.int .u64 x,.int .i64 z,.int .u64 y]) (Nat.succ (Nat.succ s.n)),.dead] with
               | some s'=>some ([okK sz n kc,okR most cs d,isF F_o orF],.int .i64 (vtEW sz most cs [.int .i64 a,.int .u64 x,.int .i64 z,.int .u64 y]),s')
               | none=>none) none
             | _=>none)
           | _=>none)
         | _=>none)
       | _=>none)
     | _=>none)
   | _=>none)
 | _,_=>none
theorem wtk2G_ok:GOk prog 75 wtk2G:=by
 intro args s bs l s' hg hb hfr
 unfold wtk2G at hg
 split at hg
 ·rename_i b r hgl
  split at hg
  ·rename_i sz q n l nd hb0
   split at hg
   ·rename_i kc hb1
    split at hg
    ·rename_i most o d hb2
     split at hg
     ·rename_i F_o cs e hb3
      split at hg
      ·rename_i  hb4
       split at hg
       ·rename_i a x z y hb5
        cases hbc:nodupB [b,q,l,o,e,r] with
        | false=>rw [hbc] at hg; cases hg
        | true =>
          rw [hbc] at hg
          simp only [cond_true] at hg
          split at hg
          ·rename_i s1 hs1
           simp only [Option.some.injEq,Prod.mk.injEq] at hg
           obtain⟨rfl,rfl,rfl⟩:=hg
           simp only [allT_cons] at hb
           obtain⟨k1,k2,k3,_⟩:=hb
           have e_o:=isF_eq k3
           subst e_o
           have no:noIds kc=true:=okK_noids k1
           refine SFun.lay (bs:=[.cells [.int .i64 (.ofNat sz),.slo 1 0 n 0,.ptr 2 0,.int .i64 nd] none,.cells kc (some 2),.cells [.int .i64 most,.slo 3 0 d 0] none,.obj orF cs 4,.dead,.cells [.int .i64 a,.int .u64 x,.int .i64 z,.int .u64 y] none]) (args0:=[.ptr 0 0,.sl 5 0 2 2]) (bs':=[.cells [.int .i64 (.ofNat sz),.slo 1 0 n 0,.ptr 2 0,.int .i64 nd] none,.cells kc (some 2),.cells [.int .i64 most,.slo 7 0 (vtDW sz most cs [.int .i64 a,.int .u64 x,.int .i64 z,.int .u64 y]) 0] none,.dead,.dead,.dead,.cells [.int .i64 a,.int .u64 x,.int .i64 z,.int .u64 y] (some 2),.obj orF (vtCW sz most cs [.int .i64 a,.int .u64 x,.int .i64 z,.int .u64 y]) 8,.dead]) (v0:=.int .i64 (vtEW sz most cs [.int .i64 a,.int .u64 x,.int .i64 z,.int .u64 y])) hfr hs1 (nodupB_nd hbc)
            ⟨⟨there hfr hb0,_,hb0,by first | exact lb_same rfl | exact lb_cells (lws_cons (lw_int) (lws_cons (lw_slo rfl) (lws_cons (lw_ptr rfl) (lws_cons (lw_int) lws_nil)))) (by simp),fun κ hκ=>lb_cells (lws_cons (lw_int) (lws_cons (lw_slo (hκ 1 q rfl)) (lws_cons (lw_ptr (hκ 2 l rfl)) (lws_cons (lw_int) lws_nil)))) (by simp)⟩,⟨there hfr hb1,_,hb1,lb_same (by(exact zId)),fun κ hκ=>lb_same (by(exact zId))⟩,⟨there hfr hb2,_,hb2,by first | exact lb_same rfl | exact lb_cells (lws_cons (lw_int) (lws_cons (lw_slo rfl) lws_nil)) (by simp),fun κ hκ=>lb_cells (lws_cons (lw_int) (lws_cons (lw_slo (hκ 3 o rfl)) lws_nil)) (by simp)⟩,⟨there hfr hb3,_,hb3,lb_obj rfl,fun κ hκ=>lb_obj (hκ 4 e rfl)⟩,⟨there hfr hb4,_,hb4,lb_dead,fun κ hκ=>lb_dead⟩,⟨there hfr hb5,_,hb5,by first | exact lb_same rfl | exact lb_cells (lws_cons (lw_int) (lws_cons (lw_int) (lws_cons (lw_int) (lws_cons (lw_int) lws_nil)))) (by simp),fun κ hκ=>lb_cells (lws_cons (lw_int) (lws_cons (lw_int) (lws_cons (lw_int) (lws_cons (lw_int) lws_nil)))) (by simp)⟩,trivial⟩ (by(exact zTl)) ?_
            fun κ h1 h2=>⟨⟨lb_cells (lws_cons (lw_int) (lws_cons (lw_slo (h1 1 q rfl)) (lws_cons (lw_ptr (h1 2 l rfl)) (lws_cons (lw_int) lws_nil)))) (by simp),lb_same (by(exact zId)),lb_cells (lws_cons (lw_int) (lws_cons (lw_slo (h2 1 (by simp))) lws_nil)) (by simp),lb_dead,lb_dead,lb_dead,lb_cells (lws_cons (lw_int) (lws_cons (lw_int) (lws_cons (lw_int) (lws_cons (lw_int) lws_nil)))) (by simp),lb_obj (h2 2 (by simp)),lb_dead,trivial⟩,lw_int⟩
           rw [hgl]; exact(wt2_c sz n kc nd most d cs a x z y k1 k2)
          ·cases hg
       ·cases hg
      ·cases hg
     ·cases hg
    ·cases hg
   ·cases hg
  ·cases hg
 ·cases hg
def wtk1G:Gc:=fun args s=>match args,s.g with
 | [.ptr b 0,.sl r 0 1 1],[]=>(match s.h.get b with
   | some (.cells [.int .i64 (.ofNat sz),.slo q 0 n 0,.ptr l 0,.int .i64 nd] none)=>(match s.h.get q with
     | some (.cells kc (some 2))=>(match s.h.get l with
       | some (.cells [.int .i64 most,.slo o 0 d 0] none)=>(match s.h.get o with
         | some (.obj F_o cs e)=>(match s.h.get e with
           | some (.dead)=>(match s.h.get r with
             | some (.cells [.int .i64 a,.int .u64 x] none)=>cond (nodupB [b,q,l,o,e,r]) (match s.lay [b,q,l,o,e,r] [.cells [.int .i64 (.ofNat sz),.slo q 0 n 0,.ptr l 0,.int .i64 nd] none,.cells kc (some 2),.cells [.int .i64 most,.slo (Nat.succ s.n) 0 (vtDW sz most cs [.int .i64 a,.int .u64 x]) 0] none,.dead,.dead,.dead] [.cells [.int .i64 a,.int .u64 x] (some 2),.obj orF (vtCW sz most cs [.int .i64 a,.int .u64 x]) (Nat.succ (Nat.succ s.n)),.dead] with
               | some s'=>some ([okK sz n kc,okR most cs d,isF F_o orF],.int .i64 (vtEW sz most cs [.int .i64 a,.int .u64 x]),s')
               | none=>none) none
             | _=>none)
           | _=>none)
         | _=>none)
       | _=>none)
     | _=>none)
   | _=>none)
 | _,_=>none
theorem wtk1G_ok:GOk prog 75 wtk1G:=by
 intro args s bs l s' hg hb hfr
 unfold wtk1G at hg
 split at hg
 ·rename_i b r hgl
  split at hg
  ·rename_i sz q n l nd hb0
   split at hg
   ·rename_i kc hb1
    split at hg
    ·rename_i most o d hb2
     split at hg
     ·rename_i F_o cs e hb3
      split at hg
      ·rename_i  hb4
       split at hg
       ·rename_i a x hb5
        cases hbc:nodupB [b,q,l,o,e,r] with
        | false=>rw [hbc] at hg; cases hg
        | true =>
          rw [hbc] at hg
          simp only [cond_true] at hg
          split at hg
          ·rename_i s1 hs1
           simp only [Option.some.injEq,Prod.mk.injEq] at hg
           obtain⟨rfl,rfl,rfl⟩:=hg
           simp only [allT_cons] at hb
           obtain⟨k1,k2,k3,_⟩:=hb
           have e_o:=isF_eq k3
           subst e_o
           have no:noIds kc=true:=okK_noids k1
           refine SFun.lay (bs:=[.cells [.int .i64 (.ofNat sz),.slo 1 0 n 0,.ptr 2 0,.int .i64 nd] none,.cells kc (some 2),.cells [.int .i64 most,.slo 3 0 d 0] none,.obj orF cs 4,.dead,.cells [.int .i64 a,.int .u64 x] none]) (args0:=[.ptr 0 0,.sl 5 0 1 1]) (bs':=[.cells [.int .i64 (.ofNat sz),.slo 1 0 n 0,.ptr 2 0,.int .i64 nd] none,.cells kc (some 2),.cells [.int .i64 most,.slo 7 0 (vtDW sz most cs [.int .i64 a,.int .u64 x]) 0] none,.dead,.dead,.dead,.cells [.int .i64 a,.int .u64 x] (some 2),.obj orF (vtCW sz most cs [.int .i64 a,.int .u64 x]) 8,.dead]) (v0:=.int .i64 (vtEW sz most cs [.int .i64 a,.int .u64 x])) hfr hs1 (nodupB_nd hbc)
            ⟨⟨there hfr hb0,_,hb0,by first | exact lb_same rfl | exact lb_cells (lws_cons (lw_int) (lws_cons (lw_slo rfl) (lws_cons (lw_ptr rfl) (lws_cons (lw_int) lws_nil)))) (by simp),fun κ hκ=>lb_cells (lws_cons (lw_int) (lws_cons (lw_slo (hκ 1 q rfl)) (lws_cons (lw_ptr (hκ 2 l rfl)) (lws_cons (lw_int) lws_nil)))) (by simp)⟩,⟨there hfr hb1,_,hb1,lb_same (by(exact zId)),fun κ hκ=>lb_same (by(exact zId))⟩,⟨there hfr hb2,_,hb2,by first | exact lb_same rfl | exact lb_cells (lws_cons (lw_int) (lws_cons (lw_slo rfl) lws_nil)) (by simp),fun κ hκ=>lb_cells (lws_cons (lw_int) (lws_cons (lw_slo (hκ 3 o rfl)) lws_nil)) (by simp)⟩,⟨there hfr hb3,_,hb3,lb_obj rfl,fun κ hκ=>lb_obj (hκ 4 e rfl)⟩,⟨there hfr hb4,_,hb4,lb_dead,fun κ hκ=>lb_dead⟩,⟨there hfr hb5,_,hb5,by first | exact lb_same rfl | exact lb_cells (lws_cons (lw_int) (lws_cons (lw_int) lws_nil)) (by simp),fun κ hκ=>lb_cells (lws_cons (lw_int) (lws_cons (lw_int) lws_nil)) (by simp)⟩,trivial⟩ (by(exact zTl)) ?_
            fun κ h1 h2=>⟨⟨lb_cells (lws_cons (lw_int) (lws_cons (lw_slo (h1 1 q rfl)) (lws_cons (lw_ptr (h1 2 l rfl)) (lws_cons (lw_int) lws_nil)))) (by simp),lb_same (by(exact zId)),lb_cells (lws_cons (lw_int) (lws_cons (lw_slo (h2 1 (by simp))) lws_nil)) (by simp),lb_dead,lb_dead,lb_dead,lb_cells (lws_cons (lw_int) (lws_cons (lw_int) lws_nil)) (by simp),lb_obj (h2 2 (by simp)),lb_dead,trivial⟩,lw_int⟩
           rw [hgl]; exact(wt1_c sz n kc nd most d cs a x k1 k2)
          ·cases hg
       ·cases hg
      ·cases hg
     ·cases hg
    ·cases hg
   ·cases hg
  ·cases hg
 ·cases hg
theorem ock_a (n:Int) (K:Pk):(xsp prog cxoc 40 17 (seg (sp prog 82) 0 4) (tm0 [.int .i64 n]) (mkS []) (vK [0,2,3] K))=(
 bif xcm .lss n 1 then(
 K .ret [.int .i64 n,.int .i64 0,.tup []] [] [])
 else(
 bif xcm .gtr n 16 then(
 K .ret [.int .i64 n,.int .i64 0,.tup []] [] [])
 else(
 K .normal [.int .i64 n,.int .i64 0,.int .i64 1] [] []))):=by kernel_rfl
theorem ock_b (n c:Int) (K:Pk):(xcode prog cxoc 40 17 (loopOf (nthC (sp prog 82) 4)) (mkTm 17 [(0,.int .i64 n),(3,.int .i64 c)]) (mkS []) (vK [0,2,3] K))=(
 bif xcm .lss (szW c) n then(
 K .normal [.int .i64 n,.any,.int .i64 (xar .add .i64 c 1)] [] [])
 else(
 K (.exit 0) [.int .i64 n,.any,.int .i64 c] [] [])):=by kernel_rfl
theorem ock_z (c:Int) (K:Pk):(xsp prog cxoc 40 17 ((sp prog 82).drop 5) (mkTm 17 [(3,.int .i64 c)]) (mkS []) (vK [0,2,3] K))=(
 K .ret [.any,.int .i64 c,.int .i64 c] [] []):=by kernel_rfl
abbrev ohd_a_b1 (sz:Nat) (n:Nat) (nd:Int) (most:Int) (d:Nat) (kc:List LV) (cs:List LV):List (Option LB):=[sN [.int .i64 ↑sz,.slo 1 0 n 0,.ptr 2 0,.int .i64 nd],sC kc 2,sN [.int .i64 most,.slo 3 0 d 0],some (.obj orF cs 4),sD]
theorem ohd_a (sz n:Nat) (a m nd most:Int) (d:Nat) (kc cs:List LV) (K:Pk):(xsp prog cxoh 60 42 (seg ohS 0 7) (tm0 [.ptr 0 0,.int .i64 a,.int .i64 m]) (mkS (ovH sz n kc nd most d cs)) (vK ohL K))=(
 bif xcm .leq a 14 then(
 K .ret [.int .i64 m,.int .i64 0,.int .i64 2,.tup [],.tup []] (ohd_a_b1 sz n nd most d kc cs) [])
 else(
 bif xcm .geq a ↑sz then(
 K .ret [.int .i64 m,.int .i64 0,.int .i64 2,.tup [],.tup []] (ohd_a_b1 sz n nd most d kc cs) [])
 else(
 ck (okK sz n kc) <|
 ck (okR most cs d) <|
 ck (isF orF orF) <|
 bif xcm .neq (rdEW sz kc cs (xar .sub .i64 a 1)) 0 then(
 K .ret [.int .i64 m,.int .i64 0,.int .i64 (rdEW sz kc cs (xar .sub .i64 a 1)),.int .u64 (rdVW sz kc cs (xar .sub .i64 a 1)),.tup []] [sN [.int .i64 (Int.ofNat sz),.slo 1 0 n 0,.ptr 2 0,.int .i64 (rdDW sz kc cs (xar .sub .i64 a 1) nd)],sC kc 2,sN [.int .i64 most,.slo 3 0 d 0],some (.obj orF cs 5),sD,sD] [])
 else(
 K .normal [.int .i64 m,.int .i64 0,.int .i64 0,.int .u64 (rdVW sz kc cs (xar .sub .i64 a 1)),.int .i64 1] [sN [.int .i64 (Int.ofNat sz),.slo 1 0 n 0,.ptr 2 0,.int .i64 (rdDW sz kc cs (xar .sub .i64 a 1) nd)],sC kc 2,sN [.int .i64 most,.slo 3 0 d 0],some (.obj orF cs 5),sD,sD] [])))):=by kernel_rfl
abbrev ohd_b_b1 (sz:Nat) (n:Nat) (nd:Int) (most:Int) (d:Nat) (kc:List LV) (cs:List LV):List (Option LB):=[sN [.int .i64 ↑sz,.slo 1 0 n 0,.ptr 2 0,.int .i64 nd],sC kc 2,sN [.int .i64 most,.slo 3 0 d 0],some (.obj (fun cs W0 w x own=>∃ v,cs=Kd.enc orK v∧∃ r,Lev.Inv W0 r (mkS (Kd.bs orK v 0 1)) w∧r 0=some x∧∀ (B:Nat),own B↔Owned r (mkS (Kd.bs orK v 0 1)) B) cs 5),sD,sD]
theorem ohd_b (sz n:Nat) (m h c nd most:Int) (d:Nat) (kc cs:List LV) (K:Pk):(xcode prog cxoh 60 42 (loopOf (nthC ohS 7)) (mkTm 42 (ohT m h c)) (mkS (ovJ sz n kc nd most d cs)) (vK ohL K))=(
 bif xcm .leq c 4 then(
 bif xcm .eql h (xwr .u64 (xar .add .i64 c m)) then(
 K .ret [.int .i64 m,.int .i64 c,.int .i64 0,.int .u64 h,.int .i64 c] (ohd_b_b1 sz n nd most d kc cs) [])
 else(
 K .normal [.int .i64 m,.any,.any,.int .u64 h,.int .i64 (xar .add .i64 c 1)] (ohd_b_b1 sz n nd most d kc cs) []))
 else(
 K (.exit 0) [.int .i64 m,.any,.any,.int .u64 h,.int .i64 c] (ohd_b_b1 sz n nd most d kc cs) [])):=by kernel_rfl
theorem ohd_z (sz n:Nat) (m h c nd most:Int) (d:Nat) (kc cs:List LV) (K:Pk):(xsp prog cxoh 60 42 (ohS.drop 8) (mkTm 42 (ohT m h c)) (mkS (ovJ sz n kc nd most d cs)) (vK ohL K))=(
 K .ret [.int .i64 m,.int .i64 0,.int .i64 2,.int .u64 h,.int .i64 c] [sN [.int .i64 ↑sz,.slo 1 0 n 0,.ptr 2 0,.int .i64 nd],sC kc 2,sN [.int .i64 most,.slo 3 0 d 0],some (.obj (fun cs W0 w x own=>∃ v,cs=Kd.enc orK v∧∃ r,Lev.Inv W0 r (mkS (Kd.bs orK v 0 1)) w∧r 0=some x∧∀ (B:Nat),own B↔Owned r (mkS (Kd.bs orK v 0 1)) B) cs 5),sD,sD] []):=by kernel_rfl
theorem cxoc_ok:CtrOk prog (ctrOf cxoc):=cxl_ok ⟨osizeG_ok,trivial⟩
theorem cxoh_ok:CtrOk prog (ctrOf cxoh):=cxl_ok ⟨ordG_ok,trivial⟩
theorem ocls_f (n:Int):SFun prog 82 [.int .i64 n] (mkS []) fun l s=>l=.int .i64 (clsW n)∧s=mkS []:=by
 refine SFun.mono (SFun.pieces (Q:=fun l b=>l=.int .i64 (clsW n)∧b=[]) 17 0 [0,2,3] [2] (by kernel_rfl) rfl rfl rfl ?_) fun l s' ⟨b0,⟨h1,h2⟩,h3⟩=>⟨h1,by rw [h3,h2]⟩
 refine SSp.to cxoc_ok (n:=40) (g:=[]) 4 4 rfl (σ:={_k:Unit // 1≤n∧n≤16}) (fun _=>[(0,.int .i64 n),(3,.int .i64 1)]) (fun _=>[]) (Nat.zero_le _) (by kernel_rfl) ?_ fun⟨_,h1,h16⟩=>?_
 ·rw [ock_a]
  by_cases c:n < 1
  ·have e:clsW n=0:=if_pos c
   rw [e]; (refine zR ?_)
   exact⟨trivial,rfl,_,_,[],⟨rfl,rfl⟩,by(exact zC)⟩
  by_cases c2:16 < n
  ·have e:clsW n=0:=by rw [clsW,if_neg c,if_neg (by omega),if_neg (by omega),if_neg (by omega),if_neg (by omega)]
   rw [e]; (refine zR ?_)
   exact⟨trivial,rfl,_,_,[],⟨rfl,rfl⟩,by(exact zC)⟩
  ·(refine zR ?_)
   exact⟨rfl,⟨(),by omega,by omega⟩,[],by(exact zC)⟩
 refine SSp.code_to (g:=[]) 5 rfl (σ:={c:Int // clsW n=c}) (fun c=>[(3,.int .i64 c.1)]) (fun _=>[]) (by kernel_rfl) ?_ fun⟨c,hc⟩=>?_
 ·refine SCode.loop_vc cxoc_ok (n:=40) (n0:=0) 0 (by kernel_rfl) (σ:={c:Int // 1≤c∧c≤4∧(1 < c→2 < n)∧(2 < c→4 < n)∧(3 < c→8 < n)}) (fun c=>[(0,.int .i64 n),(3,.int .i64 c.1)]) (fun _=>[]) (fun c=>(4 - c.1).toNat) (fun _=>Nat.zero_le _) (fun⟨c,c1,c2,c3,c4,c5⟩=>?_) ⟨1,by omega,by omega,fun h=>by omega,fun h=>by omega,fun h=>by omega⟩
  dsimp only
  rw [ock_b]
  have hc:c=1∨c=2∨c=3∨c=4:=by omega
  rcases hc with rfl | rfl | rfl | rfl
  ·rw [szW_1]
   by_cases k:2 < n
   ·(refine zR ?_)
    exact⟨rfl,⟨2,by omega,by omega,fun _=>by omega,fun h=>by omega,fun h=>by omega⟩,by simp only; omega,[],by(exact zC)⟩
   ·(refine zR ?_)
    exact⟨rfl,⟨1,by rw [clsW,if_neg (by omega),if_pos (by omega)]⟩,[],by(exact zC)⟩
  ·rw [szW_2]
   by_cases k:4 < n
   ·(refine zR ?_)
    exact⟨rfl,⟨3,by omega,by omega,fun _=>by omega,fun _=>by omega,fun h=>by omega⟩,by simp only; omega,[],by(exact zC)⟩
   ·(refine zR ?_)
    exact⟨rfl,⟨2,by rw [clsW,if_neg (by omega),if_neg (by omega),if_pos (by omega)]⟩,[],by(exact zC)⟩
  ·rw [szW_3]
   by_cases k:8 < n
   ·(refine zR ?_)
    exact⟨rfl,⟨4,by omega,by omega,fun _=>by omega,fun _=>by omega,fun _=>by omega⟩,by simp only; omega,[],by(exact zC)⟩
   ·(refine zR ?_)
    exact⟨rfl,⟨3,by rw [clsW,if_neg (by omega),if_neg (by omega),if_neg (by omega),if_pos (by omega)]⟩,[],by(exact zC)⟩
  ·rw [szW_4]
   (refine zR ?_)
   exact⟨rfl,⟨4,by rw [clsW,if_neg (by omega),if_neg (by omega),if_neg (by omega),if_neg (by omega),if_pos (by omega)]⟩,[],by(exact zC)⟩
 refine SSp.last cxoc_ok (n:=40) (Nat.zero_le _) ?_
 subst hc
 rw [ock_z]
 exact⟨trivial,rfl,_,_,[],⟨rfl,rfl⟩,by(exact zC)⟩
def oclsG:Gc:=fun args s=>match args,s.g with
 | [.int .i64 c],[]=>some ([],.int .i64 (clsW c),s)
 | _,_=>none
theorem oclsG_ok:GOk prog 82 oclsG:=by
 intro args s bs l s' hg hb hfr
 unfold oclsG at hg
 split at hg
 ·rename_i c hgl
  simp only [Option.some.injEq,Prod.mk.injEq] at hg
  obtain⟨rfl,rfl,rfl⟩:=hg
  exact SFun.pure hfr hgl rfl rfl (ocls_f c)
 ·cases hg
end
end Go.Lev
