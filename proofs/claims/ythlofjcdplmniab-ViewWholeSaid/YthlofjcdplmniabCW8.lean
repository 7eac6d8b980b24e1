/- chapter 9: the code's levels: Take as a contract, Put, Free -/
import Derived.Test.YthlofjcdplmniabCW7
import Derived.Test.YthlofjcdplmniabLc
import Derived.Test.YthlofjcdplmniabChecked
import Derived.KernelRfl
namespace Go.Lev
set_option linter.unusedSimpArgs false
set_option linter.unusedVariables false
open Go.RowKit
open Go.Proofs.Try (prog)
set_option maxRecDepth 100000
noncomputable section
theorem wt1_x (m a z:Int) (n:Nat) (cs:List LV) (K:Fk):(xfun prog cxw 60 65 [.ptr 0 0,.sl 2 0 1 1] (mkS [.cells [.int .i64 m,.slo 1 0 n 0] none,.cells cs (some 2),.cells [.int .i64 a,.int .u64 z] none]) (vF K))=(
 ck (xle n 1000000) <|
 ck (xeq (xln cs) (xmul n 2)) <|
 ck (xnoid cs) <|
 ck (xcm .eql m m) <|
 ck (xcm .eql m m) <|
 ck (okC cs n) <|
 ck (xle (xadd n 1) 1000000) <|
 bif xcm .neq (wpE m cs a) 0 then(
 K (.int .i64 (wpE m cs a)) [sN [.int .i64 m,.slo 1 0 n 0],sC cs 2,sN [.int .i64 a,.int .u64 z],sD,sN [.int .i64 m,.slo 6 0 (wpN m cs a z) 0],sN [.int .i64 a,.int .u64 z],sC (wpC m cs a z) 2] [])
 else(
 K (.int .i64 0) [sN [.int .i64 m,.slo 6 0 (wpN m cs a z) 0],sC cs 2,sN [.int .i64 a,.int .u64 z],sD,sN [.int .i64 m,.slo 6 0 (wpN m cs a z) 0],sN [.int .i64 a,.int .u64 z],sC (wpC m cs a z) 2] [])):=by kernel_rfl
theorem wtake1_ok (m a z:Int) (xs:CL) (hn:xs.length < 900000):SFun prog 65 [.ptr 0 0,.sl 2 0 1 1] (mkS [.cells [.int .i64 m,.slo 1 0 xs.length 0] none,.cells (encL cell xs) (some 2),.cells [.int .i64 a,.int .u64 z] none])
  fun l s=>l=.int .i64 (wPe m xs a)∧s=mkS [.cells [.int .i64 m,.slo 3 0 (wPc m xs a z).length 0] none,.dead,.cells [.int .i64 a,.int .u64 z] none,.cells (encL cell (wPc m xs a z)) (some 2)]:=by
 refine SFun.mono (SFun.vc (Q:=fun l b=>l=.int .i64 (wPe m xs a)∧b=[.cells [.int .i64 m,.slo 3 0 (wPc m xs a z).length 0] none,.dead,.cells [.int .i64 a,.int .u64 z] none,.cells (encL cell (wPc m xs a z)) (some 2)]) cxw_ok (n:=60) 3 rfl ?_) fun l s' ⟨b0,⟨h1,h2⟩,h3⟩=>⟨h1,by rw [h3,h2]⟩
 have nx:=noids_c xs; have lx:=cell_n xs; have xx:=xnoid_c xs; have ok:okC (encL cell xs) xs.length=true:=okC_enc (by omega)
 have nz:=noids_c (wPc m xs a z)
 rw [wt1_x]
 by_cases h:wPe m xs a=0
 ·simp only [wd_nat,wd_asV,wd_isV,wd_ix,wd_add,wd_mul,wd_ln,Nat.zero_add,Nat.mul_one,wd_isI,wd_asI,wd_isB,wd_asB,wd_nn,cI_tlen,cB_tlen,cII_tlen,decide_true,cond_true,wd_not_t,wd_not_f,wd_and_t,wd_and_f,lx,xx,ok,wpE,wpN,wpC,decC_enc,h]
  (refine zR ?_)
  exact⟨rfl,_,_,[.id 0,.id 1,.id 2,.id 6],⟨rfl,rfl⟩,by(exact zC)⟩
 ·have e:wPc m xs a z=xs:=if_neg h
  rw [e]
  simp only [wd_nat,wd_asV,wd_isV,wd_ix,wd_add,wd_mul,wd_ln,Nat.zero_add,Nat.mul_one,wd_isI,wd_asI,wd_isB,wd_asB,wd_nn,cI_tlen,cB_tlen,cII_tlen,decide_true,cond_true,wd_not_t,wd_not_f,wd_and_t,wd_and_f,lx,xx,ok,wpE,wpN,wpC,decC_enc,e]
  (refine zR ?_)
  exact⟨rfl,_,_,[.id 0,.id 1,.id 2,.id 1],⟨rfl,rfl⟩,by(exact zC)⟩
theorem wtake1_c (m a z:Int) (n:Nat) (cs:List LV) (k1:okC cs n=true) (k2:xle (xadd n 1) 900000=true):SFun prog 65 [.ptr 0 0,.sl 2 0 1 1] (mkS [.cells [.int .i64 m,.slo 1 0 n 0] none,.cells cs (some 2),.cells [.int .i64 a,.int .u64 z] none])
  fun l s=>l=.int .i64 (wpE m cs a)∧s=mkS [.cells [.int .i64 m,.slo 3 0 (wpN m cs a z) 0] none,.dead,.cells [.int .i64 a,.int .u64 z] none,.cells (wpC m cs a z) (some 2)]:=by
 obtain⟨xs,rfl,rfl,_⟩:=okC_iff.1 k1
 rw [wd_le,wd_add,decide_eq_true_eq] at k2
 simp only [wpE,wpN,wpC,decC_enc]
 exact wtake1_ok m a z xs (by omega)
def wtake1G:Gc:=fun args s=>match args,s.g with
 | [.ptr b 0,.sl d 0 1 1],[]=>(match s.h.get b with
   | some (.cells [.int .i64 m,.slo q 0 n 0] none)=>(match s.h.get q with
     | some (.cells cs (some 2))=>(match s.h.get d with
       | some (.cells [.int .i64 a,.int .u64 z] none)=>cond (nodupB [b,q,d]) (match s.lay [b,q,d] [.cells [.int .i64 m,.slo s.n 0 (wpN m cs a z) 0] none,.dead,.cells [.int .i64 a,.int .u64 z] none] [.cells (wpC m cs a z) (some 2)] with
         | some s'=>some ([okC cs n,xle (xadd n 1) 900000],.int .i64 (wpE m cs a),s')
         | none=>none) none
       | _=>none)
     | _=>none)
   | _=>none)
 | _,_=>none
theorem wtake1G_ok:GOk prog 65 wtake1G:=by
 intro args s bs l s' hg hb hfr
 unfold wtake1G at hg
 split at hg
 ·rename_i b d hgl
  split at hg
  ·rename_i m q n hb0
   split at hg
   ·rename_i cs hb1
    split at hg
    ·rename_i a z hb2
     cases hbc:nodupB [b,q,d] with
     | false=>rw [hbc] at hg; cases hg
     | true =>
       rw [hbc] at hg
       simp only [cond_true] at hg
       split at hg
       ·rename_i s1 hs1
        simp only [Option.some.injEq,Prod.mk.injEq] at hg
        obtain⟨rfl,rfl,rfl⟩:=hg
        simp only [allT_cons] at hb
        obtain⟨k1,k2,_⟩:=hb
        have no:noIds cs=true:=noids_ok k1
        refine SFun.lay (bs:=[.cells [.int .i64 m,.slo 1 0 n 0] none,.cells cs (some 2),.cells [.int .i64 a,.int .u64 z] none]) (args0:=[.ptr 0 0,.sl 2 0 1 1]) (bs':=[.cells [.int .i64 m,.slo 3 0 (wpN m cs a z) 0] none,.dead,.cells [.int .i64 a,.int .u64 z] none,.cells (wpC m cs a z) (some 2)]) (v0:=.int .i64 (wpE m cs a)) hfr hs1 (nodupB_nd hbc)
         ⟨⟨there hfr hb0,_,hb0,by first | exact lb_same rfl | exact lb_cells (lws_cons (lw_int) (lws_cons (lw_slo rfl) lws_nil)) (by simp),fun κ hκ=>lb_cells (lws_cons (lw_int) (lws_cons (lw_slo (hκ 1 q rfl)) lws_nil)) (by simp)⟩,⟨there hfr hb1,_,hb1,lb_same (by(exact zId)),fun κ hκ=>lb_same (by(exact zId))⟩,⟨there hfr hb2,_,hb2,by first | exact lb_same rfl | exact lb_cells (lws_cons (lw_int) (lws_cons (lw_int) lws_nil)) (by simp),fun κ hκ=>lb_cells (lws_cons (lw_int) (lws_cons (lw_int) lws_nil)) (by simp)⟩,trivial⟩ (by(exact zTl)) ?_
         fun κ h1 h2=>⟨⟨lb_cells (lws_cons (lw_int) (lws_cons (lw_slo (h2 0 (by simp))) lws_nil)) (by simp),lb_dead,lb_cells (lws_cons (lw_int) (lws_cons (lw_int) lws_nil)) (by simp),lb_same (noids_c _),trivial⟩,lw_int⟩
        rw [hgl]; exact(wtake1_c m a z n cs k1 k2)
       ·cases hg
    ·cases hg
   ·cases hg
  ·cases hg
 ·cases hg
def ltE (most:Int) (cs c:List LV):Int:=tkE most (decLs cs) (decC c)
def ltD (most:Int) (cs c:List LV):Nat:=(tkC most (decLs cs) (decC c)).length
def ltC (most:Int) (cs c:List LV):List LV:=encLs (tkC most (decLs cs) (decC c))
theorem ltake_c (most:Int) (d nc:Nat) (cs c:List LV) (k1:okR most cs d=true) (k2:okC c nc=true) (k3:xle nc 800000=true):SFun prog 59 [.ptr 0 0,.slo 3 0 nc 0] (mkS (lvS most d cs [.cells c (some 2)])) fun l t=>l=.int .i64 (ltE most cs c)∧t=mkS (lvS' most (ltD most cs c) (ltC most cs c) [.cells c (some 2)]):=by
 obtain⟨ls,rfl,rfl,h,h1,h2⟩:=okR_iff.1 k1
 obtain⟨xs,rfl,rfl,_⟩:=okC_iff.1 k2
 rw [wd_le,decide_eq_true_eq] at k3
 simp only [ltE,ltD,ltC,decLs_enc,decC_enc]
 exact ltake_ok most xs k3 ls h1 h2
def ltakeG:Gc:=fun args s=>match args,s.g with
 | [.ptr b 0,.slo r 0 nc 0],[]=>(match s.h.get b with
   | some (.cells [.int .i64 most,.slo o 0 d 0] none)=>(match s.h.get o with
     | some (.obj F_o cs e)=>(match s.h.get e with
       | some (.dead)=>(match s.h.get r with
         | some (.cells c (some 2))=>cond (nodupB [b,o,e,r]) (match s.lay [b,o,e,r] [.cells [.int .i64 most,.slo o 0 (ltD most cs c) 0] none,.obj lvF (ltC most cs c) s.n,.dead,.cells c (some 2)] [.dead] with
           | some s'=>some ([okR most cs d,okC c nc,xle nc 800000,isF F_o lvF],.int .i64 (ltE most cs c),s')
           | none=>none) none
         | _=>none)
       | _=>none)
     | _=>none)
   | _=>none)
 | _,_=>none
theorem ltakeG_ok:GOk prog 59 ltakeG:=by
 intro args s bs l s' hg hb hfr
 unfold ltakeG at hg
 split at hg
 ·rename_i b r nc hgl
  split at hg
  ·rename_i most o d hb0
   split at hg
   ·rename_i F_o cs e hb1
    split at hg
    ·rename_i  hb2
     split at hg
     ·rename_i c hb3
      cases hbc:nodupB [b,o,e,r] with
      | false=>rw [hbc] at hg; cases hg
      | true =>
        rw [hbc] at hg
        simp only [cond_true] at hg
        split at hg
        ·rename_i s1 hs1
         simp only [Option.some.injEq,Prod.mk.injEq] at hg
         obtain⟨rfl,rfl,rfl⟩:=hg
         simp only [allT_cons] at hb
         obtain⟨k1,k2,k3,k4,_⟩:=hb
         have e_o:=isF_eq k4
         subst e_o
         have no:noIds c=true:=noids_ok k2
         refine SFun.lay (bs:=[.cells [.int .i64 most,.slo 1 0 d 0] none,.obj lvF cs 2,.dead,.cells c (some 2)]) (args0:=[.ptr 0 0,.slo 3 0 nc 0]) (bs':=[.cells [.int .i64 most,.slo 1 0 (ltD most cs c) 0] none,.obj lvF (ltC most cs c) 4,.dead,.cells c (some 2),.dead]) (v0:=.int .i64 (ltE most cs c)) hfr hs1 (nodupB_nd hbc)
          ⟨⟨there hfr hb0,_,hb0,by first | exact lb_same rfl | exact lb_cells (lws_cons (lw_int) (lws_cons (lw_slo rfl) lws_nil)) (by simp),fun κ hκ=>lb_cells (lws_cons (lw_int) (lws_cons (lw_slo (hκ 1 o rfl)) lws_nil)) (by simp)⟩,⟨there hfr hb1,_,hb1,lb_obj rfl,fun κ hκ=>lb_obj (hκ 2 e rfl)⟩,⟨there hfr hb2,_,hb2,lb_dead,fun κ hκ=>lb_dead⟩,⟨there hfr hb3,_,hb3,lb_same (by(exact zId)),fun κ hκ=>lb_same (by(exact zId))⟩,trivial⟩ (by(exact zTl)) ?_
          fun κ h1 h2=>⟨⟨lb_cells (lws_cons (lw_int) (lws_cons (lw_slo (h1 1 o rfl)) lws_nil)) (by simp),lb_obj (h2 0 (by simp)),lb_dead,lb_same (by(exact zId)),lb_dead,trivial⟩,lw_int⟩
         rw [hgl]; exact(ltake_c most d nc cs c k1 k2 k3)
        ·cases hg
     ·cases hg
    ·cases hg
   ·cases hg
  ·cases hg
 ·cases hg
def cxl3:Cx:=cxl [(63,wgetG),(69,wputG),(64,wnewG),(65,wtake1G)]
theorem lp_1 (most a v:Int) (n0 m0:Nat) (q0 f0:List LV) (K:Pk):(xsp prog cxl3 60 13 ((sp prog 44).drop 0) (tm0 [.ptr 0 0,.int .i64 a,.int .u64 v]) (mkS (lvH1 most n0 m0 q0 f0)) (vK [6] K))=(
 ck (okC q0 n0) <|
 ck (xle n0 1000000) <|
 bif wgB q0 a then(
 ck (okC q0 n0) <|
 ck (xle (xadd n0 1) 900000) <|
 K .ret [.int .i64 (wpE 96 q0 a)] [sN [.int .i64 most,.slo 1 0 1 0],sC [.ptr 3 0] 1,sD,sN [.ptr 4 0,.slo 6 0 m0 0],sN [.int .i64 96,.slo 11 0 (wpN 96 q0 a v) 0],sD,sC f0 1,sN [.int .i64 a,.int .u64 v],sN [.int .i64 (xmn (xmx (xar .sub .i64 most ↑n0) 0) 96),.slo 9 0 0 0],sC [] 2,sN [.int .i64 a,.int .u64 v],sC (wpC 96 q0 a v) 2] [])
 else(
 ck (okC [] 0) <|
 bif xcm .neq (wpE (xmn (xmx (xar .sub .i64 most ↑n0) 0) 96) [] a) 0 then(
 K .ret [.int .i64 (wpE (xmn (xmx (xar .sub .i64 most ↑n0) 0) 96) [] a)] (sN [.int .i64 most,.slo 1 0 1 0]::sC [.ptr 3 0] 1::sD::bL 4 n0 m0 q0 f0 [sN [.int .i64 a,.int .u64 v],sN [.int .i64 (xmn (xmx (xar .sub .i64 most ↑n0) 0) 96),.slo 11 0 (wpN (xmn (xmx (xar .sub .i64 most ↑n0) 0) 96) [] a v) 0],sD,sN [.int .i64 a,.int .u64 v],sC (wpC (xmn (xmx (xar .sub .i64 most ↑n0) 0) 96) [] a v) 2]) [])
 else(
 ck (okC q0 n0) <|
 ck (xle (xadd n0 1) 900000) <|
 K .ret [.int .i64 (wpE 96 q0 a)] [sN [.int .i64 most,.slo 1 0 1 0],sC [.ptr 3 0] 1,sD,sN [.ptr 4 0,.slo 6 0 m0 0],sN [.int .i64 96,.slo 12 0 (wpN 96 q0 a v) 0],sD,sC f0 1,sN [.int .i64 a,.int .u64 v],sN [.int .i64 (xmn (xmx (xar .sub .i64 most ↑n0) 0) 96),.slo 11 0 (wpN (xmn (xmx (xar .sub .i64 most ↑n0) 0) 96) [] a v) 0],sD,sN [.int .i64 a,.int .u64 v],sC (wpC (xmn (xmx (xar .sub .i64 most ↑n0) 0) 96) [] a v) 2,sC (wpC 96 q0 a v) 2] []))):=by kernel_rfl
theorem lf_1 (most b:Int) (n0 m0:Nat) (q0 f0:List LV) (K:Pk):(xsp prog (fun _=>none) 60 17 ((sp prog 58).drop 0) (tm0 [.ptr 0 0,.int .i64 b]) (mkS (lvH1 most n0 m0 q0 f0)) (vK [] K))=(
 ck (xle (xadd m0 1) 1000000) <|
 ck (xle (xadd 0 (xmul m0 1)) (xln f0)) <|
 K .normal [] [sN [.int .i64 most,.slo 1 0 1 0],sC [.ptr 3 0] 1,sD,sN [.ptr 4 0,.slo 8 0 (xadd m0 1) 0],sN [.int .i64 96,.slo 5 0 n0 0],sC q0 2,sD,sN [.int .i64 b],sC (xcat (xcut f0 0 (xmul m0 1)) [.int .i64 b]) 1] []):=by kernel_rfl
theorem lp_2 (most a v:Int) (n0 m0 n1 m1:Nat) (q0 f0 q1 f1:List LV) (K:Pk):(xsp prog cxl3 60 13 ((sp prog 44).drop 0) (tm0 [.ptr 0 0,.int .i64 a,.int .u64 v]) (mkS (lvH2 most n0 m0 n1 m1 q0 f0 q1 f1)) (vK [6] K))=(
 ck (okC q0 n0) <|
 ck (xle n0 1000000) <|
 bif wgB q0 a then(
 ck (okC q0 n0) <|
 ck (xle (xadd n0 1) 900000) <|
 K .ret [.int .i64 (wpE 96 q0 a)] (sN [.int .i64 most,.slo 1 0 2 0]::sC [.ptr 7 0,.ptr 3 0] 1::sD::sN [.ptr 4 0,.slo 6 0 m0 0]::sN [.int .i64 96,.slo 15 0 (wpN 96 q0 a v) 0]::sD::sC f0 1::bL 8 n1 m1 q1 f1 [sN [.int .i64 a,.int .u64 v],sN [.int .i64 (xmn (xmx (xar .sub .i64 (xar .sub .i64 most ↑n1) ↑n0) 0) 96),.slo 13 0 0 0],sC [] 2,sN [.int .i64 a,.int .u64 v],sC (wpC 96 q0 a v) 2]) [])
 else(
 ck (okC [] 0) <|
 bif xcm .neq (wpE (xmn (xmx (xar .sub .i64 (xar .sub .i64 most ↑n1) ↑n0) 0) 96) [] a) 0 then(
 K .ret [.int .i64 (wpE (xmn (xmx (xar .sub .i64 (xar .sub .i64 most ↑n1) ↑n0) 0) 96) [] a)] (sN [.int .i64 most,.slo 1 0 2 0]::sC [.ptr 7 0,.ptr 3 0] 1::sD::bL 4 n0 m0 q0 f0 (bL 8 n1 m1 q1 f1 [sN [.int .i64 a,.int .u64 v],sN [.int .i64 (xmn (xmx (xar .sub .i64 (xar .sub .i64 most ↑n1) ↑n0) 0) 96),.slo 15 0 (wpN (xmn (xmx (xar .sub .i64 (xar .sub .i64 most ↑n1) ↑n0) 0) 96) [] a v) 0],sD,sN [.int .i64 a,.int .u64 v],sC (wpC (xmn (xmx (xar .sub .i64 (xar .sub .i64 most ↑n1) ↑n0) 0) 96) [] a v) 2])) [])
 else(
 ck (okC q0 n0) <|
 ck (xle (xadd n0 1) 900000) <|
 K .ret [.int .i64 (wpE 96 q0 a)] (sN [.int .i64 most,.slo 1 0 2 0]::sC [.ptr 7 0,.ptr 3 0] 1::sD::sN [.ptr 4 0,.slo 6 0 m0 0]::sN [.int .i64 96,.slo 16 0 (wpN 96 q0 a v) 0]::sD::sC f0 1::bL 8 n1 m1 q1 f1 [sN [.int .i64 a,.int .u64 v],sN [.int .i64 (xmn (xmx (xar .sub .i64 (xar .sub .i64 most ↑n1) ↑n0) 0) 96),.slo 15 0 (wpN (xmn (xmx (xar .sub .i64 (xar .sub .i64 most ↑n1) ↑n0) 0) 96) [] a v) 0],sD,sN [.int .i64 a,.int .u64 v],sC (wpC (xmn (xmx (xar .sub .i64 (xar .sub .i64 most ↑n1) ↑n0) 0) 96) [] a v) 2,sC (wpC 96 q0 a v) 2]) []))):=by kernel_rfl
theorem lf_2 (most b:Int) (n0 m0 n1 m1:Nat) (q0 f0 q1 f1:List LV) (K:Pk):(xsp prog (fun _=>none) 60 17 ((sp prog 58).drop 0) (tm0 [.ptr 0 0,.int .i64 b]) (mkS (lvH2 most n0 m0 n1 m1 q0 f0 q1 f1)) (vK [] K))=(
 ck (xle (xadd m0 1) 1000000) <|
 ck (xle (xadd 0 (xmul m0 1)) (xln f0)) <|
 K .normal [] (sN [.int .i64 most,.slo 1 0 2 0]::sC [.ptr 7 0,.ptr 3 0] 1::sD::sN [.ptr 4 0,.slo 12 0 (xadd m0 1) 0]::sN [.int .i64 96,.slo 5 0 n0 0]::sC q0 2::sD::bL 8 n1 m1 q1 f1 [sN [.int .i64 b],sC (xcat (xcut f0 0 (xmul m0 1)) [.int .i64 b]) 1]) []):=by kernel_rfl
theorem lp_3 (most a v:Int) (n0 m0 n1 m1 n2 m2:Nat) (q0 f0 q1 f1 q2 f2:List LV) (K:Pk):(xsp prog cxl3 60 13 ((sp prog 44).drop 0) (tm0 [.ptr 0 0,.int .i64 a,.int .u64 v]) (mkS (lvH3 most n0 m0 n1 m1 n2 m2 q0 f0 q1 f1 q2 f2)) (vK [6] K))=(
 ck (okC q0 n0) <|
 ck (xle n0 1000000) <|
 bif wgB q0 a then(
 ck (okC q0 n0) <|
 ck (xle (xadd n0 1) 900000) <|
 K .ret [.int .i64 (wpE 96 q0 a)] (sN [.int .i64 most,.slo 1 0 3 0]::sC [.ptr 11 0,.ptr 7 0,.ptr 3 0] 1::sD::sN [.ptr 4 0,.slo 6 0 m0 0]::sN [.int .i64 96,.slo 19 0 (wpN 96 q0 a v) 0]::sD::sC f0 1::bL 8 n1 m1 q1 f1 (bL 12 n2 m2 q2 f2 [sN [.int .i64 a,.int .u64 v],sN [.int .i64 (xmn (xmx (xar .sub .i64 (xar .sub .i64 (xar .sub .i64 most ↑n2) ↑n1) ↑n0) 0) 96),.slo 17 0 0 0],sC [] 2,sN [.int .i64 a,.int .u64 v],sC (wpC 96 q0 a v) 2])) [])
 else(
 ck (okC [] 0) <|
 bif xcm .neq (wpE (xmn (xmx (xar .sub .i64 (xar .sub .i64 (xar .sub .i64 most ↑n2) ↑n1) ↑n0) 0) 96) [] a) 0 then(
 K .ret [.int .i64 (wpE (xmn (xmx (xar .sub .i64 (xar .sub .i64 (xar .sub .i64 most ↑n2) ↑n1) ↑n0) 0) 96) [] a)] (sN [.int .i64 most,.slo 1 0 3 0]::sC [.ptr 11 0,.ptr 7 0,.ptr 3 0] 1::sD::bL 4 n0 m0 q0 f0 (bL 8 n1 m1 q1 f1 (bL 12 n2 m2 q2 f2 [sN [.int .i64 a,.int .u64 v],sN [.int .i64 (xmn (xmx (xar .sub .i64 (xar .sub .i64 (xar .sub .i64 most ↑n2) ↑n1) ↑n0) 0) 96),.slo 19 0 (wpN (xmn (xmx (xar .sub .i64 (xar .sub .i64 (xar .sub .i64 most ↑n2) ↑n1) ↑n0) 0) 96) [] a v) 0],sD,sN [.int .i64 a,.int .u64 v],sC (wpC (xmn (xmx (xar .sub .i64 (xar .sub .i64 (xar .sub .i64 most ↑n2) ↑n1) ↑n0) 0) 96) [] a v) 2]))) [])
 else(
 ck (okC q0 n0) <|
 ck (xle (xadd n0 1) 900000) <|
 K .ret [.int .i64 (wpE 96 q0 a)] (sN [.int .i64 most,.slo 1 0 3 0]::sC [.ptr 11 0,.ptr 7 0,.ptr 3 0] 1::sD::sN [.ptr 4 0,.slo 6 0 m0 0]::sN [.int .i64 96,.slo 20 0 (wpN 96 q0 a v) 0]::sD::sC f0 1::bL 8 n1 m1 q1 f1 (bL 12 n2 m2 q2 f2 [sN [.int .i64 a,.int .u64 v],sN [.int .i64 (xmn (xmx (xar .sub .i64 (xar .sub .i64 (xar .sub .i64 most ↑n2) ↑n1) ↑n0) 0) 96),.slo 19 0 (wpN (xmn (xmx (xar .sub .i64 (xar .sub .i64 (xar .sub .i64 most ↑n2) ↑n1) ↑n0) 0) 96) [] a v) 0],sD,sN [.int .i64 a,.int .u64 v],sC (wpC (xmn (xmx (xar .sub .i64 (xar .sub .i64 (xar .sub .i64 most ↑n2) ↑n1) ↑n0) 0) 96) [] a v) 2,sC (wpC 96 q0 a v) 2])) []))):=by kernel_rfl
theorem lf_3 (most b:Int) (n0 m0 n1 m1 n2 m2:Nat) (q0 f0 q1 f1 q2 f2:List LV) (K:Pk):(xsp prog (fun _=>none) 60 17 ((sp prog 58).drop 0) (tm0 [.ptr 0 0,.int .i64 b]) (mkS (lvH3 most n0 m0 n1 m1 n2 m2 q0 f0 q1 f1 q2 f2)) (vK [] K))=(
 ck (xle (xadd m0 1) 1000000) <|
 ck (xle (xadd 0 (xmul m0 1)) (xln f0)) <|
 K .normal [] (sN [.int .i64 most,.slo 1 0 3 0]::sC [.ptr 11 0,.ptr 7 0,.ptr 3 0] 1::sD::sN [.ptr 4 0,.slo 16 0 (xadd m0 1) 0]::sN [.int .i64 96,.slo 5 0 n0 0]::sC q0 2::sD::bL 8 n1 m1 q1 f1 (bL 12 n2 m2 q2 f2 [sN [.int .i64 b],sC (xcat (xcut f0 0 (xmul m0 1)) [.int .i64 b]) 1])) []):=by kernel_rfl
theorem lp_4 (most a v:Int) (n0 m0 n1 m1 n2 m2 n3 m3:Nat) (q0 f0 q1 f1 q2 f2 q3 f3:List LV) (K:Pk):(xsp prog cxl3 60 13 ((sp prog 44).drop 0) (tm0 [.ptr 0 0,.int .i64 a,.int .u64 v]) (mkS (lvH4 most n0 m0 n1 m1 n2 m2 n3 m3 q0 f0 q1 f1 q2 f2 q3 f3)) (vK [6] K))=(
 ck (okC q0 n0) <|
 ck (xle n0 1000000) <|
 bif wgB q0 a then(
 ck (okC q0 n0) <|
 ck (xle (xadd n0 1) 900000) <|
 K .ret [.int .i64 (wpE 96 q0 a)] (sN [.int .i64 most,.slo 1 0 4 0]::sC [.ptr 15 0,.ptr 11 0,.ptr 7 0,.ptr 3 0] 1::sD::sN [.ptr 4 0,.slo 6 0 m0 0]::sN [.int .i64 96,.slo 23 0 (wpN 96 q0 a v) 0]::sD::sC f0 1::bL 8 n1 m1 q1 f1 (bL 12 n2 m2 q2 f2 (bL 16 n3 m3 q3 f3 [sN [.int .i64 a,.int .u64 v],sN [.int .i64 (xmn (xmx (xar .sub .i64 (xar .sub .i64 (xar .sub .i64 (xar .sub .i64 most ↑n3) ↑n2) ↑n1) ↑n0) 0) 96),.slo 21 0 0 0],sC [] 2,sN [.int .i64 a,.int .u64 v],sC (wpC 96 q0 a v) 2]))) [])
 else(
 ck (okC [] 0) <|
 bif xcm .neq (wpE (xmn (xmx (xar .sub .i64 (xar .sub .i64 (xar .sub .i64 (xar .sub .i64 most ↑n3) ↑n2) ↑n1) ↑n0) 0) 96) [] a) 0 then(
 K .ret [.int .i64 (wpE (xmn (xmx (xar .sub .i64 (xar .sub .i64 (xar .sub .i64 (xar .sub .i64 most ↑n3) ↑n2) ↑n1) ↑n0) 0) 96) [] a)] (sN [.int .i64 most,.slo 1 0 4 0]::sC [.ptr 15 0,.ptr 11 0,.ptr 7 0,.ptr 3 0] 1::sD::bL 4 n0 m0 q0 f0 (bL 8 n1 m1 q1 f1 (bL 12 n2 m2 q2 f2 (bL 16 n3 m3 q3 f3 [sN [.int .i64 a,.int .u64 v],sN [.int .i64 (xmn (xmx (xar .sub .i64 (xar .sub .i64 (xar .sub .i64 (xar .sub .i64 most ↑n3) ↑n2) ↑n1) ↑n0) 0) 96),.slo 23 0 (wpN (xmn (xmx (xar .sub .i64 (xar .sub .i64 (xar .sub .i64 (xar .sub .i64 most ↑n3) ↑n2) ↑n1) ↑n0) 0) 96) [] a v) 0],sD,sN [.int .i64 a,.int .u64 v],sC (wpC (xmn (xmx (xar .sub .i64 (xar .sub .i64 (xar .sub .i64 (xar .sub .i64 most ↑n3) ↑n2) ↑n1) ↑n0) 0) 96) [] a v) 2])))) [])
 else(
 ck (okC q0 n0) <|
 ck (xle (xadd n0 1) 900000) <|
 K .ret [.int .i64 (wpE 96 q0 a)] (sN [.int .i64 most,.slo 1 0 4 0]::sC [.ptr 15 0,.ptr 11 0,.ptr 7 0,.ptr 3 0] 1::sD::sN [.ptr 4 0,.slo 6 0 m0 0]::sN [.int .i64 96,.slo 24 0 (wpN 96 q0 a v) 0]::sD::sC f0 1::bL 8 n1 m1 q1 f1 (bL 12 n2 m2 q2 f2 (bL 16 n3 m3 q3 f3 [sN [.int .i64 a,.int .u64 v],sN [.int .i64 (xmn (xmx (xar .sub .i64 (xar .sub .i64 (xar .sub .i64 (xar .sub .i64 most ↑n3) ↑n2) ↑n1) ↑n0) 0) 96),.slo 23 0 (wpN (xmn (xmx (xar .sub .i64 (xar .sub .i64 (xar .sub .i64 (xar .sub .i64 most ↑n3) ↑n2) ↑n1) ↑n0) 0) 96) [] a v) 0],sD,sN [.int .i64 a,.int .u64 v],sC (wpC (xmn (xmx (xar .sub .i64 (xar .sub .i64 (xar .sub .i64 (xar .sub .i64 most ↑n3) ↑n2) ↑n1) ↑n0) 0) 96) [] a v) 2,sC (wpC 96 q0 a v) 2]))) []))):=by kernel_rfl
theorem lf_4 (most b:Int) (n0 m0 n1 m1 n2 m2 n3 m3:Nat) (q0 f0 q1 f1 q2 f2 q3 f3:List LV) (K:Pk):(xsp prog (fun _=>none) 60 17 ((sp prog 58).drop 0) (tm0 [.ptr 0 0,.int .i64 b]) (mkS (lvH4 most n0 m0 n1 m1 n2 m2 n3 m3 q0 f0 q1 f1 q2 f2 q3 f3)) (vK [] K))=(
 ck (xle (xadd m0 1) 1000000) <|
 ck (xle (xadd 0 (xmul m0 1)) (xln f0)) <|
 K .normal [] (sN [.int .i64 most,.slo 1 0 4 0]::sC [.ptr 15 0,.ptr 11 0,.ptr 7 0,.ptr 3 0] 1::sD::sN [.ptr 4 0,.slo 20 0 (xadd m0 1) 0]::sN [.int .i64 96,.slo 5 0 n0 0]::sC q0 2::sD::bL 8 n1 m1 q1 f1 (bL 12 n2 m2 q2 f2 (bL 16 n3 m3 q3 f3 [sN [.int .i64 b],sC (xcat (xcut f0 0 (xmul m0 1)) [.int .i64 b]) 1]))) []):=by kernel_rfl
theorem lp_5 (most a v:Int) (n0 m0 n1 m1 n2 m2 n3 m3 n4 m4:Nat) (q0 f0 q1 f1 q2 f2 q3 f3 q4 f4:List LV) (K:Pk):(xsp prog cxl3 60 13 ((sp prog 44).drop 0) (tm0 [.ptr 0 0,.int .i64 a,.int .u64 v]) (mkS (lvH5 most n0 m0 n1 m1 n2 m2 n3 m3 n4 m4 q0 f0 q1 f1 q2 f2 q3 f3 q4 f4)) (vK [6] K))=(
 ck (okC q0 n0) <|
 ck (xle n0 1000000) <|
 bif wgB q0 a then(
 ck (okC q0 n0) <|
 ck (xle (xadd n0 1) 900000) <|
 K .ret [.int .i64 (wpE 96 q0 a)] (sN [.int .i64 most,.slo 1 0 5 0]::sC [.ptr 19 0,.ptr 15 0,.ptr 11 0,.ptr 7 0,.ptr 3 0] 1::sD::sN [.ptr 4 0,.slo 6 0 m0 0]::sN [.int .i64 96,.slo 27 0 (wpN 96 q0 a v) 0]::sD::sC f0 1::bL 8 n1 m1 q1 f1 (bL 12 n2 m2 q2 f2 (bL 16 n3 m3 q3 f3 (bL 20 n4 m4 q4 f4 [sN [.int .i64 a,.int .u64 v],sN [.int .i64 (xmn (xmx (xar .sub .i64 (xar .sub .i64 (xar .sub .i64 (xar .sub .i64 (xar .sub .i64 most ↑n4) ↑n3) ↑n2) ↑n1) ↑n0) 0) 96),.slo 25 0 0 0],sC [] 2,sN [.int .i64 a,.int .u64 v],sC (wpC 96 q0 a v) 2])))) [])
 else(
 ck (okC [] 0) <|
 bif xcm .neq (wpE (xmn (xmx (xar .sub .i64 (xar .sub .i64 (xar .sub .i64 (xar .sub .i64 (xar .sub .i64 most ↑n4) ↑n3) ↑n2) ↑n1) ↑n0) 0) 96) [] a) 0 then(
 K .ret [.int .i64 (wpE (xmn (xmx (xar .sub .i64 (xar .sub .i64 (xar .sub .i64 (xar .sub .i64 (xar .sub .i64 most ↑n4) ↑n3) ↑n2) ↑n1) ↑n0) 0) 96) [] a)] (sN [.int .i64 most,.slo 1 0 5 0]::sC [.ptr 19 0,.ptr 15 0,.ptr 11 0,.ptr 7 0,.ptr 3 0] 1::sD::bL 4 n0 m0 q0 f0 (bL 8 n1 m1 q1 f1 (bL 12 n2 m2 q2 f2 (bL 16 n3 m3 q3 f3 (bL 20 n4 m4 q4 f4 [sN [.int .i64 a,.int .u64 v],sN [.int .i64 (xmn (xmx (xar .sub .i64 (xar .sub .i64 (xar .sub .i64 (xar .sub .i64 (xar .sub .i64 most ↑n4) ↑n3) ↑n2) ↑n1) ↑n0) 0) 96),.slo 27 0 (wpN (xmn (xmx (xar .sub .i64 (xar .sub .i64 (xar .sub .i64 (xar .sub .i64 (xar .sub .i64 most ↑n4) ↑n3) ↑n2) ↑n1) ↑n0) 0) 96) [] a v) 0],sD,sN [.int .i64 a,.int .u64 v],sC (wpC (xmn (xmx (xar .sub .i64 (xar .sub .i64 (xar .sub .i64 (xar .sub .i64 (xar .sub .i64 most ↑n4) ↑n3) ↑n2) ↑n1) ↑n0) 0) 96) [] a v) 2]))))) [])
 else(
 ck (okC q0 n0) <|
 ck (xle (xadd n0 1) 900000) <|
 K .ret [.int .i64 (wpE 96 q0 a)] (sN [.int .i64 most,.slo 1 0 5 0]::sC [.ptr 19 0,.ptr 15 0,.ptr 11 0,.ptr 7 0,.ptr 3 0] 1::sD::sN [.ptr 4 0,.slo 6 0 m0 0]::sN [.int .i64 96,.slo 28 0 (wpN 96 q0 a v) 0]::sD::sC f0 1::bL 8 n1 m1 q1 f1 (bL 12 n2 m2 q2 f2 (bL 16 n3 m3 q3 f3 (bL 20 n4 m4 q4 f4 [sN [.int .i64 a,.int .u64 v],sN [.int .i64 (xmn (xmx (xar .sub .i64 (xar .sub .i64 (xar .sub .i64 (xar .sub .i64 (xar .sub .i64 most ↑n4) ↑n3) ↑n2) ↑n1) ↑n0) 0) 96),.slo 27 0 (wpN (xmn (xmx (xar .sub .i64 (xar .sub .i64 (xar .sub .i64 (xar .sub .i64 (xar .sub .i64 most ↑n4) ↑n3) ↑n2) ↑n1) ↑n0) 0) 96) [] a v) 0],sD,sN [.int .i64 a,.int .u64 v],sC (wpC (xmn (xmx (xar .sub .i64 (xar .sub .i64 (xar .sub .i64 (xar .sub .i64 (xar .sub .i64 most ↑n4) ↑n3) ↑n2) ↑n1) ↑n0) 0) 96) [] a v) 2,sC (wpC 96 q0 a v) 2])))) []))):=by kernel_rfl
theorem lf_5 (most b:Int) (n0 m0 n1 m1 n2 m2 n3 m3 n4 m4:Nat) (q0 f0 q1 f1 q2 f2 q3 f3 q4 f4:List LV) (K:Pk):(xsp prog (fun _=>none) 60 17 ((sp prog 58).drop 0) (tm0 [.ptr 0 0,.int .i64 b]) (mkS (lvH5 most n0 m0 n1 m1 n2 m2 n3 m3 n4 m4 q0 f0 q1 f1 q2 f2 q3 f3 q4 f4)) (vK [] K))=(
 ck (xle (xadd m0 1) 1000000) <|
 ck (xle (xadd 0 (xmul m0 1)) (xln f0)) <|
 K .normal [] (sN [.int .i64 most,.slo 1 0 5 0]::sC [.ptr 19 0,.ptr 15 0,.ptr 11 0,.ptr 7 0,.ptr 3 0] 1::sD::sN [.ptr 4 0,.slo 24 0 (xadd m0 1) 0]::sN [.int .i64 96,.slo 5 0 n0 0]::sC q0 2::sD::bL 8 n1 m1 q1 f1 (bL 12 n2 m2 q2 f2 (bL 16 n3 m3 q3 f3 (bL 20 n4 m4 q4 f4 [sN [.int .i64 b],sC (xcat (xcut f0 0 (xmul m0 1)) [.int .i64 b]) 1])))) []):=by kernel_rfl
theorem lp_6 (most a v:Int) (n0 m0 n1 m1 n2 m2 n3 m3 n4 m4 n5 m5:Nat) (q0 f0 q1 f1 q2 f2 q3 f3 q4 f4 q5 f5:List LV) (K:Pk):(xsp prog cxl3 60 13 ((sp prog 44).drop 0) (tm0 [.ptr 0 0,.int .i64 a,.int .u64 v]) (mkS (lvH6 most n0 m0 n1 m1 n2 m2 n3 m3 n4 m4 n5 m5 q0 f0 q1 f1 q2 f2 q3 f3 q4 f4 q5 f5)) (vK [6] K))=(
 ck (okC q0 n0) <|
 ck (xle n0 1000000) <|
 bif wgB q0 a then(
 ck (okC q0 n0) <|
 ck (xle (xadd n0 1) 900000) <|
 K .ret [.int .i64 (wpE 96 q0 a)] (sN [.int .i64 most,.slo 1 0 6 0]::sC [.ptr 23 0,.ptr 19 0,.ptr 15 0,.ptr 11 0,.ptr 7 0,.ptr 3 0] 1::sD::sN [.ptr 4 0,.slo 6 0 m0 0]::sN [.int .i64 96,.slo 31 0 (wpN 96 q0 a v) 0]::sD::sC f0 1::bL 8 n1 m1 q1 f1 (bL 12 n2 m2 q2 f2 (bL 16 n3 m3 q3 f3 (bL 20 n4 m4 q4 f4 (bL 24 n5 m5 q5 f5 [sN [.int .i64 a,.int .u64 v],sN [.int .i64 (xmn (xmx (xar .sub .i64 (xar .sub .i64 (xar .sub .i64 (xar .sub .i64 (xar .sub .i64 (xar .sub .i64 most ↑n5) ↑n4) ↑n3) ↑n2) ↑n1) ↑n0) 0) 96),.slo 29 0 0 0],sC [] 2,sN [.int .i64 a,.int .u64 v],sC (wpC 96 q0 a v) 2]))))) [])
 else(
 ck (okC [] 0) <|
 bif xcm .neq (wpE (xmn (xmx (xar .sub .i64 (xar .sub .i64 (xar .sub .i64 (xar .sub .i64 (xar .sub .i64 (xar .sub .i64 most ↑n5) ↑n4) ↑n3) ↑n2) ↑n1) ↑n0) 0) 96) [] a) 0 then(
 K .ret [.int .i64 (wpE (xmn (xmx (xar .sub .i64 (xar .sub .i64 (xar .sub .i64 (xar .sub .i64 (xar .sub .i64 (xar .sub .i64 most ↑n5) ↑n4) ↑n3) ↑n2) ↑n1) ↑n0) 0) 96) [] a)] (sN [.int .i64 most,.slo 1 0 6 0]::sC [.ptr 23 0,.ptr 19 0,.ptr 15 0,.ptr 11 0,.ptr 7 0,.ptr 3 0] 1::sD::bL 4 n0 m0 q0 f0 (bL 8 n1 m1 q1 f1 (bL 12 n2 m2 q2 f2 (bL 16 n3 m3 q3 f3 (bL 20 n4 m4 q4 f4 (bL 24 n5 m5 q5 f5 [sN [.int .i64 a,.int .u64 v],sN [.int .i64 (xmn (xmx (xar .sub .i64 (xar .sub .i64 (xar .sub .i64 (xar .sub .i64 (xar .sub .i64 (xar .sub .i64 most ↑n5) ↑n4) ↑n3) ↑n2) ↑n1) ↑n0) 0) 96),.slo 31 0 (wpN (xmn (xmx (xar .sub .i64 (xar .sub .i64 (xar .sub .i64 (xar .sub .i64 (xar .sub .i64 (xar .sub .i64 most ↑n5) ↑n4) ↑n3) ↑n2) ↑n1) ↑n0) 0) 96) [] a v) 0],sD,sN [.int .i64 a,.int .u64 v],sC (wpC (xmn (xmx (xar .sub .i64 (xar .sub .i64 (xar .sub .i64 (xar .sub .i64 (xar .sub .i64 (xar .sub .i64 most ↑n5) ↑n4) ↑n3) ↑n2) ↑n1) ↑n0) 0) 96) [] a v) 2])))))) [])
 else(
 ck (okC q0 n0) <|
 ck (xle (xadd n0 1) 900000) <|
 K .ret [.int .i64 (wpE 96 q0 a)] (sN [.int .i64 most,.slo 1 0 6 0]::sC [.ptr 23 0,.ptr 19 0,.ptr 15 0,.ptr 11 0,.ptr 7 0,.ptr 3 0] 1::sD::sN [.ptr 4 0,.slo 6 0 m0 0]::sN [.int .i64 96,.slo 32 0 (wpN 96 q0 a v) 0]::sD::sC f0 1::bL 8 n1 m1 q1 f1 (bL 12 n2 m2 q2 f2 (bL 16 n3 m3 q3 f3 (bL 20 n4 m4 q4 f4 (bL 24 n5 m5 q5 f5 [sN [.int .i64 a,.int .u64 v],sN [.int .i64 (xmn (xmx (xar .sub .i64 (xar .sub .i64 (xar .sub .i64 (xar .sub .i64 (xar .sub .i64 (xar .sub .i64 most ↑n5) ↑n4) ↑n3) ↑n2) ↑n1) ↑n0) 0) 96),.slo 31 0 (wpN (xmn (xmx (xar .sub .i64 (xar .sub .i64 (xar .sub .i64 (xar .sub .i64 (xar .sub .i64 (xar .sub .i64 most ↑n5) ↑n4) ↑n3) ↑n2) ↑n1) ↑n0) 0) 96) [] a v) 0],sD,sN [.int .i64 a,.int .u64 v],sC (wpC (xmn (xmx (xar .sub .i64 (xar .sub .i64 (xar .sub .i64 (xar .sub .i64 (xar .sub .i64 (xar .sub .i64 most ↑n5) ↑n4) ↑n3) ↑n2) ↑n1) ↑n0) 0) 96) [] a v) 2,sC (wpC 96 q0 a v) 2]))))) []))):=by kernel_rfl
theorem lf_6 (most b:Int) (n0 m0 n1 m1 n2 m2 n3 m3 n4 m4 n5 m5:Nat) (q0 f0 q1 f1 q2 f2 q3 f3 q4 f4 q5 f5:List LV) (K:Pk):(xsp prog (fun _=>none) 60 17 ((sp prog 58).drop 0) (tm0 [.ptr 0 0,.int .i64 b]) (mkS (lvH6 most n0 m0 n1 m1 n2 m2 n3 m3 n4 m4 n5 m5 q0 f0 q1 f1 q2 f2 q3 f3 q4 f4 q5 f5)) (vK [] K))=(
 ck (xle (xadd m0 1) 1000000) <|
 ck (xle (xadd 0 (xmul m0 1)) (xln f0)) <|
 K .normal [] (sN [.int .i64 most,.slo 1 0 6 0]::sC [.ptr 23 0,.ptr 19 0,.ptr 15 0,.ptr 11 0,.ptr 7 0,.ptr 3 0] 1::sD::sN [.ptr 4 0,.slo 28 0 (xadd m0 1) 0]::sN [.int .i64 96,.slo 5 0 n0 0]::sC q0 2::sD::bL 8 n1 m1 q1 f1 (bL 12 n2 m2 q2 f2 (bL 16 n3 m3 q3 f3 (bL 20 n4 m4 q4 f4 (bL 24 n5 m5 q5 f5 [sN [.int .i64 b],sC (xcat (xcut f0 0 (xmul m0 1)) [.int .i64 b]) 1]))))) []):=by kernel_rfl
theorem cxl3_ok:CtrOk prog (ctrOf cxl3):=cxl_ok ⟨wgetG_ok,wputG_ok,wnewG_ok,wtake1G_ok,trivial⟩
end
end Go.Lev
