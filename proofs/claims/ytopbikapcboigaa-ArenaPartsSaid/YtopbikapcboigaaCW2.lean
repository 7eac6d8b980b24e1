/- chapter 8: writes, in lists: Get, Put, Take, New -/
import Derived.Test.YtopbikapcboigaaCW1
import Derived.Test.YtopbikapcboigaaLc
import Derived.Test.YtopbikapcboigaaChecked
import Derived.KernelRfl
namespace Go.Lev
set_option linter.unusedSimpArgs false
set_option linter.unusedVariables false
open Go.RowKit
open Go.Proofs.Try (prog)
set_option maxRecDepth 100000
noncomputable section
theorem cloneCell_s (n:Nat) (cs:List LV) (K:Pk):(xsp prog (fun _=>none) 40 8 ((sp prog 95).drop 0) (tm0 [.slo 0 0 (n+1) 0]) (mkS [.cells cs (some 2)]) (vK [0,2,4] K))=(
 ck (xle (xadd 0 (xmul (n+1) 2)) (xln cs)) <|
 ck (xle (xadd 0 (n+1)) 1000000) <|
 K .ret [.slo 0 0 (n+1) 0,.slo 2 0 (xadd 0 (n+1)) 0,.bool false] [sC cs 2,sN [],sC (xcat [] (xcut cs 0 (xmul (n+1) 2))) 2] []):=by kernel_rfl
theorem cloneCell_a (K:Pk):(xsp prog (fun _=>none) 40 8 (seg (sp prog 95) 0 2) (tm0 [.slo 0 0 0 0]) (mkS [.cells [] (some 2)]) (vK [0,2,4] K))=(
 K .normal [.slo 0 0 0 0,.nils,.unb] [sC [] 2] []):=by kernel_rfl
theorem cloneCell_t (K:Pk):(xcode prog (fun _=>none) 40 8 (condT (nthC (sp prog 95) 2)) (mkTm 8 [(0,.slo 0 0 0 0),(4,.unb)]) (mkS [.cells [] (some 2)]) (vK [0,2,4] K))=(
 K .ret [.slo 0 0 0 0,.nils,.unb] [sC [] 2] []):=by kernel_rfl
theorem cloneCell_f (K:Pk):(xcode prog (fun _=>none) 40 8 (condF (nthC (sp prog 95) 2)) (mkTm 8 [(0,.slo 0 0 0 0),(4,.unb)]) (mkS [.cells [] (some 2)]) (vK [0,2,4] K))=(
 K .normal [.slo 0 0 0 0,.any,.unb] [sC [] 2] []):=by kernel_rfl
theorem cloneCell_z (K:Pk):(xsp prog (fun _=>none) 40 8 ((sp prog 95).drop 3) (mkTm 8 [(0,.slo 0 0 0 0)]) (mkS [.cells [] (some 2)]) (vK [0,2,4] K))=(
 K .ret [.slo 0 0 0 0,.sl 1 0 0 0,.any] [sC [] 2,sN []] []):=by kernel_rfl
theorem cloneCell_ok:GOk prog 95 (cloneG 2):=by
 refine cloneG_ok fun n cs hn hl hno=>?_
 refine SFun.mono (SFun.pieces (Q:=fun l b=>l=.slo 1 0 n 0∧b=[.cells cs (some 2),.cells cs (some 2)]) 8 1 [0,2,4] [2] (by kernel_rfl) rfl rfl rfl ?_) fun l s' ⟨b0,⟨h1,h2⟩,h3⟩=>⟨h1,by rw [h3,h2]⟩
 cases n with
 | zero =>
   have:cs=[]:=List.length_eq_zero_iff.1 (by omega)
   subst this
   refine SSp.to noCx_ok (n:=40) (g:=[]) 2 2 rfl (σ:=Unit) (fun _=>[(0,.slo 0 0 0 0),(4,.unb)]) (fun _=>[.cells [] (some 2)]) (mkS_le (Nat.le_refl _)) (by kernel_rfl) ?_ fun _=>?_
   ·rw [cloneCell_a]; exact⟨rfl,(),[.id 0],by(exact zC)⟩
   refine SSp.code_to (g:=[]) 3 rfl (σ:=Unit) (fun _=>[(0,.slo 0 0 0 0)]) (fun _=>[.cells [] (some 2)]) (by kernel_rfl) ?_ fun _=>?_
   ·refine SCode.unb noCx_ok (n:=40) (by kernel_rfl) (by kernel_rfl) (mkS_le (Nat.le_refl _)) ?_ ?_
    ·rw [cloneCell_t]; exact⟨trivial,rfl,_,_,[.id 0,.none],⟨rfl,rfl⟩,by(exact zC)⟩
    ·rw [cloneCell_f]; exact⟨rfl,(),[.id 0],by(exact zC)⟩
   refine SSp.last noCx_ok (n:=40) (mkS_le (Nat.le_refl _)) ?_
   rw [cloneCell_z]
   exact⟨trivial,rfl,_,_,[.id 0,.cap 1 0 0],⟨rfl,rfl⟩,by(exact zC)⟩
 | succ n =>
   refine SSp.last noCx_ok (n:=40) (mkS_le (Nat.le_refl _)) ?_
   rw [cloneCell_s]
   have e:xcut cs 0 ((n+1) * 2)=cs:=xcut_all (by omega)
   (try simp only [Nat.mul_one] at e)
   (refine zN1 @e ?_)
   (repeat (with_reducible refine must (by(first | with_reducible rfl | exact t_le (by omega) | exact t_eq (by omega) | exact t_nn (by omega) | exact t_lss (by omega) | exact t_leq (by omega) | exact t_gtr (by omega) | exact t_geq (by omega) | exact t_eql (by omega) | exact t_neq (by omega) | exact t_z (by omega) | exact wd_not_f | assumption)) ?_))
   exact⟨trivial,rfl,_,_,[.id 0,.id 2],⟨rfl,rfl⟩,by(exact zC)⟩
theorem noids_ok {qc:List LV} {n:Nat} (h:okC qc n=true):noIds qc=true:=by obtain⟨xs,rfl,_⟩:=okC_iff.1 h; exact noids_c xs
def cxf:Cx:=cxl [(96,findG)]
abbrev wT (m:Int) (n:Nat) (cs:List LV):List LB:=[.cells [.int .i64 m,.slo 2 0 n 0] none,.dead,.cells cs (some 2)]
theorem cxf_ok:CtrOk prog (ctrOf cxf):=cxl_ok ⟨findG_ok,trivial⟩
theorem fndW_enc (xs:CL) (a:Int):fndW (encL cell xs) a=fnd xs a:=by rw [fndW,decC_enc]
theorem wg_x (m a:Int) (n:Nat) (cs:List LV) (K:Fk):(xfun prog cxf 40 89 [.ptr 0 0,.int .i64 a] (mkS (wS m n cs)) (vF K))=(
 ck (okC cs n) <|
 bif xcm .geq (fndW cs a) 0 then(
 ck (xnn (fndW cs a)) <|
 ck (xle (xadd (xnat (fndW cs a)) 1) n) <|
 ck (xle (xadd (xadd (xix 0 (xnat (fndW cs a)) 2) 1) 1) (xln cs)) <|
 ck (isI .u64 (nthD cs (xadd (xix 0 (xnat (fndW cs a)) 2) 1))) <|
 K (.tup [.int .u64 (asI (nthD cs (xadd (xix 0 (xnat (fndW cs a)) 2) 1))),.bool true]) [sN [.int .i64 m,.slo 1 0 n 0],sC cs 2] [])
 else(
 K (.tup [.int .u64 0,.bool false]) [sN [.int .i64 m,.slo 1 0 n 0],sC cs 2] [])):=by kernel_rfl
theorem wp_x (m a z:Int) (n:Nat) (cs:List LV) (K:Fk):(xfun prog cxf 40 92 [.ptr 0 0,.int .i64 a,.int .u64 z] (mkS (wS m n cs)) (vF K))=(
 bif xcm .lss a 1 then(
 K (.int .i64 2) [sN [.int .i64 m,.slo 1 0 n 0],sC cs 2] [])
 else(
 bif xcm .geq a 256 then(
 K (.int .i64 2) [sN [.int .i64 m,.slo 1 0 n 0],sC cs 2] [])
 else(
 ck (okC cs n) <|
 bif xcm .geq (fndW cs a) 0 then(
 ck (xnn (fndW cs a)) <|
 ck (xle (xadd (xnat (fndW cs a)) 1) n) <|
 ck (xle (xadd (xadd (xix 0 (xnat (fndW cs a)) 2) 1) 1) (xln cs)) <|
 K (.int .i64 0) [sN [.int .i64 m,.slo 1 0 n 0],sC (xlay cs (xadd (xix 0 (xnat (fndW cs a)) 2) 1) [.int .u64 z]) 2] [])
 else(
 bif xcm .geq (↑n) m then(
 K (.int .i64 5) [sN [.int .i64 m,.slo 1 0 n 0],sC cs 2] [])
 else(
 ck (xle (xadd n 1) 1000000) <|
 ck (xle (xadd 0 (xmul n 2)) (xln cs)) <|
 K (.int .i64 0) [sN [.int .i64 m,.slo 3 0 (xadd n 1) 0],sD,sN [.int .i64 a,.int .u64 z],sC (xcat (xcut cs 0 (xmul n 2)) [.int .i64 a,.int .u64 z]) 2] []))))):=by kernel_rfl
theorem wn_x (m:Int) (K:Fk):(xfun prog (fun _=>none) 60 86 [.int .i64 m] (mkS []) (vF K))=(
 K (.ptr 0 0) [sN [.int .i64 (xmn (xmx m 0) 96),.nils]] []):=by kernel_rfl
def wgV (cs:List LV) (a:Int):Int:=fV (decC cs) a
def wgB (cs:List LV) (a:Int):Bool:=fB (decC cs) a
def wpE (m:Int) (cs:List LV) (a:Int):Int:=wPe m (decC cs) a
def wpN (m:Int) (cs:List LV) (a z:Int):Nat:=(wPc m (decC cs) a z).length
def wpC (m:Int) (cs:List LV) (a z:Int):List LV:=encL cell (wPc m (decC cs) a z)
def wtE (m:Int) (cs ls:List LV):Int:=(wTk m (decC cs) (decC ls)).1
def wtN (m:Int) (cs ls:List LV):Nat:=(wTc m (decC cs) (decC ls)).length
def wtC (m:Int) (cs ls:List LV):List LV:=encL cell (wTc m (decC cs) (decC ls))
theorem wget_ok (m a:Int) (xs:CL) (hn:xs.length≤1000000):SFun prog 89 [.ptr 0 0,.int .i64 a] (mkS (wS m xs.length (encL cell xs))) fun l t=>l=.tup [.int .u64 (fV xs a),.bool (fB xs a)]∧t=mkS (wS m xs.length (encL cell xs)):=by
 refine SFun.mono (SFun.vc (Q:=fun l b=>l=.tup [.int .u64 (fV xs a),.bool (fB xs a)]∧b=wS m xs.length (encL cell xs)) cxf_ok (n:=40) 2 rfl ?_) fun l s' ⟨b0,⟨h1,h2⟩,h3⟩=>⟨h1,by rw [h3,h2]⟩
 have nx:=noids_c xs
 have lx:=cell_n xs
 have ok:okC (encL cell xs) xs.length=true:=okC_enc (by omega)
 rw [wg_x]
 rcases fnd_cases xs a with⟨i,hi,e1,e2,e3,_⟩ | ⟨e2,e3,_⟩
 ·have e4:fV xs a=xs[i].2:=by rw [fV,e3]; rfl
  have e5:fB xs a=true:=by rw [fB,e3]; rfl
  rw [e4,e5]
  (refine zN5 @ok @fndW_enc @e2 @lx (cell_1 hi) ?_)
  (refine zR ?_)
  exact⟨rfl,_,_,[.id 0,.id 1],⟨rfl,rfl⟩,by(exact zC)⟩
 ·have e4:fV xs a=0:=by rw [fV,e3]; rfl
  have e5:fB xs a=false:=by rw [fB,e3]; rfl
  rw [e4,e5]
  (refine zN3 @ok @fndW_enc @e2 ?_)
  (refine zR ?_)
  exact⟨rfl,_,_,[.id 0,.id 1],⟨rfl,rfl⟩,by(exact zC)⟩
theorem wput_ok (m a z:Int) (xs:CL) (hn:xs.length < 1000000):SFun prog 92 [.ptr 0 0,.int .i64 a,.int .u64 z] (mkS (wS m xs.length (encL cell xs))) fun l t=>l=.int .i64 (wPe m xs a)∧t=mkS (wT m (wPc m xs a z).length (encL cell (wPc m xs a z))):=by
 refine SFun.mono (SFun.vc (Q:=fun l b=>l=.int .i64 (wPe m xs a)∧b=wT m (wPc m xs a z).length (encL cell (wPc m xs a z))) cxf_ok (n:=40) 2 rfl ?_) fun l s' ⟨b0,⟨h1,h2⟩,h3⟩=>⟨h1,by rw [h3,h2]⟩
 have nx:=noids_c xs
 have lx:=cell_n xs
 have ok:okC (encL cell xs) xs.length=true:=okC_enc (by omega)
 rw [wp_x]
 by_cases c:a < 1∨256≤a
 ·have e:wPe m xs a=2:=if_pos c
  have e':wPc m xs a z=xs:=by rw [wPc,e,if_neg (by omega)]
  rw [e,e']
  rcases c with c | c
  ·(refine zR ?_)
   exact⟨rfl,_,_,[.id 0,.id 1,.id 1],⟨rfl,rfl⟩,by(exact zC)⟩
  ·by_cases c0:a < 1
   ·(refine zR ?_)
    exact⟨rfl,_,_,[.id 0,.id 1,.id 1],⟨rfl,rfl⟩,by(exact zC)⟩
   ·(refine zR ?_)
    exact⟨rfl,_,_,[.id 0,.id 1,.id 1],⟨rfl,rfl⟩,by(exact zC)⟩
 rcases fnd_cases xs a with⟨i,hi,e1,e2,e3,e4⟩ | ⟨e2,e3,e4⟩
 ·have e:wPe m xs a=0:=by rw [wPe,if_neg c,e3]; rfl
  have e':wPc m xs a z=xs.set i (xs[i].1,z):=by rw [wPc,e,if_pos rfl,e4]
  have nz:=noids_c (xs.set i (xs[i].1,z))
  have ll:(xs.set i (xs[i].1,z)).length=xs.length:=by simp
  rw [e,e',ll]
  (refine zN5 @ok @fndW_enc @e2 @lx (cell_set hi) ?_)
  (refine zR ?_)
  exact⟨rfl,_,_,[.id 0,.id 1,.id 1],⟨rfl,rfl⟩,by(exact zC)⟩
 ·by_cases c2:m≤(xs.length:Int)
  ·have e:wPe m xs a=5:=by rw [wPe,if_neg c,e3,if_neg (by simp),if_pos c2]
   have e':wPc m xs a z=xs:=by rw [wPc,e,if_neg (by omega)]
   rw [e,e']
   (refine zN3 @ok @fndW_enc @e2 ?_)
   (refine zR ?_)
   exact⟨rfl,_,_,[.id 0,.id 1,.id 1],⟨rfl,rfl⟩,by(exact zC)⟩
  ·have e:wPe m xs a=0:=by rw [wPe,if_neg c,e3,if_neg (by simp),if_neg c2]
   have e':wPc m xs a z=xs++[(a,z)]:=by rw [wPc,e,if_pos rfl,e4]
   have nz:=noids_c (xs++[(a,z)])
   have ll:(xs++[(a,z)]).length=xs.length+1:=by simp
   rw [e,e',ll]
   (refine zN4 @ok @fndW_enc @e2 @cell_push ?_)
   (refine zR ?_)
   exact⟨rfl,_,_,[.id 0,.id 1,.id 3],⟨rfl,rfl⟩,by(exact zC)⟩
theorem wnew_ok (m:Int):SFun prog 86 [.int .i64 m] (mkS []) fun l t=>l=.ptr 0 0∧t=mkS [.cells [.int .i64 (xmn (xmx m 0) 96),.slo 1 0 0 0] none,.cells [] (some 2)]:=by
 refine SFun.mono (SFun.vc (Q:=fun l b=>l=.ptr 0 0∧b=[.cells [.int .i64 (xmn (xmx m 0) 96),.slo 1 0 0 0] none,.cells [] (some 2)]) noCx_ok (n:=60) 0 rfl ?_) fun l s' ⟨b0,⟨h1,h2⟩,h3⟩=>⟨h1,by rw [h3,h2]⟩
 rw [wn_x]
 exact⟨rfl,_,_,[.id 0,.none],⟨rfl,rfl⟩,by(exact zC)⟩
theorem wget_c (m a:Int) (n:Nat) (cs:List LV) (k1:okC cs n=true) (k2:xle n 1000000=true):SFun prog 89 [.ptr 0 0,.int .i64 a] (mkS (wS m n cs)) fun l t=>l=.tup [.int .u64 (wgV cs a),.bool (wgB cs a)]∧t=mkS (wS m n cs):=by
 obtain⟨xs,rfl,rfl,_⟩:=okC_iff.1 k1
 rw [wd_le,decide_eq_true_eq] at k2
 simp only [wgV,wgB,decC_enc]
 exact wget_ok m a xs k2
theorem wput_c (m a z:Int) (n:Nat) (cs:List LV) (k1:okC cs n=true) (k2:xle (xadd n 1) 1000000=true):SFun prog 92 [.ptr 0 0,.int .i64 a,.int .u64 z] (mkS (wS m n cs)) fun l t=>l=.int .i64 (wpE m cs a)∧t=mkS (wT m (wpN m cs a z) (wpC m cs a z)):=by
 obtain⟨xs,rfl,rfl,_⟩:=okC_iff.1 k1
 rw [wd_le,wd_add,decide_eq_true_eq] at k2
 simp only [wpE,wpN,wpC,decC_enc]
 exact wput_ok m a z xs (by omega)
def wgetG:Gc:=fun args s=>match args,s.g with
 | [.ptr b 0,.int .i64 a],[]=>(match s.h.get b with
   | some (.cells [.int .i64 m,.slo q 0 n 0] none)=>(match s.h.get q with
     | some (.cells cs (some 2))=>cond (nodupB [b,q]) (match s.lay [b,q] [.cells [.int .i64 m,.slo q 0 n 0] none,.cells cs (some 2)] [] with
       | some s'=>some ([okC cs n,xle n 1000000],.tup [.int .u64 (wgV cs a),.bool (wgB cs a)],s')
       | none=>none) none
     | _=>none)
   | _=>none)
 | _,_=>none
theorem wgetG_ok:GOk prog 89 wgetG:=by
 intro args s bs l s' hg hb hfr
 unfold wgetG at hg
 split at hg
 ·rename_i b a hgl
  split at hg
  ·rename_i m q n hb0
   split at hg
   ·rename_i cs hb1
    cases hbc:nodupB [b,q] with
    | false=>rw [hbc] at hg; cases hg
    | true =>
      rw [hbc] at hg
      simp only [cond_true] at hg
      split at hg
      ·rename_i s1 hs1
       simp only [Option.some.injEq,Prod.mk.injEq] at hg
       obtain⟨rfl,rfl,rfl⟩:=hg
       simp only [allT_cons] at hb
       obtain⟨k1,k2,_⟩:=hb
       have no:noIds cs=true:=noids_ok k1
       refine SFun.lay (bs:=[.cells [.int .i64 m,.slo 1 0 n 0] none,.cells cs (some 2)]) (args0:=[.ptr 0 0,.int .i64 a]) (bs':=[.cells [.int .i64 m,.slo 1 0 n 0] none,.cells cs (some 2)]) (v0:=.tup [.int .u64 (wgV cs a),.bool (wgB cs a)]) hfr hs1 (nodupB_nd hbc)
        ⟨⟨there hfr hb0,_,hb0,by first | exact lb_same rfl | exact lb_cells (lws_cons (lw_int) (lws_cons (lw_slo rfl) lws_nil)) (by simp),fun κ hκ=>lb_cells (lws_cons (lw_int) (lws_cons (lw_slo (hκ 1 q rfl)) lws_nil)) (by simp)⟩,⟨there hfr hb1,_,hb1,lb_same (by(exact zId)),fun κ hκ=>lb_same (by(exact zId))⟩,trivial⟩ (by(exact zTl)) ?_
        fun κ h1 h2=>⟨⟨lb_cells (lws_cons (lw_int) (lws_cons (lw_slo (h1 1 q rfl)) lws_nil)) (by simp),lb_same (by(exact zId)),trivial⟩,lw_noid rfl⟩
       rw [hgl]; exact(wget_c m a n cs k1 k2)
      ·cases hg
   ·cases hg
  ·cases hg
 ·cases hg
def wputG:Gc:=fun args s=>match args,s.g with
 | [.ptr b 0,.int .i64 a,.int .u64 z],[]=>(match s.h.get b with
   | some (.cells [.int .i64 m,.slo q 0 n 0] none)=>(match s.h.get q with
     | some (.cells cs (some 2))=>cond (nodupB [b,q]) (match s.lay [b,q] [.cells [.int .i64 m,.slo s.n 0 (wpN m cs a z) 0] none,.dead] [.cells (wpC m cs a z) (some 2)] with
       | some s'=>some ([okC cs n,xle (xadd n 1) 1000000],.int .i64 (wpE m cs a),s')
       | none=>none) none
     | _=>none)
   | _=>none)
 | _,_=>none
theorem wputG_ok:GOk prog 92 wputG:=by
 intro args s bs l s' hg hb hfr
 unfold wputG at hg
 split at hg
 ·rename_i b a z hgl
  split at hg
  ·rename_i m q n hb0
   split at hg
   ·rename_i cs hb1
    cases hbc:nodupB [b,q] with
    | false=>rw [hbc] at hg; cases hg
    | true =>
      rw [hbc] at hg
      simp only [cond_true] at hg
      split at hg
      ·rename_i s1 hs1
       simp only [Option.some.injEq,Prod.mk.injEq] at hg
       obtain⟨rfl,rfl,rfl⟩:=hg
       simp only [allT_cons] at hb
       obtain⟨k1,k2,_⟩:=hb
       have no:noIds cs=true:=noids_ok k1
       refine SFun.lay (bs:=[.cells [.int .i64 m,.slo 1 0 n 0] none,.cells cs (some 2)]) (args0:=[.ptr 0 0,.int .i64 a,.int .u64 z]) (bs':=[.cells [.int .i64 m,.slo 2 0 (wpN m cs a z) 0] none,.dead,.cells (wpC m cs a z) (some 2)]) (v0:=.int .i64 (wpE m cs a)) hfr hs1 (nodupB_nd hbc)
        ⟨⟨there hfr hb0,_,hb0,by first | exact lb_same rfl | exact lb_cells (lws_cons (lw_int) (lws_cons (lw_slo rfl) lws_nil)) (by simp),fun κ hκ=>lb_cells (lws_cons (lw_int) (lws_cons (lw_slo (hκ 1 q rfl)) lws_nil)) (by simp)⟩,⟨there hfr hb1,_,hb1,lb_same (by(exact zId)),fun κ hκ=>lb_same (by(exact zId))⟩,trivial⟩ (by(exact zTl)) ?_
        fun κ h1 h2=>⟨⟨lb_cells (lws_cons (lw_int) (lws_cons (lw_slo (h2 0 (by simp))) lws_nil)) (by simp),lb_dead,lb_same (noids_c _),trivial⟩,lw_int⟩
       rw [hgl]; exact(wput_c m a z n cs k1 k2)
      ·cases hg
   ·cases hg
  ·cases hg
 ·cases hg
def wnewG:Gc:=fun args s=>match args,s.g with
 | [.int .i64 m],[]=>(match s.lay [] [] [.cells [.int .i64 (xmn (xmx m 0) 96),.slo (Nat.succ s.n) 0 0 0] none,.cells [] (some 2)] with
   | some s'=>some ([],.ptr s.n 0,s')
   | none=>none)
 | _,_=>none
theorem wnewG_ok:GOk prog 86 wnewG:=by
 intro args s bs l s' hg hb hfr
 unfold wnewG at hg
 split at hg
 ·rename_i m hgl
  split at hg
  ·rename_i s1 hs1
   simp only [Option.some.injEq,Prod.mk.injEq] at hg
   obtain⟨rfl,rfl,rfl⟩:=hg
   refine SFun.lay (bs:=[]) (args0:=[.int .i64 m]) (bs':=[.cells [.int .i64 (xmn (xmx m 0) 96),.slo 1 0 0 0] none,.cells [] (some 2)]) (v0:=.ptr 0 0) hfr hs1 (by simp)
    trivial (by(exact zTl)) ?_
    fun κ h1 h2=>⟨⟨lb_cells (lws_cons (lw_int) (lws_cons (lw_slo (h2 1 (by simp))) lws_nil)) (by simp),lb_cells lws_nil (by simp),trivial⟩,lw_ptr (h2 0 (by simp))⟩
   rw [hgl]; exact(wnew_ok m)
  ·cases hg
 ·cases hg
def cxw:Cx:=cxl [(92,wputG),(95,cloneG 2)]
abbrev tkL:List Nat:=[0,1,4,5,17,18,19]
abbrev tkT (nl k:Nat):List (Nat×LV):=[(0,.ptr 0 0),(5,.ptr 3 0),(17,.slo 2 0 nl 0),(18,.int .i64 nl),(19,.int .i64 k)]
abbrev tkH (m:Int) (n n':Nat) (cs ls cs':List LV):List LB:=[.cells [.int .i64 m,.slo 1 0 n 0] none,.cells cs (some 2),.cells ls (some 2),.cells [.int .i64 m,.slo 4 0 n' 0] none,.cells cs' (some 2)]
theorem wt_a (m:Int) (n nl:Nat) (cs ls:List LV) (K:Pk):(xsp prog cxw 40 40 (seg (sp prog 87) 0 3) (tm0 [.ptr 0 0,.slo 2 0 nl 0]) (mkS [.cells [.int .i64 m,.slo 1 0 n 0] none,.cells cs (some 2),.cells ls (some 2)]) (vK tkL K))=(
 ck (xle n 1000000) <|
 ck (xeq (xln cs) (xmul n 2)) <|
 ck (xnoid cs) <|
 ck (xcm .eql m m) <|
 ck (xcm .eql m m) <|
 K .normal [.ptr 0 0,.slo 2 0 nl 0,.int .i64 0,.ptr 4 0,.slo 2 0 nl 0,.int .i64 ↑nl,.int .i64 0] [sN [.int .i64 m,.slo 1 0 n 0],sC cs 2,sC ls 2,sC cs 2,sN [.int .i64 m,.slo 3 0 n 0]] []):=by kernel_rfl
abbrev wt_b_b1 (m:Int) (n:Nat) (k:Nat) (cs:List LV) (ls:List LV) (cs':List LV):List (Option LB):=[sN [.int .i64 m,.slo 1 0 n 0],sC cs 2,sC ls 2,sN [.int .i64 m,.slo 6 0 (wpN m cs' (asI (nthD ls (xix 0 (xnat ↑k) 2))) (asI (nthD ls (xadd (xix 0 (xnat ↑k) 2) 1)))) 0],sD,sN [.int .i64 (asI (nthD ls (xix 0 (xnat ↑k) 2))),.int .u64 (asI (nthD ls (xadd (xix 0 (xnat ↑k) 2) 1)))],sC (wpC m cs' (asI (nthD ls (xix 0 (xnat ↑k) 2))) (asI (nthD ls (xadd (xix 0 (xnat ↑k) 2) 1)))) 2]
theorem wt_b (m:Int) (n n' nl k:Nat) (cs ls cs':List LV) (K:Pk):(xcode prog cxw 40 40 (loopOf (nthC (sp prog 87) 3)) (mkTm 40 (tkT nl k)) (mkS (tkH m n n' cs ls cs')) (vK tkL K))=(
 bif xcm .lss ↑k ↑nl then(
 ck (xle (xadd (xnat ↑k) 1) nl) <|
 ck (xle (xadd (xix 0 (xnat ↑k) 2) 2) (xln ls)) <|
 ck (isI .i64 (nthD ls (xix 0 (xnat ↑k) 2))) <|
 ck (isI .u64 (nthD ls (xadd (xix 0 (xnat ↑k) 2) 1))) <|
 ck (okC cs' n') <|
 ck (xle (xadd n' 1) 1000000) <|
 bif xcm .neq (wpE m cs' (asI (nthD ls (xix 0 (xnat ↑k) 2)))) 0 then(
 K .ret [.ptr 0 0,.any,.int .i64 (wpE m cs' (asI (nthD ls (xix 0 (xnat ↑k) 2)))),.ptr 3 0,.slo 2 0 nl 0,.int .i64 ↑nl,.int .i64 ↑k] (wt_b_b1 m n k cs ls cs') [])
 else(
 K .normal [.ptr 0 0,.any,.any,.ptr 3 0,.slo 2 0 nl 0,.int .i64 ↑nl,.int .i64 (xar .add .i64 (↑k) 1)] (wt_b_b1 m n k cs ls cs') []))
 else(
 K (.exit 0) [.ptr 0 0,.any,.any,.ptr 3 0,.slo 2 0 nl 0,.int .i64 ↑nl,.int .i64 ↑k] [sN [.int .i64 m,.slo 1 0 n 0],sC cs 2,sC ls 2,sN [.int .i64 m,.slo 4 0 n' 0],sC cs' 2] [])):=by kernel_rfl
theorem wt_z (m:Int) (n n' nl k:Nat) (cs ls cs':List LV) (K:Pk):(xsp prog cxw 40 40 ((sp prog 87).drop 4) (mkTm 40 (tkT nl k)) (mkS (tkH m n n' cs ls cs')) (vK tkL K))=(
 K .ret [.ptr 0 0,.any,.int .i64 0,.ptr 3 0,.slo 2 0 nl 0,.int .i64 ↑nl,.int .i64 ↑k] [sN [.int .i64 m,.slo 4 0 n' 0],sC cs 2,sC ls 2,sN [.int .i64 m,.slo 4 0 n' 0],sC cs' 2] []):=by kernel_rfl
theorem cxw_ok:CtrOk prog (ctrOf cxw):=cxl_ok ⟨wputG_ok,cloneCell_ok,trivial⟩
theorem wTk_drop (m:Int) (xs l:CL) (k:Nat) (hk:k < l.length):wTk m xs (l.drop k)=if wPe m xs l[k].1=0 then wTk m (pl xs l[k]) (l.drop (k+1)) else(wPe m xs l[k].1,xs):=by
 rw [List.drop_eq_getElem_cons hk,wTk]
theorem wtake_ok (m:Int) (xs ls:CL) (hn:xs.length+ls.length≤900000):SFun prog 87 [.ptr 0 0,.slo 2 0 ls.length 0] (mkS [.cells [.int .i64 m,.slo 1 0 xs.length 0] none,.cells (encL cell xs) (some 2),.cells (encL cell ls) (some 2)])
  fun l s=>l=.int .i64 (wTk m xs ls).1∧s=mkS [.cells [.int .i64 m,.slo 3 0 (wTc m xs ls).length 0] none,.dead,.cells (encL cell ls) (some 2),.cells (encL cell (wTc m xs ls)) (some 2)]:=by
 refine SFun.mono (SFun.pieces (Q:=fun l b=>l=.int .i64 (wTk m xs ls).1∧b=[.cells [.int .i64 m,.slo 3 0 (wTc m xs ls).length 0] none,.dead,.cells (encL cell ls) (some 2),.cells (encL cell (wTc m xs ls)) (some 2)]) 40 3 tkL [4] (by kernel_rfl) rfl rfl rfl ?_) fun l s' ⟨b0,⟨h1,h2⟩,h3⟩=>⟨h1,by rw [h3,h2]⟩
 have nx:=noids_c xs
 have nl:=noids_c ls
 have lx:=cell_n xs
 have ll:=cell_n ls
 have xx:=xnoid_c xs
 refine SSp.to cxw_ok (n:=40) (g:=[]) 3 3 rfl (σ:=Unit) (fun _=>tkT ls.length 0) (fun _=>tkH m xs.length xs.length (encL cell xs) (encL cell ls) (encL cell xs)) (mkS_le (Nat.le_refl _)) (by kernel_rfl) ?_ fun _=>?_
 ·rw [wt_a]
  (refine zN2 @lx @xx ?_)
  (refine zR ?_)
  exact⟨rfl,(),[.id 0,.id 1,.id 2,.id 4,.id 3],by(exact zC)⟩
 refine SSp.code_to (g:=[]) 4 rfl (σ:={ys:CL // wTk m xs ls=(0,ys)}) (fun _=>tkT ls.length ls.length) (fun ys=>tkH m xs.length ys.1.length (encL cell xs) (encL cell ls) (encL cell ys.1)) (by kernel_rfl) ?_ fun⟨ys,he⟩=>?_
 ·refine SCode.loop_vc cxw_ok (n:=40) 0 (by kernel_rfl) (σ:={p:Nat×CL // p.1≤ls.length∧wTk m xs ls=wTk m p.2 (ls.drop p.1)∧p.2.length≤xs.length+p.1}) (fun p=>tkT ls.length p.1.1) (fun p=>tkH m xs.length p.1.2.length (encL cell xs) (encL cell ls) (encL cell p.1.2)) (fun p=>ls.length - p.1.1) (fun _=>Nat.le_of_ble_eq_true rfl) (fun⟨⟨k,ys⟩,hk,he,hy⟩=>?_) ⟨(0,xs),Nat.zero_le _,rfl,by simp⟩
  dsimp only at hk he hy ⊢
  have ny:=noids_c ys
  have ok:okC (encL cell ys) ys.length=true:=okC_enc (by omega)
  rw [wt_b]; simp only [wt_b_b1]; rw [wd_lss]
  refine ite_way (fun hkl=>?_) (fun hkl=>?_)
  ·have e3:xar .add .i64 (k:Int) 1=((k+1:Nat):Int):=inc_i64 hkl (by omega)
   have nz:=noids_c (pl ys (ls[k].1,ls[k].2))
   have hp:=pl_len ys ls[k]
   have st:=wTk_drop m ys ls k hkl
   by_cases hz:wPe m ys ls[k].1=0
   ·have e5:wPc m ys ls[k].1 ls[k].2=pl ys (ls[k].1,ls[k].2):=by rw [wPc,if_pos hz]
    simp only [wd_nat,wd_asV,wd_isV,wd_ix,wd_add,wd_mul,wd_ln,Nat.zero_add,Nat.mul_one,wd_isI,wd_asI,wd_isB,wd_asB,wd_nn,cI_tlen,cB_tlen,cII_tlen,decide_true,cond_true,wd_not_t,wd_not_f,wd_and_t,wd_and_f,cell_0 hkl,cell_1 hkl,ll,ok,e3,wpE,wpN,wpC,decC_enc,hz,e5]
    (refine zR ?_)
    refine⟨rfl,⟨(k+1,pl ys ls[k]),hkl,by rw [he,st,if_pos hz],by simp only; omega⟩,by simp only; omega,[.id 0,.id 1,.id 2,.id 3,.id 6],by(exact zC)⟩
   ·have e5:wPc m ys ls[k].1 ls[k].2=ys:=by rw [wPc,if_neg hz]
    have e6:wTk m xs ls=(wPe m ys ls[k].1,ys):=by rw [he,st,if_neg hz]
    have e7:wTc m xs ls=xs:=by rw [wTc,e6,if_neg hz]
    simp only [wd_nat,wd_asV,wd_isV,wd_ix,wd_add,wd_mul,wd_ln,Nat.zero_add,Nat.mul_one,wd_isI,wd_asI,wd_isB,wd_asB,wd_nn,cI_tlen,cB_tlen,cII_tlen,decide_true,cond_true,wd_not_t,wd_not_f,wd_and_t,wd_and_f,cell_0 hkl,cell_1 hkl,ll,ok,e3,wpE,wpN,wpC,decC_enc,e5]
    (refine zR ?_)
    exact⟨trivial,rfl,_,_,[.id 0,.id 1,.id 2,.id 1],⟨rfl,rfl⟩,by rw [e6,e7]; (exact zC)⟩
  ·obtain rfl:k=ls.length:=by omega
   refine⟨rfl,⟨ys,by rw [he,List.drop_length,wTk]⟩,[.id 0,.id 1,.id 2,.id 3,.id 4],by(exact zC)⟩
 refine SSp.last cxw_ok (n:=40) (mkS_le (Nat.le_of_ble_eq_true rfl)) ?_
 have ny:=noids_c ys
 have e7:wTc m xs ls=ys:=by rw [wTc,he,if_pos rfl]
 rw [wt_z]
 exact⟨trivial,rfl,_,_,[.id 0,.id 1,.id 2,.id 4],⟨rfl,rfl⟩,by dsimp only; rw [he,e7]; (exact zC)⟩
theorem wtake_c (m:Int) (n nl:Nat) (cs ls:List LV) (k1:okC cs n=true) (k2:okC ls nl=true) (k3:xle (xadd n nl) 900000=true):SFun prog 87 [.ptr 0 0,.slo 2 0 nl 0] (mkS [.cells [.int .i64 m,.slo 1 0 n 0] none,.cells cs (some 2),.cells ls (some 2)])
  fun l s=>l=.int .i64 (wtE m cs ls)∧s=mkS [.cells [.int .i64 m,.slo 3 0 (wtN m cs ls) 0] none,.dead,.cells ls (some 2),.cells (wtC m cs ls) (some 2)]:=by
 obtain⟨xs,rfl,rfl,_⟩:=okC_iff.1 k1
 obtain⟨ys,rfl,rfl,_⟩:=okC_iff.1 k2
 rw [wd_le,wd_add,decide_eq_true_eq] at k3
 simp only [wtE,wtN,wtC,decC_enc]
 exact wtake_ok m xs ys k3
def wtakeG:Gc:=fun args s=>match args,s.g with
 | [.ptr b 0,.slo d 0 nl 0],[]=>(match s.h.get b with
   | some (.cells [.int .i64 m,.slo q 0 n 0] none)=>(match s.h.get q with
     | some (.cells cs (some 2))=>(match s.h.get d with
       | some (.cells ls (some 2))=>cond (nodupB [b,q,d]) (match s.lay [b,q,d] [.cells [.int .i64 m,.slo s.n 0 (wtN m cs ls) 0] none,.dead,.cells ls (some 2)] [.cells (wtC m cs ls) (some 2)] with
         | some s'=>some ([okC cs n,okC ls nl,xle (xadd n nl) 900000],.int .i64 (wtE m cs ls),s')
         | none=>none) none
       | _=>none)
     | _=>none)
   | _=>none)
 | _,_=>none
theorem wtakeG_ok:GOk prog 87 wtakeG:=by
 intro args s bs l s' hg hb hfr
 unfold wtakeG at hg
 split at hg
 ·rename_i b d nl hgl
  split at hg
  ·rename_i m q n hb0
   split at hg
   ·rename_i cs hb1
    split at hg
    ·rename_i ls hb2
     cases hbc:nodupB [b,q,d] with
     | false=>rw [hbc] at hg; cases hg
     | true =>
       rw [hbc] at hg
       simp only [cond_true] at hg
       split at hg
       ·rename_i s1 hs1
        simp only [Option.some.injEq,Prod.mk.injEq] at hg
        obtain⟨rfl,rfl,rfl⟩:=hg
        simp only [allT_cons] at hb
        obtain⟨k1,k2,k3,_⟩:=hb
        have no:noIds cs=true:=noids_ok k1
        have no2:noIds ls=true:=noids_ok k2
        refine SFun.lay (bs:=[.cells [.int .i64 m,.slo 1 0 n 0] none,.cells cs (some 2),.cells ls (some 2)]) (args0:=[.ptr 0 0,.slo 2 0 nl 0]) (bs':=[.cells [.int .i64 m,.slo 3 0 (wtN m cs ls) 0] none,.dead,.cells ls (some 2),.cells (wtC m cs ls) (some 2)]) (v0:=.int .i64 (wtE m cs ls)) hfr hs1 (nodupB_nd hbc)
         ⟨⟨there hfr hb0,_,hb0,by first | exact lb_same rfl | exact lb_cells (lws_cons (lw_int) (lws_cons (lw_slo rfl) lws_nil)) (by simp),fun κ hκ=>lb_cells (lws_cons (lw_int) (lws_cons (lw_slo (hκ 1 q rfl)) lws_nil)) (by simp)⟩,⟨there hfr hb1,_,hb1,lb_same (by(exact zId)),fun κ hκ=>lb_same (by(exact zId))⟩,⟨there hfr hb2,_,hb2,lb_same (by(exact zId)),fun κ hκ=>lb_same (by(exact zId))⟩,trivial⟩ (by(exact zTl)) ?_
         fun κ h1 h2=>⟨⟨lb_cells (lws_cons (lw_int) (lws_cons (lw_slo (h2 0 (by simp))) lws_nil)) (by simp),lb_dead,lb_same (by(exact zId)),lb_same (noids_c _),trivial⟩,lw_int⟩
        rw [hgl]; exact(wtake_c m n nl cs ls k1 k2 k3)
       ·cases hg
    ·cases hg
   ·cases hg
  ·cases hg
 ·cases hg
end
end Go.Lev
