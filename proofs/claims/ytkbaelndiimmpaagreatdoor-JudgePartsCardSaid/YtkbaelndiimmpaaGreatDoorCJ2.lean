/- chapter 30: Repeat, Contains; trees of both Parts -/
import Derived.Test.YtkbaelndiimmpaaGreatDoorCJ1
import Derived.Test.YtkbaelndiimmpaaGreatDoorLc
import Derived.Test.YtkbaelndiimmpaaGreatDoorChecked
import Derived.KernelRfl
namespace Go.Lev
set_option linter.unusedSimpArgs false
set_option linter.unusedVariables false
open Go.RowKit
open Go.Proofs.Tryz (prog)
set_option maxRecDepth 100000
noncomputable section
theorem cxm2_ok:CtrOk prog (ctrOf cxm2):=cxl_ok ⟨mvG_ok,trivial⟩
theorem rpL_step {N n c:Nat} (h:n≤N) (hc:c=min (N - n) n):xlay (encL (cI .i64) (rpL N n)) n (xcut (encL (cI .i64) (rpL N n)) 0 c)=encL (cI .i64) (rpL N (n+c)):=by
 have e1:xcut (encL (cI .i64) (rpL N n)) 0 c=encL (cI .i64) (List.replicate c 1):=by
  rw [rpL,encL_append]
  unfold xcut
  rw [List.drop_zero,List.take_append_of_le_length (by rw [encIi64_len]; simp; omega)]
  have:List.replicate n (1:Int)=List.replicate c 1++List.replicate (n - c) 1:=by rw [List.replicate_append_replicate]; congr 1; omega
  rw [this,encL_append,List.take_left' (by rw [encIi64_len]; simp)]
 rw [e1]
 unfold xlay
 have l1:(encL (cI .i64) (List.replicate n (1:Int))).length=n:=by rw [encIi64_len]; simp
 have l2:(encL (cI .i64) (List.replicate c (1:Int))).length=c:=by rw [encIi64_len]; simp
 rw [l2,rpL,encL_append,List.take_left' l1]
 have d:(encL (cI .i64) (List.replicate n (1:Int))++encL (cI .i64) (List.replicate (N - n) 0)).drop (n+c)=encL (cI .i64) (List.replicate (N - (n+c)) 0):=by
  rw [List.drop_append,List.drop_of_length_le (by omega),List.nil_append,l1]
  have:List.replicate (N - n) (0:Int)=List.replicate c 0++List.replicate (N - (n+c)) 0:=by rw [List.replicate_append_replicate]; congr 1; omega
  rw [this,encL_append,show n+c - n=c by omega,List.drop_left' (by rw [encIi64_len]; simp)]
 rw [d,rpL,encL_append]
 have:List.replicate (n+c) (1:Int)=List.replicate n 1++List.replicate c 1:=by rw [List.replicate_append_replicate]
 rw [this,encL_append,List.append_assoc]
theorem rp_ok (N:Nat) (h1:1≤N) (h2:N≤256):SFun prog 20 [.sl 0 0 1 1,.int .i64 N] (mkS [.cells [.int .i64 1] none]) fun l s=>l=.slo 1 0 N 0∧s=mkS [.cells [.int .i64 1] none,.cells (encL (cI .i64) (List.replicate N 1)) (some 1)]:=by
 refine SFun.mono (SFun.pieces (Q:=fun l b=>l=.slo 1 0 N 0∧b=[.cells [.int .i64 1] none,.cells (encL (cI .i64) (List.replicate N 1)) (some 1)]) 48 1 rpQ [4] (by kernel_rfl) rfl rfl rfl ?_) fun l s' ⟨b0,⟨h1,h2⟩,h3⟩=>⟨h1,by rw [h3,h2]⟩
 have eW1:xwr .u64 (N:Int)=(N:Int):=wrap_u64 (by omega) (by omega)
 have eW2:xwr .i64 (N:Int)=(N:Int):=wrap_i64 (by omega) (by omega)
 have eW3:xwr .u64 1=1:=by kernel_rfl
 have eL:lowN (N:Int)=true:=by simp only [lowN,decide_eq_true_eq]; omega
 have nr:=fun n=>noIds_Ii64 (rpL N n)
 refine SSp.to cxm2_ok (n:=40) (g:=[]) 8 8 rfl (σ:=Unit) (fun _=>rpT N 1) (fun _=>rpH (encL (cI .i64) (rpL N 1))) (mkS_le (Nat.le_of_ble_eq_true rfl)) (by kernel_rfl) ?_ fun _=>?_
 ·rw [rp_a]
  have l0:xrep N [.int .i64 0]=encL (cI .i64) (List.replicate N 0):=encL_rep (f:=cI .i64) (0:Int) N
  have e0:xlay (encL (cI .i64) (List.replicate N 0)) 0 [.int .i64 1]=encL (cI .i64) (rpL N 1):=by
   obtain⟨M,rfl⟩:∃ M,N=M+1:=⟨N - 1,by omega⟩
   have:=encL_set (cI_len .i64) (List.replicate (M+1) 0) 0 (1:Int) (by simp)
   rw [show(List.replicate (M+1) (0:Int)).set 0 1=rpL (M+1) 1 by simp [rpL,List.replicate_succ]] at this
   rw [Nat.zero_mul] at this; exact this
  have e00:xlow 1 N=1:=Nat.min_eq_left h1
  have eCut:xcut [LV.int .i64 1] 0 (xmul 1 1)=[LV.int .i64 1]:=rfl
  simp only [eW1,eW2,eW3,eL,l0,e00,eCut,e0,wd_nat,wd_ln,List.length_cons,List.length_nil,wd_add,cond_true]
  simp only [encIi64_len,List.length_replicate]
  have eQ:xle (0+(0+1)) N=true:=t_le (by omega)
  simp only [eQ]
  (refine zR ?_)
  exact⟨rfl,(),[.id 0,.id 1],by(exact zC)⟩
 try dsimp only
 refine SSp.code_to (g:=[]) 9 rfl (σ:=Unit) (fun _=>rpT N N) (fun _=>rpH (encL (cI .i64) (rpL N N))) (by kernel_rfl) ?_ fun _=>?_
 ·refine SCode.loop_vc cxm2_ok (n:=40) (n0:=1) 0 (by kernel_rfl) (σ:={n:Nat // 1≤n∧n≤N}) (fun n=>rpT N n.1) (fun n=>rpH (encL (cI .i64) (rpL N n.1))) (fun n=>N - n.1) (fun _=>Nat.le_of_ble_eq_true rfl) (fun⟨n,n1,n2⟩=>?_) ⟨1,by omega,by omega⟩
  dsimp only
  rw [rp_b,wd_lss]
  refine ite_way (fun h0=>?_) (fun h0=>?_)
  ·have eC:xlow n (N - n)=min (N - n) n:=by simp [xlow,Nat.min_comm]
   have eS:=rpL_step n2 rfl
   have eA:xar .add .i64 (n:Int) ((min (N - n) n:Nat):Int)=((n+min (N - n) n:Nat):Int):=by rw [add_i64 (by omega) (by omega)]; omega
   have xl:(xcut (encL (cI .i64) (rpL N n)) 0 (min (N - n) n)).length=min (N - n) n:=by unfold xcut; rw [List.drop_zero,List.length_take,encIi64_len,rpL_len n2]; omega
   have lr:(encL (cI .i64) (rpL N n)).length=N:=by rw [encIi64_len,rpL_len n2]
   simp only [wd_nat,wd_ix,wd_mul,wd_add,wd_sub,wd_ln,Nat.zero_add,Nat.mul_one,Nat.sub_zero,eC,eS,eA,xl,lr,cond_true]
   (refine zR ?_)
   exact⟨rfl,⟨n+min (N - n) n,by omega,by omega⟩,by simp only; omega,[.id 0,.id 1],by(exact zC)⟩
  ·have:n=N:=by omega
   subst this
   exact⟨rfl,(),[.id 0,.id 1],by(exact zC)⟩
 try dsimp only
 refine SSp.last cxm2_ok (n:=40) (mkS_le (Nat.le_of_ble_eq_true rfl)) ?_
 rw [rp_z,rpL_full]
 have nF:=noIds_Ii64 (List.replicate N (1:Int))
 have lF:(encL (cI .i64) (List.replicate N (1:Int))).length=N * 1:=by rw [encIi64_len]; simp
 exact⟨trivial,rfl,_,_,[.id 0,.cap 1 0 N],⟨rfl,rfl⟩,by(exact zC)⟩
def rpW (n:Int):List LV:=encL (cI .i64) (List.replicate n.toNat 1)
def rpN (n:Int):Nat:=n.toNat
def okRp (n:Int):Bool:=decide (1≤n∧n≤256)
theorem rp_c (n:Int) (k1:okRp n=true):SFun prog 20 [.sl 0 0 1 1,.int .i64 n] (mkS [.cells [.int .i64 1] none]) fun l s=>l=.slo 1 0 (rpN n) 0∧s=mkS [.cells [.int .i64 1] none,.cells (rpW n) (some 1)]:=by
 simp only [okRp,decide_eq_true_eq] at k1
 obtain⟨N,rfl⟩:∃ N:Nat,n=(N:Int):=⟨n.toNat,by omega⟩
 exact rp_ok N (by omega) (by omega)
def rpG:Gc:=fun args s=>match args,s.g with
 | [.sl b 0 1 1,.int .i64 n],[]=>(match s.h.get b with
   | some (.cells [.int .i64 1] none)=>(match s.lay [b] [.cells [.int .i64 1] none] [.cells (rpW n) (some 1)] with
     | some s'=>some ([okRp n],.slo s.n 0 (rpN n) 0,s')
     | none=>none)
   | _=>none)
 | _,_=>none
theorem rpG_ok:GOk prog 20 rpG:=by
 intro args s bs l s' hg hb hfr
 unfold rpG at hg
 split at hg
 ·rename_i b n hgl
  split at hg
  ·rename_i  hb0
   split at hg
   ·rename_i s1 hs1
    simp only [Option.some.injEq,Prod.mk.injEq] at hg
    obtain⟨rfl,rfl,rfl⟩:=hg
    simp only [allT_cons] at hb
    obtain⟨k1,_⟩:=hb
    refine SFun.lay (bs:=[.cells [.int .i64 1] none]) (args0:=[.sl 0 0 1 1,.int .i64 n]) (bs':=[.cells [.int .i64 1] none,.cells (rpW n) (some 1)]) (v0:=.slo 1 0 (rpN n) 0) hfr hs1 (by simp)
     ⟨⟨there hfr hb0,_,hb0,by first | exact lb_same rfl | exact lb_cells (lws_cons (lw_int) lws_nil) (by simp),fun κ hκ=>lb_cells (lws_cons (lw_int) lws_nil) (by simp)⟩,trivial⟩ (by(exact zTl)) ?_
     fun κ h1 h2=>⟨⟨lb_cells (lws_cons (lw_int) lws_nil) (by simp),lb_same (noIds_Ii64 _),trivial⟩,lw_slo (h2 0 (by simp))⟩
    rw [hgl]; exact(rp_c n k1)
   ·cases hg
  ·cases hg
 ·cases hg
def cxco:Cx:=cxl [(31,idG)]
abbrev coL:List Nat:=[4]
theorem co_t (n:Nat) (v:Int) (cs:List LV) (K:Pk):(xsp prog cxco 40 9 ((sp prog 21).drop 0) (tm0 [.slo 0 0 n 0,.int .i64 v]) (mkS [.cells cs (some 1)]) (vK coL K))=(
 ck (okX cs n) <|
 K .ret [.bool (xcm .geq (idxW cs n v) 0)] [sC cs 1] []):=by kernel_rfl
theorem cxco_ok:CtrOk prog (ctrOf cxco):=cxl_ok ⟨idG_ok,trivial⟩
def coW (cs:List LV) (n:Nat) (v:Int):Bool:=xcm .geq (idxW cs n v) 0
theorem co_c (n:Nat) (v:Int) (cs:List LV) (k1:okX cs n=true):SFun prog 21 [.slo 0 0 n 0,.int .i64 v] (mkS [.cells cs (some 1)]) fun l s=>l=.bool (coW cs n v)∧s=mkS [.cells cs (some 1)]:=by
 have no:noIds cs=true:=by obtain⟨_,e,_⟩:=okX_iff.1 k1; rw [e]; exact noIds_Ii64 _
 refine SFun.mono (SFun.pieces (Q:=fun l b=>l=.bool (coW cs n v)∧b=[.cells cs (some 1)]) 9 1 coL [4] (by kernel_rfl) rfl rfl rfl ?_) fun l s' ⟨b0,⟨h1,h2⟩,h3⟩=>⟨h1,by rw [h3,h2]⟩
 refine SSp.last cxco_ok (n:=40) (mkS_le (Nat.le_refl _)) ?_
 rw [co_t]
 simp only [k1,cond_true]
 exact⟨trivial,rfl,_,_,[.id 0],⟨rfl,rfl⟩,by(exact zC)⟩
def coG:Gc:=fun args s=>match args,s.g with
 | [.slo b 0 n 0,.int .i64 v],[]=>(match s.h.get b with
   | some (.cells cs (some 1))=>(match s.lay [b] [.cells cs (some 1)] [] with
     | some s'=>some ([okX cs n],.bool (coW cs n v),s')
     | none=>none)
   | _=>none)
 | _,_=>none
theorem coG_ok:GOk prog 21 coG:=by
 intro args s bs l s' hg hb hfr
 unfold coG at hg
 split at hg
 ·rename_i b n v hgl
  split at hg
  ·rename_i cs hb0
   split at hg
   ·rename_i s1 hs1
    simp only [Option.some.injEq,Prod.mk.injEq] at hg
    obtain⟨rfl,rfl,rfl⟩:=hg
    simp only [allT_cons] at hb
    obtain⟨k1,_⟩:=hb
    have no:noIds cs=true:=by obtain⟨_,e,_⟩:=okX_iff.1 k1; rw [e]; exact noIds_Ii64 _
    refine SFun.lay (bs:=[.cells cs (some 1)]) (args0:=[.slo 0 0 n 0,.int .i64 v]) (bs':=[.cells cs (some 1)]) (v0:=.bool (coW cs n v)) hfr hs1 (by simp)
     ⟨⟨there hfr hb0,_,hb0,lb_same (by(exact zId)),fun κ hκ=>lb_same (by(exact zId))⟩,trivial⟩ (by(exact zTl)) ?_
     fun κ h1 h2=>⟨⟨lb_same (by(exact zId)),trivial⟩,lw_bool⟩
    rw [hgl]; exact(co_c n v cs k1)
   ·cases hg
  ·cases hg
 ·cases hg
def cxpG:Cx:=cxl [(19,wrapG blkG),(15,wrapG ligG),(20,wrapG rpG),(21,wrapG coG)]
def cxpB:Cx:=cxl [(19,wrapG blkG),(15,wrapG libG)]
def cxqG:Cx:=cxl [(22,wrapG olkG),(17,wrapG logG)]
def cxqB:Cx:=cxl [(22,wrapG olkG),(17,wrapG lobG)]
abbrev prS:List Code:=sp prog 10
abbrev qrS:List Code:=sp prog 11
abbrev prL:List Nat:=[1,4,5,7,8,37,38,39,54,55,56,60,61,62,74,75,76,80,81,82]
abbrev qrL:List Nat:=[1,4,5,7,9,10,11,12,13,14,15,16,17]
abbrev prA (k nb N:Nat):List (Nat×LV):=[(1,.slo 1 0 k 0),(5,.slo 2 0 nb 0),(7,.slo 3 0 4 0),(8,.slo 8 0 N 0)]
abbrev prT (k nb N i:Nat):List (Nat×LV):=[(1,.slo 1 0 k 0),(7,.slo 3 0 4 0),(8,.slo 8 0 N 0),(37,.slo 2 0 nb 0),(38,.int .i64 nb),(39,.int .i64 i)]
abbrev prU (k N:Nat) (c:Int):List (Nat×LV):=[(1,.slo 1 0 k 0),(8,.slo 8 0 N 0),(54,.slo 3 0 4 0),(55,.int .i64 4),(56,.int .i64 c)]
abbrev prV (k N:Nat) (c:Int) (b n j:Nat):List (Nat×LV):=[(1,.slo 1 0 k 0),(8,.slo 8 0 N 0),(54,.slo 3 0 4 0),(55,.int .i64 4),(56,.int .i64 c),(60,.slo b 0 n 0),(61,.int .i64 n),(62,.int .i64 j)]
abbrev prX (k N i:Nat):List (Nat×LV):=[(8,.slo 2 0 N 0),(74,.slo 1 0 k 0),(75,.int .i64 k),(76,.int .i64 i)]
abbrev prY (k N i:Nat) (v:Value) (n j:Nat):List (Nat×LV):=[(8,.slo 2 0 N 0),(74,.slo 1 0 k 0),(75,.int .i64 k),(76,.int .i64 i),(80,.val v),(81,.int .i64 n),(82,.int .i64 j)]
abbrev prZ (N:Nat):List (Nat×LV):=[(8,.slo 2 0 N 0)]
abbrev prH (wc vs bc:List LV) (n1 n2 n3 n4:Nat) (r1 r2 r3 r4 oc:List LV):List LB:=[.ro wc,.ro vs,.cells bc (some 3),.cells [.slo 4 0 n1 0,.slo 5 0 n2 0,.slo 6 0 n3 0,.slo 7 0 n4 0] (some 1),.cells r1 (some 1),.cells r2 (some 1),.cells r3 (some 1),.cells r4 (some 1),.cells oc (some 1)]
abbrev prI (wc vs oc:List LV):List LB:=[.ro wc,.ro vs,.cells oc (some 1)]
abbrev prB1:List Code:=spineL (loopOf (nthC prS 11))
abbrev prC1:List Code:=spineL (blockIn (nthC prB1 2))
abbrev prB2:List Code:=spineL (loopOf (nthC prS 13))
abbrev prC2:List Code:=spineL (blockIn (nthC prB2 2))
abbrev qrH (wc vs bc:List LV) (n1 n2 n3 n4:Nat) (r1 r2 r3 r4:List LV):List LB:=[.ro wc,.ro vs,.cells bc (some 3),.cells [.slo 4 0 n1 0,.slo 5 0 n2 0,.slo 6 0 n3 0,.slo 7 0 n4 0] (some 1),.cells r1 (some 1),.cells r2 (some 1),.cells r3 (some 1),.cells r4 (some 1)]
abbrev qrI (wc vs:List LV):List LB:=[.ro wc,.ro vs]
abbrev qrT (k nb:Nat) (n i:Nat):List (Nat×LV):=[(1,.slo 1 0 k 0),(5,.slo 2 0 nb 0),(7,.slo 3 0 4 0),(9,.int .i64 n),(10,.int .i64 i)]
abbrev qrU (k nb:Nat) (n i q:Nat) (c:Int):List (Nat×LV):=[(1,.slo 1 0 k 0),(5,.slo 2 0 nb 0),(7,.slo 3 0 4 0),(9,.int .i64 n),(10,.int .i64 i),(11,.int .i64 q),(12,.int .i64 c)]
abbrev qrV (k nb:Nat) (n i q:Nat) (c:Int) (j:Nat):List (Nat×LV):=[(1,.slo 1 0 k 0),(5,.slo 2 0 nb 0),(7,.slo 3 0 4 0),(9,.int .i64 n),(10,.int .i64 i),(11,.int .i64 q),(12,.int .i64 c),(13,.int .i64 j)]
abbrev qrX (k nb:Nat) (n i q t:Nat):List (Nat×LV):=[(1,.slo 1 0 k 0),(5,.slo 2 0 nb 0),(7,.slo 3 0 4 0),(9,.int .i64 n),(10,.int .i64 i),(11,.int .i64 q),(14,.int .i64 t)]
abbrev qrY (k nb:Nat) (n i q t j:Nat):List (Nat×LV):=[(1,.slo 1 0 k 0),(5,.slo 2 0 nb 0),(7,.slo 3 0 4 0),(9,.int .i64 n),(10,.int .i64 i),(11,.int .i64 q),(14,.int .i64 t),(15,.int .i64 j)]
abbrev qrZ (k:Nat) (n a t:Nat):List (Nat×LV):=[(1,.slo 1 0 k 0),(9,.int .i64 n),(16,.int .i64 a),(17,.int .i64 t)]
abbrev qrB:List Code:=spineL (loopOf (nthC qrS 7))
abbrev qrC:List Code:=spineL (blockIn (nthC qrB 2))
abbrev qrD:List Code:=spineL (loopOf (nthC qrC 4))
abbrev qrE:List Code:=spineL (blockIn (nthC qrD 2))
abbrev qrF:List Code:=spineL (loopOf (nthC qrC 6))
abbrev qrG:List Code:=spineL (blockIn (nthC qrF 2))
theorem pr_b (N k:Nat) (wc vs:List LV) (F:World→Prop) (K:Pk):(xsp prog cxpB 60 114 (seg prS 0 7) (tm0 [.slo 0 0 N 0,.slo 1 0 k 0]) (mkS [.ro wc,.ro vs] (factG F)) (vK prL K))=(
 ck (okU wc N) <|
 bif xcm .neq (bkE wc) 0 then(
 K .ret [.slo 1 0 k 0,.bool false,.slo 2 0 (bkN wc) 0,.tup [],.tup [],.tup [],.tup [],.tup [],.tup [],.tup [],.tup [],.tup [],.tup [],.tup [],.tup [],.tup [],.tup [],.tup [],.tup [],.tup []] [some (.ro wc),some (.ro vs),sC (bkC wc) 3] (factG F))
 else(
 ck (lbW wc N) <|
 K .ret [.slo 1 0 k 0,.bool false,.slo 2 0 (bkN wc) 0,.nils,.tup [],.tup [],.tup [],.tup [],.tup [],.tup [],.tup [],.tup [],.tup [],.tup [],.tup [],.tup [],.tup [],.tup [],.tup [],.tup []] [some (.ro wc),some (.ro vs),sC (bkC wc) 3] (factG F))):=by kernel_rfl
theorem pr_a (N k:Nat) (wc vs:List LV) (F:World→Prop) (K:Pk):(xsp prog cxpG 60 114 (seg prS 0 8) (tm0 [.slo 0 0 N 0,.slo 1 0 k 0]) (mkS [.ro wc,.ro vs] (factG F)) (vK prL K))=(
 ck (okU wc N) <|
 bif xcm .neq (bkE wc) 0 then(
 K .ret [.slo 1 0 k 0,.bool false,.slo 2 0 (bkN wc) 0,.tup [],.tup [],.tup [],.tup [],.tup [],.tup [],.tup [],.tup [],.tup [],.tup [],.tup [],.tup [],.tup [],.tup [],.tup [],.tup [],.tup []] [some (.ro wc),some (.ro vs),sC (bkC wc) 3] (factG F))
 else(
 ck (lgW wc N) <|
 ck (okRp ↑N) <|
 K .normal [.slo 1 0 k 0,.bool false,.slo 2 0 (bkN wc) 0,.slo 3 0 4 0,.slo 9 0 (rpN ↑N) 0,.tup [],.tup [],.tup [],.tup [],.tup [],.tup [],.tup [],.tup [],.tup [],.tup [],.tup [],.tup [],.tup [],.tup [],.tup []] [some (.ro wc),some (.ro vs),sC (bkC wc) 3,sC [.slo 4 0 (ln1 wc) 0,.slo 5 0 (ln2 wc) 0,.slo 6 0 (ln3 wc) 0,.slo 7 0 (ln4 wc) 0] 1,sC (lc1 wc) 1,sC (lc2 wc) 1,sC (lc3 wc) 1,sC (lc4 wc) 1,sN [.int .i64 1],sC (rpW ↑N) 1] (factG F))):=by kernel_rfl
theorem pr_c (k nb N:Nat) (wc vs bc:List LV) (n1 n2 n3 n4:Nat) (r1 r2 r3 r4 oc:List LV) (F:World→Prop) (K:Pk):(xsp prog cxpG 60 114 (seg prS 8 1) (mkTm 114 (prA k nb N)) (mkS (prH wc vs bc n1 n2 n3 n4 r1 r2 r3 r4 oc) (factG F)) (vK prL K))=(
 K .normal [.slo 1 0 k 0,.any,.slo 2 0 nb 0,.slo 3 0 4 0,.slo 8 0 N 0,.slo 2 0 nb 0,.int .i64 ↑nb,.int .i64 0,.any,.any,.any,.any,.any,.any,.any,.any,.any,.any,.any,.any] [some (.ro wc),some (.ro vs),sC bc 3,sC [.slo 4 0 n1 0,.slo 5 0 n2 0,.slo 6 0 n3 0,.slo 7 0 n4 0] 1,sC r1 1,sC r2 1,sC r3 1,sC r4 1,sC oc 1] (factG F)):=by kernel_rfl
theorem pr_d (k nb N i:Nat) (wc vs bc:List LV) (n1 n2 n3 n4:Nat) (r1 r2 r3 r4 oc:List LV) (F:World→Prop) (K:Pk):(xcode prog cxpG 60 114 (loopOf (nthC prS 9)) (mkTm 114 (prT k nb N i)) (mkS (prH wc vs bc n1 n2 n3 n4 r1 r2 r3 r4 oc) (factG F)) (vK prL K))=(
 bif xcm .lss ↑i ↑nb then(
 ck (xle (xadd (xnat ↑i) 1) nb) <|
 ck (xle (xadd (xix 0 (xnat ↑i) 3) 3) (xln bc)) <|
 ck (isI .i64 (nthD bc (xix 0 (xnat ↑i) 3))) <|
 ck (isI .i64 (nthD bc (xadd (xix 0 (xnat ↑i) 3) 1))) <|
 ck (isB (nthD bc (xadd (xadd (xix 0 (xnat ↑i) 3) 1) 1))) <|
 ck (xnn (asI (nthD bc (xix 0 (xnat ↑i) 3)))) <|
 ck (xle (xadd (xnat (asI (nthD bc (xix 0 (xnat ↑i) 3)))) 1) N) <|
 ck (xle (xadd (xix 0 (xnat (asI (nthD bc (xix 0 (xnat ↑i) 3)))) 1) 1) (xln oc)) <|
 bif asB (nthD bc (xadd (xadd (xix 0 (xnat ↑i) 3) 1) 1)) then(
 ck (xnn (asI (nthD bc (xix 0 (xnat ↑i) 3)))) <|
 ck (xle (xadd (xnat (asI (nthD bc (xix 0 (xnat ↑i) 3)))) 1) N) <|
 ck (xle (xadd (xix 0 (xnat (asI (nthD bc (xix 0 (xnat ↑i) 3)))) 1) 1) (xln (xlay oc (xix 0 (xnat (asI (nthD bc (xix 0 (xnat ↑i) 3)))) 1) [.int .i64 (-1)]))) <|
 K .normal [.slo 1 0 k 0,.any,.any,.slo 3 0 4 0,.slo 8 0 N 0,.slo 2 0 nb 0,.int .i64 ↑nb,.int .i64 (xar .add .i64 (↑i) 1),.any,.any,.any,.any,.any,.any,.any,.any,.any,.any,.any,.any] [some (.ro wc),some (.ro vs),sC bc 3,sC [.slo 4 0 n1 0,.slo 5 0 n2 0,.slo 6 0 n3 0,.slo 7 0 n4 0] 1,sC r1 1,sC r2 1,sC r3 1,sC r4 1,sC (xlay (xlay oc (xix 0 (xnat (asI (nthD bc (xix 0 (xnat ↑i) 3)))) 1) [.int .i64 (-1)]) (xix 0 (xnat (asI (nthD bc (xix 0 (xnat ↑i) 3)))) 1) [.int .i64 0]) 1,sN [.int .i64 (asI (nthD bc (xix 0 (xnat ↑i) 3))),.int .i64 (asI (nthD bc (xadd (xix 0 (xnat ↑i) 3) 1))),.bool (asB (nthD bc (xadd (xadd (xix 0 (xnat ↑i) 3) 1) 1)))]] (factG F))
 else(
 K .normal [.slo 1 0 k 0,.any,.any,.slo 3 0 4 0,.slo 8 0 N 0,.slo 2 0 nb 0,.int .i64 ↑nb,.int .i64 (xar .add .i64 (↑i) 1),.any,.any,.any,.any,.any,.any,.any,.any,.any,.any,.any,.any] [some (.ro wc),some (.ro vs),sC bc 3,sC [.slo 4 0 n1 0,.slo 5 0 n2 0,.slo 6 0 n3 0,.slo 7 0 n4 0] 1,sC r1 1,sC r2 1,sC r3 1,sC r4 1,sC (xlay oc (xix 0 (xnat (asI (nthD bc (xix 0 (xnat ↑i) 3)))) 1) [.int .i64 (-1)]) 1,sN [.int .i64 (asI (nthD bc (xix 0 (xnat ↑i) 3))),.int .i64 (asI (nthD bc (xadd (xix 0 (xnat ↑i) 3) 1))),.bool (asB (nthD bc (xadd (xadd (xix 0 (xnat ↑i) 3) 1) 1)))]] (factG F)))
 else(
 K (.exit 0) [.slo 1 0 k 0,.any,.any,.slo 3 0 4 0,.slo 8 0 N 0,.slo 2 0 nb 0,.int .i64 ↑nb,.int .i64 ↑i,.any,.any,.any,.any,.any,.any,.any,.any,.any,.any,.any,.any] [some (.ro wc),some (.ro vs),sC bc 3,sC [.slo 4 0 n1 0,.slo 5 0 n2 0,.slo 6 0 n3 0,.slo 7 0 n4 0] 1,sC r1 1,sC r2 1,sC r3 1,sC r4 1,sC oc 1] (factG F))):=by kernel_rfl
theorem pr_e (k nb N i:Nat) (wc vs bc:List LV) (n1 n2 n3 n4:Nat) (r1 r2 r3 r4 oc:List LV) (F:World→Prop) (K:Pk):(xsp prog cxpG 60 114 (seg prS 10 1) (mkTm 114 (prT k nb N i)) (mkS (prH wc vs bc n1 n2 n3 n4 r1 r2 r3 r4 oc) (factG F)) (vK prL K))=(
 K .normal [.slo 1 0 k 0,.any,.any,.slo 3 0 4 0,.slo 8 0 N 0,.slo 2 0 nb 0,.int .i64 ↑nb,.int .i64 ↑i,.slo 3 0 4 0,.int .i64 4,.int .i64 0,.any,.any,.any,.any,.any,.any,.any,.any,.any] [some (.ro wc),some (.ro vs),sC bc 3,sC [.slo 4 0 n1 0,.slo 5 0 n2 0,.slo 6 0 n3 0,.slo 7 0 n4 0] 1,sC r1 1,sC r2 1,sC r3 1,sC r4 1,sC oc 1] (factG F)):=by kernel_rfl
theorem pr_o0 (k N:Nat) (wc vs bc:List LV) (n1 n2 n3 n4:Nat) (r1 r2 r3 r4 oc:List LV) (F:World→Prop) (K:Pk):(xsp prog cxpG 60 114 (seg prB1 0 2) (mkTm 114 (prU k N 0)) (mkS (prH wc vs bc n1 n2 n3 n4 r1 r2 r3 r4 oc) (factG F)) (vK prL K))=(
 K .normal [.slo 1 0 k 0,.any,.any,.any,.slo 8 0 N 0,.any,.any,.any,.slo 3 0 4 0,.int .i64 4,.int .i64 0,.any,.any,.any,.any,.any,.any,.any,.any,.any] [some (.ro wc),some (.ro vs),sC bc 3,sC [.slo 4 0 n1 0,.slo 5 0 n2 0,.slo 6 0 n3 0,.slo 7 0 n4 0] 1,sC r1 1,sC r2 1,sC r3 1,sC r4 1,sC oc 1] (factG F)):=by kernel_rfl
theorem pr_o1 (k N:Nat) (wc vs bc:List LV) (n1 n2 n3 n4:Nat) (r1 r2 r3 r4 oc:List LV) (F:World→Prop) (K:Pk):(xsp prog cxpG 60 114 (seg prB1 0 2) (mkTm 114 (prU k N 1)) (mkS (prH wc vs bc n1 n2 n3 n4 r1 r2 r3 r4 oc) (factG F)) (vK prL K))=(
 K .normal [.slo 1 0 k 0,.any,.any,.any,.slo 8 0 N 0,.any,.any,.any,.slo 3 0 4 0,.int .i64 4,.int .i64 1,.any,.any,.any,.any,.any,.any,.any,.any,.any] [some (.ro wc),some (.ro vs),sC bc 3,sC [.slo 4 0 n1 0,.slo 5 0 n2 0,.slo 6 0 n3 0,.slo 7 0 n4 0] 1,sC r1 1,sC r2 1,sC r3 1,sC r4 1,sC oc 1] (factG F)):=by kernel_rfl
theorem pr_o2 (k N:Nat) (wc vs bc:List LV) (n1 n2 n3 n4:Nat) (r1 r2 r3 r4 oc:List LV) (F:World→Prop) (K:Pk):(xsp prog cxpG 60 114 (seg prB1 0 2) (mkTm 114 (prU k N 2)) (mkS (prH wc vs bc n1 n2 n3 n4 r1 r2 r3 r4 oc) (factG F)) (vK prL K))=(
 K .normal [.slo 1 0 k 0,.any,.any,.any,.slo 8 0 N 0,.any,.any,.any,.slo 3 0 4 0,.int .i64 4,.int .i64 2,.any,.any,.any,.any,.any,.any,.any,.any,.any] [some (.ro wc),some (.ro vs),sC bc 3,sC [.slo 4 0 n1 0,.slo 5 0 n2 0,.slo 6 0 n3 0,.slo 7 0 n4 0] 1,sC r1 1,sC r2 1,sC r3 1,sC r4 1,sC oc 1] (factG F)):=by kernel_rfl
theorem pr_o3 (k N:Nat) (wc vs bc:List LV) (n1 n2 n3 n4:Nat) (r1 r2 r3 r4 oc:List LV) (F:World→Prop) (K:Pk):(xsp prog cxpG 60 114 (seg prB1 0 2) (mkTm 114 (prU k N 3)) (mkS (prH wc vs bc n1 n2 n3 n4 r1 r2 r3 r4 oc) (factG F)) (vK prL K))=(
 K .normal [.slo 1 0 k 0,.any,.any,.any,.slo 8 0 N 0,.any,.any,.any,.slo 3 0 4 0,.int .i64 4,.int .i64 3,.any,.any,.any,.any,.any,.any,.any,.any,.any] [some (.ro wc),some (.ro vs),sC bc 3,sC [.slo 4 0 n1 0,.slo 5 0 n2 0,.slo 6 0 n3 0,.slo 7 0 n4 0] 1,sC r1 1,sC r2 1,sC r3 1,sC r4 1,sC oc 1] (factG F)):=by kernel_rfl
theorem pr_o4 (k N:Nat) (wc vs bc:List LV) (n1 n2 n3 n4:Nat) (r1 r2 r3 r4 oc:List LV) (F:World→Prop) (K:Pk):(xsp prog cxpG 60 114 (seg prB1 0 2) (mkTm 114 (prU k N 4)) (mkS (prH wc vs bc n1 n2 n3 n4 r1 r2 r3 r4 oc) (factG F)) (vK prL K))=(
 K (.exit 2) [.slo 1 0 k 0,.any,.any,.any,.slo 8 0 N 0,.any,.any,.any,.slo 3 0 4 0,.int .i64 4,.int .i64 4,.any,.any,.any,.any,.any,.any,.any,.any,.any] [some (.ro wc),some (.ro vs),sC bc 3,sC [.slo 4 0 n1 0,.slo 5 0 n2 0,.slo 6 0 n3 0,.slo 7 0 n4 0] 1,sC r1 1,sC r2 1,sC r3 1,sC r4 1,sC oc 1] (factG F)):=by kernel_rfl
theorem pr_p0 (k N:Nat) (wc vs bc:List LV) (n1 n2 n3 n4:Nat) (r1 r2 r3 r4 oc:List LV) (F:World→Prop) (K:Pk):(xsp prog cxpG 60 114 (seg prC1 0 2) (mkTm 114 (prU k N 0)) (mkS (prH wc vs bc n1 n2 n3 n4 r1 r2 r3 r4 oc) (factG F)) (vK prL K))=(
 K .normal [.slo 1 0 k 0,.any,.any,.any,.slo 8 0 N 0,.any,.any,.any,.slo 3 0 4 0,.int .i64 4,.int .i64 0,.slo 4 0 n1 0,.int .i64 ↑n1,.int .i64 0,.any,.any,.any,.any,.any,.any] [some (.ro wc),some (.ro vs),sC bc 3,sC [.slo 4 0 n1 0,.slo 5 0 n2 0,.slo 6 0 n3 0,.slo 7 0 n4 0] 1,sC r1 1,sC r2 1,sC r3 1,sC r4 1,sC oc 1] (factG F)):=by kernel_rfl
theorem pr_l0 (k N j:Nat) (wc vs bc:List LV) (n1 n2 n3 n4:Nat) (r1 r2 r3 r4 oc:List LV) (F:World→Prop) (K:Pk):(xcode prog cxpG 60 114 (loopOf (nthC prC1 2)) (mkTm 114 (prV k N 0 4 n1 j)) (mkS (prH wc vs bc n1 n2 n3 n4 r1 r2 r3 r4 oc) (factG F)) (vK prL K))=(
 bif xcm .lss ↑j ↑n1 then(
 ck (xle (xadd (xnat ↑j) 1) n1) <|
 ck (xle (xadd (xix 0 (xnat ↑j) 1) 1) (xln r1)) <|
 ck (isI .i64 (nthD r1 (xix 0 (xnat ↑j) 1))) <|
 ck (xnn (asI (nthD r1 (xix 0 (xnat ↑j) 1)))) <|
 ck (xle (xadd (xnat (asI (nthD r1 (xix 0 (xnat ↑j) 1)))) 1) N) <|
 ck (xle (xadd (xix 0 (xnat (asI (nthD r1 (xix 0 (xnat ↑j) 1)))) 1) 1) (xln oc)) <|
 ck (isI .i64 (nthD oc (xix 0 (xnat (asI (nthD r1 (xix 0 (xnat ↑j) 1)))) 1))) <|
 ck (xnn (asI (nthD r1 (xix 0 (xnat ↑j) 1)))) <|
 ck (xle (xadd (xnat (asI (nthD r1 (xix 0 (xnat ↑j) 1)))) 1) N) <|
 ck (xle (xadd (xix 0 (xnat (asI (nthD r1 (xix 0 (xnat ↑j) 1)))) 1) 1) (xln oc)) <|
 K .normal [.slo 1 0 k 0,.any,.any,.any,.slo 8 0 N 0,.any,.any,.any,.slo 3 0 4 0,.int .i64 4,.int .i64 0,.slo 4 0 n1 0,.int .i64 ↑n1,.int .i64 (xar .add .i64 (↑j) 1),.any,.any,.any,.any,.any,.any] [some (.ro wc),some (.ro vs),sC bc 3,sC [.slo 4 0 n1 0,.slo 5 0 n2 0,.slo 6 0 n3 0,.slo 7 0 n4 0] 1,sC r1 1,sC r2 1,sC r3 1,sC r4 1,sC (xlay oc (xix 0 (xnat (asI (nthD r1 (xix 0 (xnat ↑j) 1)))) 1) [.int .i64 (xar .add .i64 (asI (nthD oc (xix 0 (xnat (asI (nthD r1 (xix 0 (xnat ↑j) 1)))) 1))) 1)]) 1] (factG F))
 else(
 K (.exit 4) [.slo 1 0 k 0,.any,.any,.any,.slo 8 0 N 0,.any,.any,.any,.slo 3 0 4 0,.int .i64 4,.int .i64 0,.slo 4 0 n1 0,.int .i64 ↑n1,.int .i64 ↑j,.any,.any,.any,.any,.any,.any] [some (.ro wc),some (.ro vs),sC bc 3,sC [.slo 4 0 n1 0,.slo 5 0 n2 0,.slo 6 0 n3 0,.slo 7 0 n4 0] 1,sC r1 1,sC r2 1,sC r3 1,sC r4 1,sC oc 1] (factG F))):=by kernel_rfl
theorem pr_q0 (k N:Nat) (wc vs bc:List LV) (n1 n2 n3 n4:Nat) (r1 r2 r3 r4 oc:List LV) (F:World→Prop) (K:Pk):(xsp prog cxpG 60 114 (prB1.drop 3) (mkTm 114 (prU k N 0)) (mkS (prH wc vs bc n1 n2 n3 n4 r1 r2 r3 r4 oc) (factG F)) (vK prL K))=(
 K .normal [.slo 1 0 k 0,.any,.any,.any,.slo 8 0 N 0,.any,.any,.any,.slo 3 0 4 0,.int .i64 4,.int .i64 1,.any,.any,.any,.any,.any,.any,.any,.any,.any] [some (.ro wc),some (.ro vs),sC bc 3,sC [.slo 4 0 n1 0,.slo 5 0 n2 0,.slo 6 0 n3 0,.slo 7 0 n4 0] 1,sC r1 1,sC r2 1,sC r3 1,sC r4 1,sC oc 1] (factG F)):=by kernel_rfl
theorem pr_p1 (k N:Nat) (wc vs bc:List LV) (n1 n2 n3 n4:Nat) (r1 r2 r3 r4 oc:List LV) (F:World→Prop) (K:Pk):(xsp prog cxpG 60 114 (seg prC1 0 2) (mkTm 114 (prU k N 1)) (mkS (prH wc vs bc n1 n2 n3 n4 r1 r2 r3 r4 oc) (factG F)) (vK prL K))=(
 K .normal [.slo 1 0 k 0,.any,.any,.any,.slo 8 0 N 0,.any,.any,.any,.slo 3 0 4 0,.int .i64 4,.int .i64 1,.slo 5 0 n2 0,.int .i64 ↑n2,.int .i64 0,.any,.any,.any,.any,.any,.any] [some (.ro wc),some (.ro vs),sC bc 3,sC [.slo 4 0 n1 0,.slo 5 0 n2 0,.slo 6 0 n3 0,.slo 7 0 n4 0] 1,sC r1 1,sC r2 1,sC r3 1,sC r4 1,sC oc 1] (factG F)):=by kernel_rfl
theorem pr_l1 (k N j:Nat) (wc vs bc:List LV) (n1 n2 n3 n4:Nat) (r1 r2 r3 r4 oc:List LV) (F:World→Prop) (K:Pk):(xcode prog cxpG 60 114 (loopOf (nthC prC1 2)) (mkTm 114 (prV k N 1 5 n2 j)) (mkS (prH wc vs bc n1 n2 n3 n4 r1 r2 r3 r4 oc) (factG F)) (vK prL K))=(
 bif xcm .lss ↑j ↑n2 then(
 ck (xle (xadd (xnat ↑j) 1) n2) <|
 ck (xle (xadd (xix 0 (xnat ↑j) 1) 1) (xln r2)) <|
 ck (isI .i64 (nthD r2 (xix 0 (xnat ↑j) 1))) <|
 ck (xnn (asI (nthD r2 (xix 0 (xnat ↑j) 1)))) <|
 ck (xle (xadd (xnat (asI (nthD r2 (xix 0 (xnat ↑j) 1)))) 1) N) <|
 ck (xle (xadd (xix 0 (xnat (asI (nthD r2 (xix 0 (xnat ↑j) 1)))) 1) 1) (xln oc)) <|
 ck (isI .i64 (nthD oc (xix 0 (xnat (asI (nthD r2 (xix 0 (xnat ↑j) 1)))) 1))) <|
 ck (xnn (asI (nthD r2 (xix 0 (xnat ↑j) 1)))) <|
 ck (xle (xadd (xnat (asI (nthD r2 (xix 0 (xnat ↑j) 1)))) 1) N) <|
 ck (xle (xadd (xix 0 (xnat (asI (nthD r2 (xix 0 (xnat ↑j) 1)))) 1) 1) (xln oc)) <|
 K .normal [.slo 1 0 k 0,.any,.any,.any,.slo 8 0 N 0,.any,.any,.any,.slo 3 0 4 0,.int .i64 4,.int .i64 1,.slo 5 0 n2 0,.int .i64 ↑n2,.int .i64 (xar .add .i64 (↑j) 1),.any,.any,.any,.any,.any,.any] [some (.ro wc),some (.ro vs),sC bc 3,sC [.slo 4 0 n1 0,.slo 5 0 n2 0,.slo 6 0 n3 0,.slo 7 0 n4 0] 1,sC r1 1,sC r2 1,sC r3 1,sC r4 1,sC (xlay oc (xix 0 (xnat (asI (nthD r2 (xix 0 (xnat ↑j) 1)))) 1) [.int .i64 (xar .add .i64 (asI (nthD oc (xix 0 (xnat (asI (nthD r2 (xix 0 (xnat ↑j) 1)))) 1))) 1)]) 1] (factG F))
 else(
 K (.exit 4) [.slo 1 0 k 0,.any,.any,.any,.slo 8 0 N 0,.any,.any,.any,.slo 3 0 4 0,.int .i64 4,.int .i64 1,.slo 5 0 n2 0,.int .i64 ↑n2,.int .i64 ↑j,.any,.any,.any,.any,.any,.any] [some (.ro wc),some (.ro vs),sC bc 3,sC [.slo 4 0 n1 0,.slo 5 0 n2 0,.slo 6 0 n3 0,.slo 7 0 n4 0] 1,sC r1 1,sC r2 1,sC r3 1,sC r4 1,sC oc 1] (factG F))):=by kernel_rfl
theorem pr_q1 (k N:Nat) (wc vs bc:List LV) (n1 n2 n3 n4:Nat) (r1 r2 r3 r4 oc:List LV) (F:World→Prop) (K:Pk):(xsp prog cxpG 60 114 (prB1.drop 3) (mkTm 114 (prU k N 1)) (mkS (prH wc vs bc n1 n2 n3 n4 r1 r2 r3 r4 oc) (factG F)) (vK prL K))=(
 K .normal [.slo 1 0 k 0,.any,.any,.any,.slo 8 0 N 0,.any,.any,.any,.slo 3 0 4 0,.int .i64 4,.int .i64 2,.any,.any,.any,.any,.any,.any,.any,.any,.any] [some (.ro wc),some (.ro vs),sC bc 3,sC [.slo 4 0 n1 0,.slo 5 0 n2 0,.slo 6 0 n3 0,.slo 7 0 n4 0] 1,sC r1 1,sC r2 1,sC r3 1,sC r4 1,sC oc 1] (factG F)):=by kernel_rfl
theorem pr_p2 (k N:Nat) (wc vs bc:List LV) (n1 n2 n3 n4:Nat) (r1 r2 r3 r4 oc:List LV) (F:World→Prop) (K:Pk):(xsp prog cxpG 60 114 (seg prC1 0 2) (mkTm 114 (prU k N 2)) (mkS (prH wc vs bc n1 n2 n3 n4 r1 r2 r3 r4 oc) (factG F)) (vK prL K))=(
 K .normal [.slo 1 0 k 0,.any,.any,.any,.slo 8 0 N 0,.any,.any,.any,.slo 3 0 4 0,.int .i64 4,.int .i64 2,.slo 6 0 n3 0,.int .i64 ↑n3,.int .i64 0,.any,.any,.any,.any,.any,.any] [some (.ro wc),some (.ro vs),sC bc 3,sC [.slo 4 0 n1 0,.slo 5 0 n2 0,.slo 6 0 n3 0,.slo 7 0 n4 0] 1,sC r1 1,sC r2 1,sC r3 1,sC r4 1,sC oc 1] (factG F)):=by kernel_rfl
theorem pr_l2 (k N j:Nat) (wc vs bc:List LV) (n1 n2 n3 n4:Nat) (r1 r2 r3 r4 oc:List LV) (F:World→Prop) (K:Pk):(xcode prog cxpG 60 114 (loopOf (nthC prC1 2)) (mkTm 114 (prV k N 2 6 n3 j)) (mkS (prH wc vs bc n1 n2 n3 n4 r1 r2 r3 r4 oc) (factG F)) (vK prL K))=(
 bif xcm .lss ↑j ↑n3 then(
 ck (xle (xadd (xnat ↑j) 1) n3) <|
 ck (xle (xadd (xix 0 (xnat ↑j) 1) 1) (xln r3)) <|
 ck (isI .i64 (nthD r3 (xix 0 (xnat ↑j) 1))) <|
 ck (xnn (asI (nthD r3 (xix 0 (xnat ↑j) 1)))) <|
 ck (xle (xadd (xnat (asI (nthD r3 (xix 0 (xnat ↑j) 1)))) 1) N) <|
 ck (xle (xadd (xix 0 (xnat (asI (nthD r3 (xix 0 (xnat ↑j) 1)))) 1) 1) (xln oc)) <|
 ck (isI .i64 (nthD oc (xix 0 (xnat (asI (nthD r3 (xix 0 (xnat ↑j) 1)))) 1))) <|
 ck (xnn (asI (nthD r3 (xix 0 (xnat ↑j) 1)))) <|
 ck (xle (xadd (xnat (asI (nthD r3 (xix 0 (xnat ↑j) 1)))) 1) N) <|
 ck (xle (xadd (xix 0 (xnat (asI (nthD r3 (xix 0 (xnat ↑j) 1)))) 1) 1) (xln oc)) <|
 K .normal [.slo 1 0 k 0,.any,.any,.any,.slo 8 0 N 0,.any,.any,.any,.slo 3 0 4 0,.int .i64 4,.int .i64 2,.slo 6 0 n3 0,.int .i64 ↑n3,.int .i64 (xar .add .i64 (↑j) 1),.any,.any,.any,.any,.any,.any] [some (.ro wc),some (.ro vs),sC bc 3,sC [.slo 4 0 n1 0,.slo 5 0 n2 0,.slo 6 0 n3 0,.slo 7 0 n4 0] 1,sC r1 1,sC r2 1,sC r3 1,sC r4 1,sC (xlay oc (xix 0 (xnat (asI (nthD r3 (xix 0 (xnat ↑j) 1)))) 1) [.int .i64 (xar .add .i64 (asI (nthD oc (xix 0 (xnat (asI (nthD r3 (xix 0 (xnat ↑j) 1)))) 1))) 1)]) 1] (factG F))
 else(
 K (.exit 4) [.slo 1 0 k 0,.any,.any,.any,.slo 8 0 N 0,.any,.any,.any,.slo 3 0 4 0,.int .i64 4,.int .i64 2,.slo 6 0 n3 0,.int .i64 ↑n3,.int .i64 ↑j,.any,.any,.any,.any,.any,.any] [some (.ro wc),some (.ro vs),sC bc 3,sC [.slo 4 0 n1 0,.slo 5 0 n2 0,.slo 6 0 n3 0,.slo 7 0 n4 0] 1,sC r1 1,sC r2 1,sC r3 1,sC r4 1,sC oc 1] (factG F))):=by kernel_rfl
theorem pr_q2 (k N:Nat) (wc vs bc:List LV) (n1 n2 n3 n4:Nat) (r1 r2 r3 r4 oc:List LV) (F:World→Prop) (K:Pk):(xsp prog cxpG 60 114 (prB1.drop 3) (mkTm 114 (prU k N 2)) (mkS (prH wc vs bc n1 n2 n3 n4 r1 r2 r3 r4 oc) (factG F)) (vK prL K))=(
 K .normal [.slo 1 0 k 0,.any,.any,.any,.slo 8 0 N 0,.any,.any,.any,.slo 3 0 4 0,.int .i64 4,.int .i64 3,.any,.any,.any,.any,.any,.any,.any,.any,.any] [some (.ro wc),some (.ro vs),sC bc 3,sC [.slo 4 0 n1 0,.slo 5 0 n2 0,.slo 6 0 n3 0,.slo 7 0 n4 0] 1,sC r1 1,sC r2 1,sC r3 1,sC r4 1,sC oc 1] (factG F)):=by kernel_rfl
theorem pr_p3 (k N:Nat) (wc vs bc:List LV) (n1 n2 n3 n4:Nat) (r1 r2 r3 r4 oc:List LV) (F:World→Prop) (K:Pk):(xsp prog cxpG 60 114 (seg prC1 0 2) (mkTm 114 (prU k N 3)) (mkS (prH wc vs bc n1 n2 n3 n4 r1 r2 r3 r4 oc) (factG F)) (vK prL K))=(
 K .normal [.slo 1 0 k 0,.any,.any,.any,.slo 8 0 N 0,.any,.any,.any,.slo 3 0 4 0,.int .i64 4,.int .i64 3,.slo 7 0 n4 0,.int .i64 ↑n4,.int .i64 0,.any,.any,.any,.any,.any,.any] [some (.ro wc),some (.ro vs),sC bc 3,sC [.slo 4 0 n1 0,.slo 5 0 n2 0,.slo 6 0 n3 0,.slo 7 0 n4 0] 1,sC r1 1,sC r2 1,sC r3 1,sC r4 1,sC oc 1] (factG F)):=by kernel_rfl
theorem pr_l3 (k N j:Nat) (wc vs bc:List LV) (n1 n2 n3 n4:Nat) (r1 r2 r3 r4 oc:List LV) (F:World→Prop) (K:Pk):(xcode prog cxpG 60 114 (loopOf (nthC prC1 2)) (mkTm 114 (prV k N 3 7 n4 j)) (mkS (prH wc vs bc n1 n2 n3 n4 r1 r2 r3 r4 oc) (factG F)) (vK prL K))=(
 bif xcm .lss ↑j ↑n4 then(
 ck (xle (xadd (xnat ↑j) 1) n4) <|
 ck (xle (xadd (xix 0 (xnat ↑j) 1) 1) (xln r4)) <|
 ck (isI .i64 (nthD r4 (xix 0 (xnat ↑j) 1))) <|
 ck (xnn (asI (nthD r4 (xix 0 (xnat ↑j) 1)))) <|
 ck (xle (xadd (xnat (asI (nthD r4 (xix 0 (xnat ↑j) 1)))) 1) N) <|
 ck (xle (xadd (xix 0 (xnat (asI (nthD r4 (xix 0 (xnat ↑j) 1)))) 1) 1) (xln oc)) <|
 ck (isI .i64 (nthD oc (xix 0 (xnat (asI (nthD r4 (xix 0 (xnat ↑j) 1)))) 1))) <|
 ck (xnn (asI (nthD r4 (xix 0 (xnat ↑j) 1)))) <|
 ck (xle (xadd (xnat (asI (nthD r4 (xix 0 (xnat ↑j) 1)))) 1) N) <|
 ck (xle (xadd (xix 0 (xnat (asI (nthD r4 (xix 0 (xnat ↑j) 1)))) 1) 1) (xln oc)) <|
 K .normal [.slo 1 0 k 0,.any,.any,.any,.slo 8 0 N 0,.any,.any,.any,.slo 3 0 4 0,.int .i64 4,.int .i64 3,.slo 7 0 n4 0,.int .i64 ↑n4,.int .i64 (xar .add .i64 (↑j) 1),.any,.any,.any,.any,.any,.any] [some (.ro wc),some (.ro vs),sC bc 3,sC [.slo 4 0 n1 0,.slo 5 0 n2 0,.slo 6 0 n3 0,.slo 7 0 n4 0] 1,sC r1 1,sC r2 1,sC r3 1,sC r4 1,sC (xlay oc (xix 0 (xnat (asI (nthD r4 (xix 0 (xnat ↑j) 1)))) 1) [.int .i64 (xar .add .i64 (asI (nthD oc (xix 0 (xnat (asI (nthD r4 (xix 0 (xnat ↑j) 1)))) 1))) 1)]) 1] (factG F))
 else(
 K (.exit 4) [.slo 1 0 k 0,.any,.any,.any,.slo 8 0 N 0,.any,.any,.any,.slo 3 0 4 0,.int .i64 4,.int .i64 3,.slo 7 0 n4 0,.int .i64 ↑n4,.int .i64 ↑j,.any,.any,.any,.any,.any,.any] [some (.ro wc),some (.ro vs),sC bc 3,sC [.slo 4 0 n1 0,.slo 5 0 n2 0,.slo 6 0 n3 0,.slo 7 0 n4 0] 1,sC r1 1,sC r2 1,sC r3 1,sC r4 1,sC oc 1] (factG F))):=by kernel_rfl
theorem pr_q3 (k N:Nat) (wc vs bc:List LV) (n1 n2 n3 n4:Nat) (r1 r2 r3 r4 oc:List LV) (F:World→Prop) (K:Pk):(xsp prog cxpG 60 114 (prB1.drop 3) (mkTm 114 (prU k N 3)) (mkS (prH wc vs bc n1 n2 n3 n4 r1 r2 r3 r4 oc) (factG F)) (vK prL K))=(
 K .normal [.slo 1 0 k 0,.any,.any,.any,.slo 8 0 N 0,.any,.any,.any,.slo 3 0 4 0,.int .i64 4,.int .i64 4,.any,.any,.any,.any,.any,.any,.any,.any,.any] [some (.ro wc),some (.ro vs),sC bc 3,sC [.slo 4 0 n1 0,.slo 5 0 n2 0,.slo 6 0 n3 0,.slo 7 0 n4 0] 1,sC r1 1,sC r2 1,sC r3 1,sC r4 1,sC oc 1] (factG F)):=by kernel_rfl
theorem pr_f (k N:Nat) (wc vs bc:List LV) (n1 n2 n3 n4:Nat) (r1 r2 r3 r4 oc:List LV) (F:World→Prop) (K:Pk):(xsp prog cxpG 60 114 (seg prS 12 1) (mkTm 114 (prU k N 4)) (mkS (prH wc vs bc n1 n2 n3 n4 r1 r2 r3 r4 oc) (factG F)) (vK prL K))=(
 K .normal [.slo 1 0 k 0,.any,.any,.any,.slo 8 0 N 0,.any,.any,.any,.slo 3 0 4 0,.int .i64 4,.int .i64 4,.any,.any,.any,.slo 1 0 k 0,.int .i64 ↑k,.int .i64 0,.any,.any,.any] [some (.ro wc),some (.ro vs),sC bc 3,sC [.slo 4 0 n1 0,.slo 5 0 n2 0,.slo 6 0 n3 0,.slo 7 0 n4 0] 1,sC r1 1,sC r2 1,sC r3 1,sC r4 1,sC oc 1] (factG F)):=by kernel_rfl
theorem pr_g (k N i:Nat) (wc vs oc:List LV) (F:World→Prop) (K:Pk):(xsp prog cxpG 60 114 (seg prB2 0 2) (mkTm 114 (prX k N i)) (mkS (prI wc vs oc) (factG F)) (vK prL K))=(
 bif xcm .lss ↑i ↑k then(
 K .normal [.any,.any,.any,.any,.slo 2 0 N 0,.any,.any,.any,.any,.any,.any,.any,.any,.any,.slo 1 0 k 0,.int .i64 ↑k,.int .i64 ↑i,.any,.any,.any] [some (.ro wc),some (.ro vs),sC oc 1] (factG F))
 else(
 K (.exit 6) [.any,.any,.any,.any,.slo 2 0 N 0,.any,.any,.any,.any,.any,.any,.any,.any,.any,.slo 1 0 k 0,.int .i64 ↑k,.int .i64 ↑i,.any,.any,.any] [some (.ro wc),some (.ro vs),sC oc 1] (factG F))):=by kernel_rfl
theorem pr_h (k N i:Nat) (wc vs oc:List LV) (F:World→Prop) (K:Pk):(xsp prog cxpG 60 114 (seg prC2 0 2) (mkTm 114 (prX k N i)) (mkS (prI wc vs oc) (factG F)) (vK prL K))=(
 ck (xle (xadd (xnat ↑i) 1) k) <|
 ck (xle (xadd (xix 0 (xnat ↑i) 1) 1) (xln vs)) <|
 ck (isV (nthD vs (xix 0 (xnat ↑i) 1))) <|
 K .normal [.any,.any,.any,.any,.slo 2 0 N 0,.any,.any,.any,.any,.any,.any,.any,.any,.any,.slo 1 0 k 0,.int .i64 ↑k,.int .i64 ↑i,.val (asV (nthD vs (xix 0 (xnat ↑i) 1))),.int .i64 ↑(xvl (asV (nthD vs (xix 0 (xnat ↑i) 1)))),.int .i64 0] [some (.ro wc),some (.ro vs),sC oc 1] (factG F)):=by kernel_rfl
abbrev pr_i_b1 (j:Nat) (v:Value) (wc:List LV) (vs:List LV) (oc:List LV) (F:World→Prop):List (Option LB):=[some (.ro wc),some (.ro vs),sC (xlay oc (xix 0 (xnat (asI (nthD (xvrow F v (xmul (xnat ↑j) 2) 2) 0))) 1) [.int .i64 (xar .add .i64 (asI (nthD oc (xix 0 (xnat (asI (nthD (xvrow F v (xmul (xnat ↑j) 2) 2) 0))) 1))) 1)]) 1,sN [.int .i64 (asI (nthD (xvrow F v (xmul (xnat ↑j) 2) 2) 0)),.int .u64 (asI (nthD (xvrow F v (xmul (xnat ↑j) 2) 2) 1))]]
theorem pr_i (k N i n j:Nat) (v:Value) (wc vs oc:List LV) (F:World→Prop) (K:Pk):(xcode prog cxpG 60 114 (loopOf (nthC prC2 2)) (mkTm 114 (prY k N i v n j)) (mkS (prI wc vs oc) (factG F)) (vK prL K))=(
 bif xcm .lss ↑j ↑n then(
 ck (xvix v (xnat ↑j)) <|
 ck (xvrok F v (xmul (xnat ↑j) 2) 2) <|
 ck (xle 2 (xln (xvrow F v (xmul (xnat ↑j) 2) 2))) <|
 ck (isI .i64 (nthD (xvrow F v (xmul (xnat ↑j) 2) 2) 0)) <|
 ck (isI .u64 (nthD (xvrow F v (xmul (xnat ↑j) 2) 2) 1)) <|
 bif xcm .lss (asI (nthD (xvrow F v (xmul (xnat ↑j) 2) 2) 0)) 0 then(
 K .ret [.any,.bool false,.any,.any,.slo 2 0 N 0,.any,.any,.any,.any,.any,.any,.any,.any,.any,.slo 1 0 k 0,.int .i64 ↑k,.int .i64 ↑i,.val v,.int .i64 ↑n,.int .i64 ↑j] [some (.ro wc),some (.ro vs),sC oc 1,sN [.int .i64 (asI (nthD (xvrow F v (xmul (xnat ↑j) 2) 2) 0)),.int .u64 (asI (nthD (xvrow F v (xmul (xnat ↑j) 2) 2) 1))]] (factG F))
 else(
 bif xcm .geq (asI (nthD (xvrow F v (xmul (xnat ↑j) 2) 2) 0)) ↑N then(
 K .ret [.any,.bool false,.any,.any,.slo 2 0 N 0,.any,.any,.any,.any,.any,.any,.any,.any,.any,.slo 1 0 k 0,.int .i64 ↑k,.int .i64 ↑i,.val v,.int .i64 ↑n,.int .i64 ↑j] [some (.ro wc),some (.ro vs),sC oc 1,sN [.int .i64 (asI (nthD (xvrow F v (xmul (xnat ↑j) 2) 2) 0)),.int .u64 (asI (nthD (xvrow F v (xmul (xnat ↑j) 2) 2) 1))]] (factG F))
 else(
 ck (xnn (asI (nthD (xvrow F v (xmul (xnat ↑j) 2) 2) 0))) <|
 ck (xle (xadd (xnat (asI (nthD (xvrow F v (xmul (xnat ↑j) 2) 2) 0))) 1) N) <|
 ck (xle (xadd (xix 0 (xnat (asI (nthD (xvrow F v (xmul (xnat ↑j) 2) 2) 0))) 1) 1) (xln oc)) <|
 ck (isI .i64 (nthD oc (xix 0 (xnat (asI (nthD (xvrow F v (xmul (xnat ↑j) 2) 2) 0))) 1))) <|
 ck (xnn (asI (nthD (xvrow F v (xmul (xnat ↑j) 2) 2) 0))) <|
 ck (xle (xadd (xnat (asI (nthD (xvrow F v (xmul (xnat ↑j) 2) 2) 0))) 1) N) <|
 ck (xle (xadd (xix 0 (xnat (asI (nthD (xvrow F v (xmul (xnat ↑j) 2) 2) 0))) 1) 1) (xln oc)) <|
 ck (xnn (asI (nthD (xvrow F v (xmul (xnat ↑j) 2) 2) 0))) <|
 ck (xle (xadd (xnat (asI (nthD (xvrow F v (xmul (xnat ↑j) 2) 2) 0))) 1) N) <|
 ck (xle (xadd (xix 0 (xnat (asI (nthD (xvrow F v (xmul (xnat ↑j) 2) 2) 0))) 1) 1) (xln (xlay oc (xix 0 (xnat (asI (nthD (xvrow F v (xmul (xnat ↑j) 2) 2) 0))) 1) [.int .i64 (xar .add .i64 (asI (nthD oc (xix 0 (xnat (asI (nthD (xvrow F v (xmul (xnat ↑j) 2) 2) 0))) 1))) 1)]))) <|
 ck (isI .i64 (nthD (xlay oc (xix 0 (xnat (asI (nthD (xvrow F v (xmul (xnat ↑j) 2) 2) 0))) 1) [.int .i64 (xar .add .i64 (asI (nthD oc (xix 0 (xnat (asI (nthD (xvrow F v (xmul (xnat ↑j) 2) 2) 0))) 1))) 1)]) (xix 0 (xnat (asI (nthD (xvrow F v (xmul (xnat ↑j) 2) 2) 0))) 1))) <|
 bif xcm .gtr (asI (nthD (xlay oc (xix 0 (xnat (asI (nthD (xvrow F v (xmul (xnat ↑j) 2) 2) 0))) 1) [.int .i64 (xar .add .i64 (asI (nthD oc (xix 0 (xnat (asI (nthD (xvrow F v (xmul (xnat ↑j) 2) 2) 0))) 1))) 1)]) (xix 0 (xnat (asI (nthD (xvrow F v (xmul (xnat ↑j) 2) 2) 0))) 1))) 0 then(
 K .ret [.any,.bool false,.any,.any,.slo 2 0 N 0,.any,.any,.any,.any,.any,.any,.any,.any,.any,.slo 1 0 k 0,.int .i64 ↑k,.int .i64 ↑i,.val v,.int .i64 ↑n,.int .i64 ↑j] (pr_i_b1 j v wc vs oc F) (factG F))
 else(
 K .normal [.any,.any,.any,.any,.slo 2 0 N 0,.any,.any,.any,.any,.any,.any,.any,.any,.any,.slo 1 0 k 0,.int .i64 ↑k,.int .i64 ↑i,.val v,.int .i64 ↑n,.int .i64 (xar .add .i64 (↑j) 1)] (pr_i_b1 j v wc vs oc F) (factG F)))))
 else(
 K (.exit 8) [.any,.any,.any,.any,.slo 2 0 N 0,.any,.any,.any,.any,.any,.any,.any,.any,.any,.slo 1 0 k 0,.int .i64 ↑k,.int .i64 ↑i,.val v,.int .i64 ↑n,.int .i64 ↑j] [some (.ro wc),some (.ro vs),sC oc 1] (factG F))):=by kernel_rfl
theorem pr_j (k N i:Nat) (wc vs oc:List LV) (F:World→Prop) (K:Pk):(xsp prog cxpG 60 114 (prB2.drop 3) (mkTm 114 (prX k N i)) (mkS (prI wc vs oc) (factG F)) (vK prL K))=(
 K .normal [.any,.any,.any,.any,.slo 2 0 N 0,.any,.any,.any,.any,.any,.any,.any,.any,.any,.slo 1 0 k 0,.int .i64 ↑k,.int .i64 (xar .add .i64 (↑i) 1),.any,.any,.any] [some (.ro wc),some (.ro vs),sC oc 1] (factG F)):=by kernel_rfl
theorem pr_z (N:Nat) (wc vs oc:List LV) (F:World→Prop) (K:Pk):(xsp prog cxpG 60 114 (prS.drop 14) (mkTm 114 (prZ N)) (mkS (prI wc vs oc) (factG F)) (vK prL K))=(
 ck (okX oc N) <|
 K .ret [.any,.bool (xnot (coW oc N (-1))),.any,.any,.slo 2 0 N 0,.any,.any,.any,.any,.any,.any,.any,.any,.any,.any,.any,.any,.any,.any,.any] [some (.ro wc),some (.ro vs),sC oc 1] (factG F)):=by kernel_rfl
theorem qr_b (N k:Nat) (wc vs:List LV) (F:World→Prop) (K:Pk):(xsp prog cxqB 60 128 (seg qrS 0 5) (tm0 [.slo 0 0 N 0,.slo 1 0 k 0]) (mkS [.ro wc,.ro vs] (factG F)) (vK qrL K))=(
 ck (okU wc N) <|
 ck (lbW wc N) <|
 bif xnot (bkO wc) then(
 K .ret [.slo 1 0 k 0,.bool false,.slo 2 0 (bkN wc) 0,.nils,.tup [],.tup [],.tup [],.tup [],.tup [],.tup [],.tup [],.tup [],.tup []] [some (.ro wc),some (.ro vs),sC (bkC wc) 3] (factG F))
 else(
 K .ret [.slo 1 0 k 0,.bool false,.slo 2 0 (bkN wc) 0,.nils,.tup [],.tup [],.tup [],.tup [],.tup [],.tup [],.tup [],.tup [],.tup []] [some (.ro wc),some (.ro vs),sC (bkC wc) 3] (factG F))):=by kernel_rfl
abbrev qr_a_b1 (wc:List LV) (vs:List LV):List (Option LB):=[some (.ro wc),some (.ro vs),sC (bkC wc) 3,sC [.slo 4 0 (ln1 wc) 0,.slo 5 0 (ln2 wc) 0,.slo 6 0 (ln3 wc) 0,.slo 7 0 (ln4 wc) 0] 1,sC (lc1 wc) 1,sC (lc2 wc) 1,sC (lc3 wc) 1,sC (lc4 wc) 1]
theorem qr_a (N k:Nat) (wc vs:List LV) (F:World→Prop) (K:Pk):(xsp prog cxqG 60 128 (seg qrS 0 7) (tm0 [.slo 0 0 N 0,.slo 1 0 k 0]) (mkS [.ro wc,.ro vs] (factG F)) (vK qrL K))=(
 ck (okU wc N) <|
 ck (lgW wc N) <|
 bif xnot (bkO wc) then(
 K .ret [.slo 1 0 k 0,.bool false,.slo 2 0 (bkN wc) 0,.slo 3 0 4 0,.tup [],.tup [],.tup [],.tup [],.tup [],.tup [],.tup [],.tup [],.tup []] (qr_a_b1 wc vs) (factG F))
 else(
 K .normal [.slo 1 0 k 0,.bool false,.slo 2 0 (bkN wc) 0,.slo 3 0 4 0,.int .i64 0,.int .i64 0,.tup [],.tup [],.tup [],.tup [],.tup [],.tup [],.tup []] (qr_a_b1 wc vs) (factG F))):=by kernel_rfl
abbrev qr_c_b1 (wc:List LV) (vs:List LV) (bc:List LV) (n1:Nat) (n2:Nat) (n3:Nat) (n4:Nat) (r1:List LV) (r2:List LV) (r3:List LV) (r4:List LV):List (Option LB):=[some (.ro wc),some (.ro vs),sC bc 3,sC [.slo 4 0 n1 0,.slo 5 0 n2 0,.slo 6 0 n3 0,.slo 7 0 n4 0] 1,sC r1 1,sC r2 1,sC r3 1,sC r4 1]
theorem qr_c (k nb n i:Nat) (wc vs bc:List LV) (n1 n2 n3 n4:Nat) (r1 r2 r3 r4:List LV) (F:World→Prop) (K:Pk):(xsp prog cxqG 60 128 (seg qrB 0 2) (mkTm 128 (qrT k nb n i)) (mkS (qrH wc vs bc n1 n2 n3 n4 r1 r2 r3 r4) (factG F)) (vK qrL K))=(
 bif xcm .lss ↑i ↑nb then(
 K .normal [.slo 1 0 k 0,.any,.slo 2 0 nb 0,.slo 3 0 4 0,.int .i64 ↑n,.int .i64 ↑i,.any,.any,.any,.any,.any,.any,.any] (qr_c_b1 wc vs bc n1 n2 n3 n4 r1 r2 r3 r4) (factG F))
 else(
 K (.exit 0) [.slo 1 0 k 0,.any,.slo 2 0 nb 0,.slo 3 0 4 0,.int .i64 ↑n,.int .i64 ↑i,.any,.any,.any,.any,.any,.any,.any] (qr_c_b1 wc vs bc n1 n2 n3 n4 r1 r2 r3 r4) (factG F))):=by kernel_rfl
abbrev qr_d_b1 (wc:List LV) (vs:List LV) (bc:List LV) (n1:Nat) (n2:Nat) (n3:Nat) (n4:Nat) (r1:List LV) (r2:List LV) (r3:List LV) (r4:List LV):List (Option LB):=[some (.ro wc),some (.ro vs),sC bc 3,sC [.slo 4 0 n1 0,.slo 5 0 n2 0,.slo 6 0 n3 0,.slo 7 0 n4 0] 1,sC r1 1,sC r2 1,sC r3 1,sC r4 1]
theorem qr_d (k nb n i:Nat) (wc vs bc:List LV) (n1 n2 n3 n4:Nat) (r1 r2 r3 r4:List LV) (F:World→Prop) (K:Pk):(xsp prog cxqG 60 128 (seg qrC 0 4) (mkTm 128 (qrT k nb n i)) (mkS (qrH wc vs bc n1 n2 n3 n4 r1 r2 r3 r4) (factG F)) (vK qrL K))=(
 ck (xle (xadd (xnat ↑i) 1) nb) <|
 ck (xle (xadd (xadd (xix 0 (xnat ↑i) 3) 2) 1) (xln bc)) <|
 ck (isB (nthD bc (xadd (xix 0 (xnat ↑i) 3) 2))) <|
 bif asB (nthD bc (xadd (xix 0 (xnat ↑i) 3) 2)) then(
 K .normal [.slo 1 0 k 0,.any,.slo 2 0 nb 0,.slo 3 0 4 0,.int .i64 ↑n,.int .i64 ↑i,.int .i64 1,.int .i64 0,.any,.any,.any,.any,.any] (qr_d_b1 wc vs bc n1 n2 n3 n4 r1 r2 r3 r4) (factG F))
 else(
 K .normal [.slo 1 0 k 0,.any,.slo 2 0 nb 0,.slo 3 0 4 0,.int .i64 ↑n,.int .i64 ↑i,.int .i64 0,.int .i64 0,.any,.any,.any,.any,.any] (qr_d_b1 wc vs bc n1 n2 n3 n4 r1 r2 r3 r4) (factG F))):=by kernel_rfl
theorem qr_o0 (k nb n i q:Nat) (wc vs bc:List LV) (n1 n2 n3 n4:Nat) (r1 r2 r3 r4:List LV) (F:World→Prop) (K:Pk):(xsp prog cxqG 60 128 (seg qrD 0 2) (mkTm 128 (qrU k nb n i q 0)) (mkS (qrH wc vs bc n1 n2 n3 n4 r1 r2 r3 r4) (factG F)) (vK qrL K))=(
 K .normal [.slo 1 0 k 0,.any,.slo 2 0 nb 0,.slo 3 0 4 0,.int .i64 ↑n,.int .i64 ↑i,.int .i64 ↑q,.int .i64 0,.any,.any,.any,.any,.any] [some (.ro wc),some (.ro vs),sC bc 3,sC [.slo 4 0 n1 0,.slo 5 0 n2 0,.slo 6 0 n3 0,.slo 7 0 n4 0] 1,sC r1 1,sC r2 1,sC r3 1,sC r4 1] (factG F)):=by kernel_rfl
theorem qr_o1 (k nb n i q:Nat) (wc vs bc:List LV) (n1 n2 n3 n4:Nat) (r1 r2 r3 r4:List LV) (F:World→Prop) (K:Pk):(xsp prog cxqG 60 128 (seg qrD 0 2) (mkTm 128 (qrU k nb n i q 1)) (mkS (qrH wc vs bc n1 n2 n3 n4 r1 r2 r3 r4) (factG F)) (vK qrL K))=(
 K .normal [.slo 1 0 k 0,.any,.slo 2 0 nb 0,.slo 3 0 4 0,.int .i64 ↑n,.int .i64 ↑i,.int .i64 ↑q,.int .i64 1,.any,.any,.any,.any,.any] [some (.ro wc),some (.ro vs),sC bc 3,sC [.slo 4 0 n1 0,.slo 5 0 n2 0,.slo 6 0 n3 0,.slo 7 0 n4 0] 1,sC r1 1,sC r2 1,sC r3 1,sC r4 1] (factG F)):=by kernel_rfl
theorem qr_o2 (k nb n i q:Nat) (wc vs bc:List LV) (n1 n2 n3 n4:Nat) (r1 r2 r3 r4:List LV) (F:World→Prop) (K:Pk):(xsp prog cxqG 60 128 (seg qrD 0 2) (mkTm 128 (qrU k nb n i q 2)) (mkS (qrH wc vs bc n1 n2 n3 n4 r1 r2 r3 r4) (factG F)) (vK qrL K))=(
 K .normal [.slo 1 0 k 0,.any,.slo 2 0 nb 0,.slo 3 0 4 0,.int .i64 ↑n,.int .i64 ↑i,.int .i64 ↑q,.int .i64 2,.any,.any,.any,.any,.any] [some (.ro wc),some (.ro vs),sC bc 3,sC [.slo 4 0 n1 0,.slo 5 0 n2 0,.slo 6 0 n3 0,.slo 7 0 n4 0] 1,sC r1 1,sC r2 1,sC r3 1,sC r4 1] (factG F)):=by kernel_rfl
theorem qr_o3 (k nb n i q:Nat) (wc vs bc:List LV) (n1 n2 n3 n4:Nat) (r1 r2 r3 r4:List LV) (F:World→Prop) (K:Pk):(xsp prog cxqG 60 128 (seg qrD 0 2) (mkTm 128 (qrU k nb n i q 3)) (mkS (qrH wc vs bc n1 n2 n3 n4 r1 r2 r3 r4) (factG F)) (vK qrL K))=(
 K .normal [.slo 1 0 k 0,.any,.slo 2 0 nb 0,.slo 3 0 4 0,.int .i64 ↑n,.int .i64 ↑i,.int .i64 ↑q,.int .i64 3,.any,.any,.any,.any,.any] [some (.ro wc),some (.ro vs),sC bc 3,sC [.slo 4 0 n1 0,.slo 5 0 n2 0,.slo 6 0 n3 0,.slo 7 0 n4 0] 1,sC r1 1,sC r2 1,sC r3 1,sC r4 1] (factG F)):=by kernel_rfl
theorem qr_o4 (k nb n i q:Nat) (wc vs bc:List LV) (n1 n2 n3 n4:Nat) (r1 r2 r3 r4:List LV) (F:World→Prop) (K:Pk):(xsp prog cxqG 60 128 (seg qrD 0 2) (mkTm 128 (qrU k nb n i q 4)) (mkS (qrH wc vs bc n1 n2 n3 n4 r1 r2 r3 r4) (factG F)) (vK qrL K))=(
 K (.exit 2) [.slo 1 0 k 0,.any,.slo 2 0 nb 0,.slo 3 0 4 0,.int .i64 ↑n,.int .i64 ↑i,.int .i64 ↑q,.int .i64 4,.any,.any,.any,.any,.any] [some (.ro wc),some (.ro vs),sC bc 3,sC [.slo 4 0 n1 0,.slo 5 0 n2 0,.slo 6 0 n3 0,.slo 7 0 n4 0] 1,sC r1 1,sC r2 1,sC r3 1,sC r4 1] (factG F)):=by kernel_rfl
theorem qr_p0 (k nb n i q:Nat) (wc vs bc:List LV) (n1 n2 n3 n4:Nat) (r1 r2 r3 r4:List LV) (F:World→Prop) (K:Pk):(xsp prog cxqG 60 128 (seg qrE 0 1) (mkTm 128 (qrU k nb n i q 0)) (mkS (qrH wc vs bc n1 n2 n3 n4 r1 r2 r3 r4) (factG F)) (vK qrL K))=(
 K .normal [.slo 1 0 k 0,.any,.slo 2 0 nb 0,.slo 3 0 4 0,.int .i64 ↑n,.int .i64 ↑i,.int .i64 ↑q,.int .i64 0,.int .i64 0,.any,.any,.any,.any] [some (.ro wc),some (.ro vs),sC bc 3,sC [.slo 4 0 n1 0,.slo 5 0 n2 0,.slo 6 0 n3 0,.slo 7 0 n4 0] 1,sC r1 1,sC r2 1,sC r3 1,sC r4 1] (factG F)):=by kernel_rfl
abbrev qr_l0_b1 (wc:List LV) (vs:List LV) (bc:List LV) (n1:Nat) (n2:Nat) (n3:Nat) (n4:Nat) (r1:List LV) (r2:List LV) (r3:List LV) (r4:List LV):List (Option LB):=[some (.ro wc),some (.ro vs),sC bc 3,sC [.slo 4 0 n1 0,.slo 5 0 n2 0,.slo 6 0 n3 0,.slo 7 0 n4 0] 1,sC r1 1,sC r2 1,sC r3 1,sC r4 1]
theorem qr_l0 (k nb n i q j:Nat) (wc vs bc:List LV) (n1 n2 n3 n4:Nat) (r1 r2 r3 r4:List LV) (F:World→Prop) (K:Pk):(xcode prog cxqG 60 128 (loopOf (nthC qrE 1)) (mkTm 128 (qrV k nb n i q 0 j)) (mkS (qrH wc vs bc n1 n2 n3 n4 r1 r2 r3 r4) (factG F)) (vK qrL K))=(
 bif xcm .lss ↑j ↑n1 then(
 ck (xle (xadd (xnat ↑j) 1) n1) <|
 ck (xle (xadd (xix 0 (xnat ↑j) 1) 1) (xln r1)) <|
 ck (isI .i64 (nthD r1 (xix 0 (xnat ↑j) 1))) <|
 ck (xle (xadd (xnat ↑i) 1) nb) <|
 ck (xle (xadd (xix 0 (xnat ↑i) 3) 1) (xln bc)) <|
 ck (isI .i64 (nthD bc (xix 0 (xnat ↑i) 3))) <|
 bif xcm .eql (asI (nthD r1 (xix 0 (xnat ↑j) 1))) (asI (nthD bc (xix 0 (xnat ↑i) 3))) then(
 K .normal [.slo 1 0 k 0,.any,.slo 2 0 nb 0,.slo 3 0 4 0,.int .i64 ↑n,.int .i64 ↑i,.int .i64 (xar .add .i64 (↑q) 1),.int .i64 0,.int .i64 (xar .add .i64 (↑j) 1),.any,.any,.any,.any] (qr_l0_b1 wc vs bc n1 n2 n3 n4 r1 r2 r3 r4) (factG F))
 else(
 K .normal [.slo 1 0 k 0,.any,.slo 2 0 nb 0,.slo 3 0 4 0,.int .i64 ↑n,.int .i64 ↑i,.int .i64 ↑q,.int .i64 0,.int .i64 (xar .add .i64 (↑j) 1),.any,.any,.any,.any] (qr_l0_b1 wc vs bc n1 n2 n3 n4 r1 r2 r3 r4) (factG F)))
 else(
 K (.exit 4) [.slo 1 0 k 0,.any,.slo 2 0 nb 0,.slo 3 0 4 0,.int .i64 ↑n,.int .i64 ↑i,.int .i64 ↑q,.int .i64 0,.int .i64 ↑j,.any,.any,.any,.any] (qr_l0_b1 wc vs bc n1 n2 n3 n4 r1 r2 r3 r4) (factG F))):=by kernel_rfl
theorem qr_q0 (k nb n i q:Nat) (wc vs bc:List LV) (n1 n2 n3 n4:Nat) (r1 r2 r3 r4:List LV) (F:World→Prop) (K:Pk):(xsp prog cxqG 60 128 (qrD.drop 3) (mkTm 128 (qrU k nb n i q 0)) (mkS (qrH wc vs bc n1 n2 n3 n4 r1 r2 r3 r4) (factG F)) (vK qrL K))=(
 K .normal [.slo 1 0 k 0,.any,.slo 2 0 nb 0,.slo 3 0 4 0,.int .i64 ↑n,.int .i64 ↑i,.int .i64 ↑q,.int .i64 1,.any,.any,.any,.any,.any] [some (.ro wc),some (.ro vs),sC bc 3,sC [.slo 4 0 n1 0,.slo 5 0 n2 0,.slo 6 0 n3 0,.slo 7 0 n4 0] 1,sC r1 1,sC r2 1,sC r3 1,sC r4 1] (factG F)):=by kernel_rfl
theorem qr_p1 (k nb n i q:Nat) (wc vs bc:List LV) (n1 n2 n3 n4:Nat) (r1 r2 r3 r4:List LV) (F:World→Prop) (K:Pk):(xsp prog cxqG 60 128 (seg qrE 0 1) (mkTm 128 (qrU k nb n i q 1)) (mkS (qrH wc vs bc n1 n2 n3 n4 r1 r2 r3 r4) (factG F)) (vK qrL K))=(
 K .normal [.slo 1 0 k 0,.any,.slo 2 0 nb 0,.slo 3 0 4 0,.int .i64 ↑n,.int .i64 ↑i,.int .i64 ↑q,.int .i64 1,.int .i64 0,.any,.any,.any,.any] [some (.ro wc),some (.ro vs),sC bc 3,sC [.slo 4 0 n1 0,.slo 5 0 n2 0,.slo 6 0 n3 0,.slo 7 0 n4 0] 1,sC r1 1,sC r2 1,sC r3 1,sC r4 1] (factG F)):=by kernel_rfl
abbrev qr_l1_b1 (wc:List LV) (vs:List LV) (bc:List LV) (n1:Nat) (n2:Nat) (n3:Nat) (n4:Nat) (r1:List LV) (r2:List LV) (r3:List LV) (r4:List LV):List (Option LB):=[some (.ro wc),some (.ro vs),sC bc 3,sC [.slo 4 0 n1 0,.slo 5 0 n2 0,.slo 6 0 n3 0,.slo 7 0 n4 0] 1,sC r1 1,sC r2 1,sC r3 1,sC r4 1]
theorem qr_l1 (k nb n i q j:Nat) (wc vs bc:List LV) (n1 n2 n3 n4:Nat) (r1 r2 r3 r4:List LV) (F:World→Prop) (K:Pk):(xcode prog cxqG 60 128 (loopOf (nthC qrE 1)) (mkTm 128 (qrV k nb n i q 1 j)) (mkS (qrH wc vs bc n1 n2 n3 n4 r1 r2 r3 r4) (factG F)) (vK qrL K))=(
 bif xcm .lss ↑j ↑n2 then(
 ck (xle (xadd (xnat ↑j) 1) n2) <|
 ck (xle (xadd (xix 0 (xnat ↑j) 1) 1) (xln r2)) <|
 ck (isI .i64 (nthD r2 (xix 0 (xnat ↑j) 1))) <|
 ck (xle (xadd (xnat ↑i) 1) nb) <|
 ck (xle (xadd (xix 0 (xnat ↑i) 3) 1) (xln bc)) <|
 ck (isI .i64 (nthD bc (xix 0 (xnat ↑i) 3))) <|
 bif xcm .eql (asI (nthD r2 (xix 0 (xnat ↑j) 1))) (asI (nthD bc (xix 0 (xnat ↑i) 3))) then(
 K .normal [.slo 1 0 k 0,.any,.slo 2 0 nb 0,.slo 3 0 4 0,.int .i64 ↑n,.int .i64 ↑i,.int .i64 (xar .add .i64 (↑q) 1),.int .i64 1,.int .i64 (xar .add .i64 (↑j) 1),.any,.any,.any,.any] (qr_l1_b1 wc vs bc n1 n2 n3 n4 r1 r2 r3 r4) (factG F))
 else(
 K .normal [.slo 1 0 k 0,.any,.slo 2 0 nb 0,.slo 3 0 4 0,.int .i64 ↑n,.int .i64 ↑i,.int .i64 ↑q,.int .i64 1,.int .i64 (xar .add .i64 (↑j) 1),.any,.any,.any,.any] (qr_l1_b1 wc vs bc n1 n2 n3 n4 r1 r2 r3 r4) (factG F)))
 else(
 K (.exit 4) [.slo 1 0 k 0,.any,.slo 2 0 nb 0,.slo 3 0 4 0,.int .i64 ↑n,.int .i64 ↑i,.int .i64 ↑q,.int .i64 1,.int .i64 ↑j,.any,.any,.any,.any] (qr_l1_b1 wc vs bc n1 n2 n3 n4 r1 r2 r3 r4) (factG F))):=by kernel_rfl
theorem qr_q1 (k nb n i q:Nat) (wc vs bc:List LV) (n1 n2 n3 n4:Nat) (r1 r2 r3 r4:List LV) (F:World→Prop) (K:Pk):(xsp prog cxqG 60 128 (qrD.drop 3) (mkTm 128 (qrU k nb n i q 1)) (mkS (qrH wc vs bc n1 n2 n3 n4 r1 r2 r3 r4) (factG F)) (vK qrL K))=(
 K .normal [.slo 1 0 k 0,.any,.slo 2 0 nb 0,.slo 3 0 4 0,.int .i64 ↑n,.int .i64 ↑i,.int .i64 ↑q,.int .i64 2,.any,.any,.any,.any,.any] [some (.ro wc),some (.ro vs),sC bc 3,sC [.slo 4 0 n1 0,.slo 5 0 n2 0,.slo 6 0 n3 0,.slo 7 0 n4 0] 1,sC r1 1,sC r2 1,sC r3 1,sC r4 1] (factG F)):=by kernel_rfl
theorem qr_p2 (k nb n i q:Nat) (wc vs bc:List LV) (n1 n2 n3 n4:Nat) (r1 r2 r3 r4:List LV) (F:World→Prop) (K:Pk):(xsp prog cxqG 60 128 (seg qrE 0 1) (mkTm 128 (qrU k nb n i q 2)) (mkS (qrH wc vs bc n1 n2 n3 n4 r1 r2 r3 r4) (factG F)) (vK qrL K))=(
 K .normal [.slo 1 0 k 0,.any,.slo 2 0 nb 0,.slo 3 0 4 0,.int .i64 ↑n,.int .i64 ↑i,.int .i64 ↑q,.int .i64 2,.int .i64 0,.any,.any,.any,.any] [some (.ro wc),some (.ro vs),sC bc 3,sC [.slo 4 0 n1 0,.slo 5 0 n2 0,.slo 6 0 n3 0,.slo 7 0 n4 0] 1,sC r1 1,sC r2 1,sC r3 1,sC r4 1] (factG F)):=by kernel_rfl
abbrev qr_l2_b1 (wc:List LV) (vs:List LV) (bc:List LV) (n1:Nat) (n2:Nat) (n3:Nat) (n4:Nat) (r1:List LV) (r2:List LV) (r3:List LV) (r4:List LV):List (Option LB):=[some (.ro wc),some (.ro vs),sC bc 3,sC [.slo 4 0 n1 0,.slo 5 0 n2 0,.slo 6 0 n3 0,.slo 7 0 n4 0] 1,sC r1 1,sC r2 1,sC r3 1,sC r4 1]
theorem qr_l2 (k nb n i q j:Nat) (wc vs bc:List LV) (n1 n2 n3 n4:Nat) (r1 r2 r3 r4:List LV) (F:World→Prop) (K:Pk):(xcode prog cxqG 60 128 (loopOf (nthC qrE 1)) (mkTm 128 (qrV k nb n i q 2 j)) (mkS (qrH wc vs bc n1 n2 n3 n4 r1 r2 r3 r4) (factG F)) (vK qrL K))=(
 bif xcm .lss ↑j ↑n3 then(
 ck (xle (xadd (xnat ↑j) 1) n3) <|
 ck (xle (xadd (xix 0 (xnat ↑j) 1) 1) (xln r3)) <|
 ck (isI .i64 (nthD r3 (xix 0 (xnat ↑j) 1))) <|
 ck (xle (xadd (xnat ↑i) 1) nb) <|
 ck (xle (xadd (xix 0 (xnat ↑i) 3) 1) (xln bc)) <|
 ck (isI .i64 (nthD bc (xix 0 (xnat ↑i) 3))) <|
 bif xcm .eql (asI (nthD r3 (xix 0 (xnat ↑j) 1))) (asI (nthD bc (xix 0 (xnat ↑i) 3))) then(
 K .normal [.slo 1 0 k 0,.any,.slo 2 0 nb 0,.slo 3 0 4 0,.int .i64 ↑n,.int .i64 ↑i,.int .i64 (xar .add .i64 (↑q) 1),.int .i64 2,.int .i64 (xar .add .i64 (↑j) 1),.any,.any,.any,.any] (qr_l2_b1 wc vs bc n1 n2 n3 n4 r1 r2 r3 r4) (factG F))
 else(
 K .normal [.slo 1 0 k 0,.any,.slo 2 0 nb 0,.slo 3 0 4 0,.int .i64 ↑n,.int .i64 ↑i,.int .i64 ↑q,.int .i64 2,.int .i64 (xar .add .i64 (↑j) 1),.any,.any,.any,.any] (qr_l2_b1 wc vs bc n1 n2 n3 n4 r1 r2 r3 r4) (factG F)))
 else(
 K (.exit 4) [.slo 1 0 k 0,.any,.slo 2 0 nb 0,.slo 3 0 4 0,.int .i64 ↑n,.int .i64 ↑i,.int .i64 ↑q,.int .i64 2,.int .i64 ↑j,.any,.any,.any,.any] (qr_l2_b1 wc vs bc n1 n2 n3 n4 r1 r2 r3 r4) (factG F))):=by kernel_rfl
theorem qr_q2 (k nb n i q:Nat) (wc vs bc:List LV) (n1 n2 n3 n4:Nat) (r1 r2 r3 r4:List LV) (F:World→Prop) (K:Pk):(xsp prog cxqG 60 128 (qrD.drop 3) (mkTm 128 (qrU k nb n i q 2)) (mkS (qrH wc vs bc n1 n2 n3 n4 r1 r2 r3 r4) (factG F)) (vK qrL K))=(
 K .normal [.slo 1 0 k 0,.any,.slo 2 0 nb 0,.slo 3 0 4 0,.int .i64 ↑n,.int .i64 ↑i,.int .i64 ↑q,.int .i64 3,.any,.any,.any,.any,.any] [some (.ro wc),some (.ro vs),sC bc 3,sC [.slo 4 0 n1 0,.slo 5 0 n2 0,.slo 6 0 n3 0,.slo 7 0 n4 0] 1,sC r1 1,sC r2 1,sC r3 1,sC r4 1] (factG F)):=by kernel_rfl
theorem qr_p3 (k nb n i q:Nat) (wc vs bc:List LV) (n1 n2 n3 n4:Nat) (r1 r2 r3 r4:List LV) (F:World→Prop) (K:Pk):(xsp prog cxqG 60 128 (seg qrE 0 1) (mkTm 128 (qrU k nb n i q 3)) (mkS (qrH wc vs bc n1 n2 n3 n4 r1 r2 r3 r4) (factG F)) (vK qrL K))=(
 K .normal [.slo 1 0 k 0,.any,.slo 2 0 nb 0,.slo 3 0 4 0,.int .i64 ↑n,.int .i64 ↑i,.int .i64 ↑q,.int .i64 3,.int .i64 0,.any,.any,.any,.any] [some (.ro wc),some (.ro vs),sC bc 3,sC [.slo 4 0 n1 0,.slo 5 0 n2 0,.slo 6 0 n3 0,.slo 7 0 n4 0] 1,sC r1 1,sC r2 1,sC r3 1,sC r4 1] (factG F)):=by kernel_rfl
abbrev qr_l3_b1 (wc:List LV) (vs:List LV) (bc:List LV) (n1:Nat) (n2:Nat) (n3:Nat) (n4:Nat) (r1:List LV) (r2:List LV) (r3:List LV) (r4:List LV):List (Option LB):=[some (.ro wc),some (.ro vs),sC bc 3,sC [.slo 4 0 n1 0,.slo 5 0 n2 0,.slo 6 0 n3 0,.slo 7 0 n4 0] 1,sC r1 1,sC r2 1,sC r3 1,sC r4 1]
theorem qr_l3 (k nb n i q j:Nat) (wc vs bc:List LV) (n1 n2 n3 n4:Nat) (r1 r2 r3 r4:List LV) (F:World→Prop) (K:Pk):(xcode prog cxqG 60 128 (loopOf (nthC qrE 1)) (mkTm 128 (qrV k nb n i q 3 j)) (mkS (qrH wc vs bc n1 n2 n3 n4 r1 r2 r3 r4) (factG F)) (vK qrL K))=(
 bif xcm .lss ↑j ↑n4 then(
 ck (xle (xadd (xnat ↑j) 1) n4) <|
 ck (xle (xadd (xix 0 (xnat ↑j) 1) 1) (xln r4)) <|
 ck (isI .i64 (nthD r4 (xix 0 (xnat ↑j) 1))) <|
 ck (xle (xadd (xnat ↑i) 1) nb) <|
 ck (xle (xadd (xix 0 (xnat ↑i) 3) 1) (xln bc)) <|
 ck (isI .i64 (nthD bc (xix 0 (xnat ↑i) 3))) <|
 bif xcm .eql (asI (nthD r4 (xix 0 (xnat ↑j) 1))) (asI (nthD bc (xix 0 (xnat ↑i) 3))) then(
 K .normal [.slo 1 0 k 0,.any,.slo 2 0 nb 0,.slo 3 0 4 0,.int .i64 ↑n,.int .i64 ↑i,.int .i64 (xar .add .i64 (↑q) 1),.int .i64 3,.int .i64 (xar .add .i64 (↑j) 1),.any,.any,.any,.any] (qr_l3_b1 wc vs bc n1 n2 n3 n4 r1 r2 r3 r4) (factG F))
 else(
 K .normal [.slo 1 0 k 0,.any,.slo 2 0 nb 0,.slo 3 0 4 0,.int .i64 ↑n,.int .i64 ↑i,.int .i64 ↑q,.int .i64 3,.int .i64 (xar .add .i64 (↑j) 1),.any,.any,.any,.any] (qr_l3_b1 wc vs bc n1 n2 n3 n4 r1 r2 r3 r4) (factG F)))
 else(
 K (.exit 4) [.slo 1 0 k 0,.any,.slo 2 0 nb 0,.slo 3 0 4 0,.int .i64 ↑n,.int .i64 ↑i,.int .i64 ↑q,.int .i64 3,.int .i64 ↑j,.any,.any,.any,.any] (qr_l3_b1 wc vs bc n1 n2 n3 n4 r1 r2 r3 r4) (factG F))):=by kernel_rfl
theorem qr_q3 (k nb n i q:Nat) (wc vs bc:List LV) (n1 n2 n3 n4:Nat) (r1 r2 r3 r4:List LV) (F:World→Prop) (K:Pk):(xsp prog cxqG 60 128 (qrD.drop 3) (mkTm 128 (qrU k nb n i q 3)) (mkS (qrH wc vs bc n1 n2 n3 n4 r1 r2 r3 r4) (factG F)) (vK qrL K))=(
 K .normal [.slo 1 0 k 0,.any,.slo 2 0 nb 0,.slo 3 0 4 0,.int .i64 ↑n,.int .i64 ↑i,.int .i64 ↑q,.int .i64 4,.any,.any,.any,.any,.any] [some (.ro wc),some (.ro vs),sC bc 3,sC [.slo 4 0 n1 0,.slo 5 0 n2 0,.slo 6 0 n3 0,.slo 7 0 n4 0] 1,sC r1 1,sC r2 1,sC r3 1,sC r4 1] (factG F)):=by kernel_rfl
theorem qr_e (k nb n i q:Nat) (wc vs bc:List LV) (n1 n2 n3 n4:Nat) (r1 r2 r3 r4:List LV) (F:World→Prop) (K:Pk):(xsp prog cxqG 60 128 (seg qrC 5 1) (mkTm 128 (qrU k nb n i q 4)) (mkS (qrH wc vs bc n1 n2 n3 n4 r1 r2 r3 r4) (factG F)) (vK qrL K))=(
 K .normal [.slo 1 0 k 0,.any,.slo 2 0 nb 0,.slo 3 0 4 0,.int .i64 ↑n,.int .i64 ↑i,.int .i64 ↑q,.int .i64 4,.any,.int .i64 0,.any,.any,.any] [some (.ro wc),some (.ro vs),sC bc 3,sC [.slo 4 0 n1 0,.slo 5 0 n2 0,.slo 6 0 n3 0,.slo 7 0 n4 0] 1,sC r1 1,sC r2 1,sC r3 1,sC r4 1] (factG F)):=by kernel_rfl
abbrev qr_f_b1 (wc:List LV) (vs:List LV) (bc:List LV) (n1:Nat) (n2:Nat) (n3:Nat) (n4:Nat) (r1:List LV) (r2:List LV) (r3:List LV) (r4:List LV):List (Option LB):=[some (.ro wc),some (.ro vs),sC bc 3,sC [.slo 4 0 n1 0,.slo 5 0 n2 0,.slo 6 0 n3 0,.slo 7 0 n4 0] 1,sC r1 1,sC r2 1,sC r3 1,sC r4 1]
theorem qr_f (k nb n i q t:Nat) (wc vs bc:List LV) (n1 n2 n3 n4:Nat) (r1 r2 r3 r4:List LV) (F:World→Prop) (K:Pk):(xsp prog cxqG 60 128 (seg qrF 0 2) (mkTm 128 (qrX k nb n i q t)) (mkS (qrH wc vs bc n1 n2 n3 n4 r1 r2 r3 r4) (factG F)) (vK qrL K))=(
 bif xcm .lss ↑t ↑k then(
 K .normal [.slo 1 0 k 0,.any,.slo 2 0 nb 0,.slo 3 0 4 0,.int .i64 ↑n,.int .i64 ↑i,.int .i64 ↑q,.any,.any,.int .i64 ↑t,.any,.any,.any] (qr_f_b1 wc vs bc n1 n2 n3 n4 r1 r2 r3 r4) (factG F))
 else(
 K (.exit 6) [.slo 1 0 k 0,.any,.slo 2 0 nb 0,.slo 3 0 4 0,.int .i64 ↑n,.int .i64 ↑i,.int .i64 ↑q,.any,.any,.int .i64 ↑t,.any,.any,.any] (qr_f_b1 wc vs bc n1 n2 n3 n4 r1 r2 r3 r4) (factG F))):=by kernel_rfl
theorem qr_g (k nb n i q t:Nat) (wc vs bc:List LV) (n1 n2 n3 n4:Nat) (r1 r2 r3 r4:List LV) (F:World→Prop) (K:Pk):(xsp prog cxqG 60 128 (seg qrG 0 1) (mkTm 128 (qrX k nb n i q t)) (mkS (qrH wc vs bc n1 n2 n3 n4 r1 r2 r3 r4) (factG F)) (vK qrL K))=(
 K .normal [.slo 1 0 k 0,.any,.slo 2 0 nb 0,.slo 3 0 4 0,.int .i64 ↑n,.int .i64 ↑i,.int .i64 ↑q,.any,.any,.int .i64 ↑t,.int .i64 0,.any,.any] [some (.ro wc),some (.ro vs),sC bc 3,sC [.slo 4 0 n1 0,.slo 5 0 n2 0,.slo 6 0 n3 0,.slo 7 0 n4 0] 1,sC r1 1,sC r2 1,sC r3 1,sC r4 1] (factG F)):=by kernel_rfl
abbrev qr_h_b1 (wc:List LV) (vs:List LV) (bc:List LV) (n1:Nat) (n2:Nat) (n3:Nat) (n4:Nat) (r1:List LV) (r2:List LV) (r3:List LV) (r4:List LV):List (Option LB):=[some (.ro wc),some (.ro vs),sC bc 3,sC [.slo 4 0 n1 0,.slo 5 0 n2 0,.slo 6 0 n3 0,.slo 7 0 n4 0] 1,sC r1 1,sC r2 1,sC r3 1,sC r4 1]
theorem qr_h (k nb n i q t j:Nat) (wc vs bc:List LV) (n1 n2 n3 n4:Nat) (r1 r2 r3 r4:List LV) (F:World→Prop) (K:Pk):(xcode prog cxqG 60 128 (loopOf (nthC qrG 1)) (mkTm 128 (qrY k nb n i q t j)) (mkS (qrH wc vs bc n1 n2 n3 n4 r1 r2 r3 r4) (factG F)) (vK qrL K))=(
 ck (xle (xadd (xnat ↑t) 1) k) <|
 ck (xle (xadd (xix 0 (xnat ↑t) 1) 1) (xln vs)) <|
 ck (isV (nthD vs (xix 0 (xnat ↑t) 1))) <|
 bif xcm .lss ↑j ↑(xvl (asV (nthD vs (xix 0 (xnat ↑t) 1)))) then(
 ck (xle (xadd (xnat ↑t) 1) k) <|
 ck (xle (xadd (xix 0 (xnat ↑t) 1) 1) (xln vs)) <|
 ck (isV (nthD vs (xix 0 (xnat ↑t) 1))) <|
 ck (xvix (asV (nthD vs (xix 0 (xnat ↑t) 1))) (xnat ↑j)) <|
 ck (xvrok F (asV (nthD vs (xix 0 (xnat ↑t) 1))) (xmul (xnat ↑j) 2) 1) <|
 ck (xle 1 (xln (xvrow F (asV (nthD vs (xix 0 (xnat ↑t) 1))) (xmul (xnat ↑j) 2) 1))) <|
 ck (isI .i64 (nthD (xvrow F (asV (nthD vs (xix 0 (xnat ↑t) 1))) (xmul (xnat ↑j) 2) 1) 0)) <|
 ck (xle (xadd (xnat ↑i) 1) nb) <|
 ck (xle (xadd (xix 0 (xnat ↑i) 3) 1) (xln bc)) <|
 ck (isI .i64 (nthD bc (xix 0 (xnat ↑i) 3))) <|
 bif xcm .eql (asI (nthD (xvrow F (asV (nthD vs (xix 0 (xnat ↑t) 1))) (xmul (xnat ↑j) 2) 1) 0)) (asI (nthD bc (xix 0 (xnat ↑i) 3))) then(
 K .normal [.slo 1 0 k 0,.any,.slo 2 0 nb 0,.slo 3 0 4 0,.int .i64 (xar .add .i64 (↑n) 1),.int .i64 ↑i,.int .i64 (xar .add .i64 (↑q) 1),.any,.any,.int .i64 ↑t,.int .i64 (xar .add .i64 (↑j) 1),.any,.any] (qr_h_b1 wc vs bc n1 n2 n3 n4 r1 r2 r3 r4) (factG F))
 else(
 K .normal [.slo 1 0 k 0,.any,.slo 2 0 nb 0,.slo 3 0 4 0,.int .i64 ↑n,.int .i64 ↑i,.int .i64 ↑q,.any,.any,.int .i64 ↑t,.int .i64 (xar .add .i64 (↑j) 1),.any,.any] (qr_h_b1 wc vs bc n1 n2 n3 n4 r1 r2 r3 r4) (factG F)))
 else(
 K (.exit 8) [.slo 1 0 k 0,.any,.slo 2 0 nb 0,.slo 3 0 4 0,.int .i64 ↑n,.int .i64 ↑i,.int .i64 ↑q,.any,.any,.int .i64 ↑t,.int .i64 ↑j,.any,.any] (qr_h_b1 wc vs bc n1 n2 n3 n4 r1 r2 r3 r4) (factG F))):=by kernel_rfl
theorem qr_i (k nb n i q t:Nat) (wc vs bc:List LV) (n1 n2 n3 n4:Nat) (r1 r2 r3 r4:List LV) (F:World→Prop) (K:Pk):(xsp prog cxqG 60 128 (qrF.drop 3) (mkTm 128 (qrX k nb n i q t)) (mkS (qrH wc vs bc n1 n2 n3 n4 r1 r2 r3 r4) (factG F)) (vK qrL K))=(
 K .normal [.slo 1 0 k 0,.any,.slo 2 0 nb 0,.slo 3 0 4 0,.int .i64 ↑n,.int .i64 ↑i,.int .i64 ↑q,.any,.any,.int .i64 (xar .add .i64 (↑t) 1),.any,.any,.any] [some (.ro wc),some (.ro vs),sC bc 3,sC [.slo 4 0 n1 0,.slo 5 0 n2 0,.slo 6 0 n3 0,.slo 7 0 n4 0] 1,sC r1 1,sC r2 1,sC r3 1,sC r4 1] (factG F)):=by kernel_rfl
abbrev qr_j_b1 (wc:List LV) (vs:List LV) (bc:List LV) (n1:Nat) (n2:Nat) (n3:Nat) (n4:Nat) (r1:List LV) (r2:List LV) (r3:List LV) (r4:List LV):List (Option LB):=[some (.ro wc),some (.ro vs),sC bc 3,sC [.slo 4 0 n1 0,.slo 5 0 n2 0,.slo 6 0 n3 0,.slo 7 0 n4 0] 1,sC r1 1,sC r2 1,sC r3 1,sC r4 1]
theorem qr_j (k nb n i q t:Nat) (wc vs bc:List LV) (n1 n2 n3 n4:Nat) (r1 r2 r3 r4:List LV) (F:World→Prop) (K:Pk):(xsp prog cxqG 60 128 (qrC.drop 7) (mkTm 128 (qrX k nb n i q t)) (mkS (qrH wc vs bc n1 n2 n3 n4 r1 r2 r3 r4) (factG F)) (vK qrL K))=(
 bif xcm .neq (↑q) 1 then(
 K .ret [.slo 1 0 k 0,.bool false,.slo 2 0 nb 0,.slo 3 0 4 0,.int .i64 ↑n,.int .i64 ↑i,.int .i64 ↑q,.any,.any,.int .i64 ↑t,.any,.any,.any] (qr_j_b1 wc vs bc n1 n2 n3 n4 r1 r2 r3 r4) (factG F))
 else(
 K .normal [.slo 1 0 k 0,.any,.slo 2 0 nb 0,.slo 3 0 4 0,.int .i64 ↑n,.int .i64 ↑i,.int .i64 ↑q,.any,.any,.int .i64 ↑t,.any,.any,.any] (qr_j_b1 wc vs bc n1 n2 n3 n4 r1 r2 r3 r4) (factG F))):=by kernel_rfl
theorem qr_k (k nb n i:Nat) (wc vs bc:List LV) (n1 n2 n3 n4:Nat) (r1 r2 r3 r4:List LV) (F:World→Prop) (K:Pk):(xsp prog cxqG 60 128 (qrB.drop 3) (mkTm 128 (qrT k nb n i)) (mkS (qrH wc vs bc n1 n2 n3 n4 r1 r2 r3 r4) (factG F)) (vK qrL K))=(
 K .normal [.slo 1 0 k 0,.any,.slo 2 0 nb 0,.slo 3 0 4 0,.int .i64 ↑n,.int .i64 (xar .add .i64 (↑i) 1),.any,.any,.any,.any,.any,.any,.any] [some (.ro wc),some (.ro vs),sC bc 3,sC [.slo 4 0 n1 0,.slo 5 0 n2 0,.slo 6 0 n3 0,.slo 7 0 n4 0] 1,sC r1 1,sC r2 1,sC r3 1,sC r4 1] (factG F)):=by kernel_rfl
theorem qr_l (k nb n i:Nat) (wc vs bc:List LV) (n1 n2 n3 n4:Nat) (r1 r2 r3 r4:List LV) (F:World→Prop) (K:Pk):(xsp prog cxqG 60 128 (seg qrS 8 2) (mkTm 128 (qrT k nb n i)) (mkS (qrH wc vs bc n1 n2 n3 n4 r1 r2 r3 r4) (factG F)) (vK qrL K))=(
 K .normal [.slo 1 0 k 0,.any,.slo 2 0 nb 0,.slo 3 0 4 0,.int .i64 ↑n,.int .i64 ↑i,.any,.any,.any,.any,.any,.int .i64 0,.int .i64 0] [some (.ro wc),some (.ro vs),sC bc 3,sC [.slo 4 0 n1 0,.slo 5 0 n2 0,.slo 6 0 n3 0,.slo 7 0 n4 0] 1,sC r1 1,sC r2 1,sC r3 1,sC r4 1] (factG F)):=by kernel_rfl
theorem qr_m (k n a t:Nat) (wc vs:List LV) (F:World→Prop) (K:Pk):(xcode prog cxqG 60 128 (loopOf (nthC qrS 10)) (mkTm 128 (qrZ k n a t)) (mkS (qrI wc vs) (factG F)) (vK qrL K))=(
 bif xcm .lss ↑t ↑k then(
 ck (xle (xadd (xnat ↑t) 1) k) <|
 ck (xle (xadd (xix 0 (xnat ↑t) 1) 1) (xln vs)) <|
 ck (isV (nthD vs (xix 0 (xnat ↑t) 1))) <|
 K .normal [.slo 1 0 k 0,.any,.any,.any,.int .i64 ↑n,.any,.any,.any,.any,.any,.any,.int .i64 (xar .add .i64 ↑a ↑(xvl (asV (nthD vs (xix 0 (xnat ↑t) 1))))),.int .i64 (xar .add .i64 (↑t) 1)] [some (.ro wc),some (.ro vs)] (factG F))
 else(
 K (.exit 10) [.slo 1 0 k 0,.any,.any,.any,.int .i64 ↑n,.any,.any,.any,.any,.any,.any,.int .i64 ↑a,.int .i64 ↑t] [some (.ro wc),some (.ro vs)] (factG F))):=by kernel_rfl
theorem qr_z (k n a t:Nat) (wc vs:List LV) (F:World→Prop) (K:Pk):(xsp prog cxqG 60 128 (qrS.drop 11) (mkTm 128 (qrZ k n a t)) (mkS (qrI wc vs) (factG F)) (vK qrL K))=(
 K .ret [.slo 1 0 k 0,.bool (xcm .eql ↑n ↑a),.any,.any,.int .i64 ↑n,.any,.any,.any,.any,.any,.any,.int .i64 ↑a,.int .i64 ↑t] [some (.ro wc),some (.ro vs)] (factG F)):=by kernel_rfl
end
end Go.Lev
