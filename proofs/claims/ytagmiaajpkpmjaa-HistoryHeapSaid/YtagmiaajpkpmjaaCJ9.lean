/- chapter 29: the stable sort of few; trees of Order -/
import Derived.Test.YtagmiaajpkpmjaaCJ8
import Derived.Test.YtagmiaajpkpmjaaLc
import Derived.Test.YtagmiaajpkpmjaaChecked
import Derived.KernelRfl
namespace Go.Lev
set_option linter.unusedSimpArgs false
set_option linter.unusedVariables false
open Go.RowKit
open Go.Proofs.Try (prog)
set_option maxRecDepth 100000
noncomputable section
theorem ss_end (n a e:Nat) (c:List LV) (F:World→Prop) (k1:okAt c n=true) (hn:n≤20):SSp prog 63 (sS.drop 4) 3 (mkTm 63 (sT n a e)) (mkS (iH n c (orW c n)) (factG F)) (vK sL (endK 3 [] sL (factG F) fun l b=>l=.tup []∧b=iH n c (orW c n))):=by
 have na:noIds c=true:=okAt_nd k1
 have no:noIds (orW c n)=true:=noids_nI _
 refine SSp.code_last (by kernel_rfl) ?_
 refine SCode.loop_sp 2 (by kernel_rfl) (σ:=Unit) (fun _=>sT n a e) (fun _=>iH n c (orW c n)) (fun _=>0) (fun _=>Nat.le_of_ble_eq_true rfl) (fun _=>?_) ()
 refine SSp.to cxs_ok (n:=60) (g:=factG F) 2 2 rfl (σ:=Empty) (fun _=>[]) (fun _=>[]) (mkS_le (Nat.le_of_ble_eq_true rfl)) (by kernel_rfl) ?_ fun z=>nomatch z
 rw [ss_e]
 have y0:xcm .lss 20 ((n:Nat):Int)=false:=f_lss (by omega)
 simp only [y0,cond_false]
 exact⟨trivial,rfl,_,_,[.id 0,.id 1,.id 2],⟨rfl,rfl⟩,by(exact zC)⟩
theorem ss_ok (n:Nat) (c:List LV) (F:World→Prop) (k1:okAt c n=true):SFun prog 20 [.slo 2 0 n 0,.int .i64 n,iF] (mkS (iH n c (encL nI (List.range n))) (factG F)) fun l s=>l=.tup []∧s=mkS (iH n c (orW c n)) (factG F):=by
 refine SFun.mono (SFun.pieces (Q:=fun l b=>l=.tup []∧b=iH n c (orW c n)) 63 3 sL [] (by kernel_rfl) rfl rfl rfl ?_) fun l s' ⟨b0,⟨h1,h2⟩,h3⟩=>⟨h1,by rw [h3,h2]⟩
 have na:noIds c=true:=okAt_nd k1
 have h2:n≤20:=by obtain⟨ats,_,_,q⟩:=okAt_iff.1 k1; exact q
 have kr:okRg (encL nI (List.range n)) n=true:=okRg_iff.2 rfl
 have ks:okSo (orW c n) c n=true:=okSo_iff.2 rfl
 have nr:=noids_nI (List.range n)
 have no:noIds (orW c n)=true:=noids_nI _
 have z0:xle n n=true:=t_le (Nat.le_refl _)
 refine SSp.to cxs_ok (n:=60) (g:=factG F) 2 2 rfl (σ:=Unit) (fun _=>sT n 0 20) (fun _=>iH n c (encL nI (List.range n))) (mkS_le (Nat.le_of_ble_eq_true rfl)) (by kernel_rfl) ?_ fun _=>?_
 ·rw [ss_a]; exact⟨rfl,(),[.id 0,.id 1,.id 2],by(exact zC)⟩
 try dsimp only
 by_cases hn:n=20
 ·have e0:xcm .leq ((20:Nat):Int) ((n:Nat):Int)=true:=t_leq (by omega)
  have e1:xcm .leq ((40:Nat):Int) ((n:Nat):Int)=false:=f_leq (by omega)
  have e2:xcm .eql ((0:Nat):Int) 0=true:=t_eql rfl
  have e3:xcm .eql ((20:Nat):Int) (Int.ofNat n)=true:=t_eql (by rw [hn]; rfl)
  have e4:xar .add .i64 ((20:Nat):Int) 20=((40:Nat):Int):=by rw [add_i64 (by omega) (by omega)]; rfl
  have e5:xcm .eql ((n:Nat):Int) 20=true:=t_eql (by rw [hn]; rfl)
  have e6:xcm .eql (Int.ofNat n) 20=true:=t_eql (by rw [hn]; rfl)
  have e7:xcm .eql ((20:Nat):Int) 20=true:=t_eql rfl
  refine SSp.code_to (g:=factG F) 3 rfl (σ:=Unit) (fun _=>sT n 20 40) (fun _=>iH n c (orW c n)) (by kernel_rfl) ?_ fun _=>?_
  ·refine SCode.loop_vc cxs_ok (n:=60) (n0:=3) 0 (by kernel_rfl) (σ:=Bool) (fun b=>sT n (cond b 20 0) (cond b 40 20)) (fun b=>iH n c (cond b (orW c n) (encL nI (List.range n)))) (fun b=>cond b 0 1) (fun _=>Nat.le_of_ble_eq_true rfl) (fun b=>?_) false
   cases b
   ·dsimp only [cond_false]
    rw [ss_b]
    simp only [e0,e2,e3,e4,k1,kr,z0,cond_true]
    exact⟨rfl,true,by dsimp only [cond_true,cond_false]; omega,[.id 0,.id 1,.id 2],by(exact zC)⟩
   ·dsimp only [cond_true]
    rw [ss_b]
    simp only [e1,cond_false]
    exact⟨rfl,(),[.id 0,.id 1,.id 2],by(exact zC)⟩
  try dsimp only
  refine SSp.to cxs0_ok (n:=60) (g:=factG F) 1 4 rfl (σ:=Unit) (fun _=>sT n 20 40) (fun _=>iH n c (orW c n)) (mkS_le (Nat.le_of_ble_eq_true rfl)) (by kernel_rfl) ?_ fun _=>?_
  ·rw [ss_d]
   simp only [k1,ks,e5,e6,e7,z0,cond_true]
   exact⟨rfl,(),[.id 0,.id 1,.id 2],by(exact zC)⟩
  exact ss_end n 20 40 c F k1 h2
 ·have e0:xcm .leq ((20:Nat):Int) ((n:Nat):Int)=false:=f_leq (by omega)
  have e2:xcm .eql ((0:Nat):Int) 0=true:=t_eql rfl
  have e3:xcm .eql ((n:Nat):Int) (Int.ofNat n)=true:=t_eql rfl
  refine SSp.code_to (g:=factG F) 3 rfl (σ:=Unit) (fun _=>sT n 0 20) (fun _=>iH n c (encL nI (List.range n))) (by kernel_rfl) ?_ fun _=>?_
  ·refine SCode.loop_vc cxs_ok (n:=60) (n0:=3) 0 (by kernel_rfl) (σ:=Unit) (fun b=>sT n 0 20) (fun b=>iH n c (encL nI (List.range n))) (fun b=>0) (fun _=>Nat.le_of_ble_eq_true rfl) (fun b=>?_) ()
   rw [ss_b]
   simp only [e0,cond_false]
   exact⟨rfl,(),[.id 0,.id 1,.id 2],by(exact zC)⟩
  try dsimp only
  refine SSp.to cxs_ok (n:=60) (g:=factG F) 1 4 rfl (σ:=Unit) (fun _=>sT n 0 20) (fun _=>iH n c (orW c n)) (mkS_le (Nat.le_of_ble_eq_true rfl)) (by kernel_rfl) ?_ fun _=>?_
  ·rw [ss_c]
   simp only [k1,kr,e2,e3,z0,cond_true]
   exact⟨rfl,(),[.id 0,.id 1,.id 2],by(exact zC)⟩
  exact ss_end n 0 20 c F k1 h2
theorem ssc_ok (n n2:Nat) (m:Int) (c oc:List LV) (F:World→Prop) (k1:okAt c n=true) (k2:okRg oc n=true) (k3:xcm .eql m (.ofNat n)=true) (k4:xle n2 n=true) (k5:xle n n2=true) :
  SFun prog 20 [.slo 2 0 n 0,.int .i64 m,.fn 16 [.ptr 0 0]] (mkS [.cells [.slo 1 0 n2 0] none,.ro c,.cells oc (some 1)] (factG F)) fun l s=>l=.tup []∧s=mkS [.cells [.slo 1 0 n2 0] none,.ro c,.cells (orW c n) (some 1)] (factG F):=by
 rw [xcm_eql,decide_eq_true_eq] at k3
 rw [wd_le,decide_eq_true_eq] at k4 k5
 obtain rfl:n2=n:=Nat.le_antisymm k4 k5
 subst k3
 obtain rfl:=okRg_iff.1 k2
 exact ss_ok n2 c F k1
def ssG:Gc:=fun args s=>match args,s.g with
 | [.slo d 0 n 0,.int .i64 m,.fn 16 [.ptr b 0]],[(0,[.fact F])]=>(match s.h.get b with
   | some (.cells [.slo a 0 n2 0] none)=>(match s.h.get a with
     | some (.ro c)=>(match s.h.get d with
       | some (.cells oc (some 1))=>cond (nodupB [b,a,d]) (match s.lay [b,a,d] [.cells [.slo a 0 n2 0] none,.ro c,.cells (orW c n) (some 1)] [] with
         | some s'=>some ([okAt c n,okRg oc n,xcm .eql m (.ofNat n),xle n2 n,xle n n2],.tup [],s')
         | none=>none) none
       | _=>none)
     | _=>none)
   | _=>none)
 | _,_=>none
theorem ssG_ok:GOk prog 20 ssG:=by
 intro args s bs l s' hg hb hfr
 unfold ssG at hg
 split at hg
 ·rename_i d n m b F hgl
  split at hg
  ·rename_i a n2 hb0
   split at hg
   ·rename_i c hb1
    split at hg
    ·rename_i oc hb2
     cases hbc:nodupB [b,a,d] with
     | false=>rw [hbc] at hg; cases hg
     | true =>
       rw [hbc] at hg
       simp only [cond_true] at hg
       split at hg
       ·rename_i s1 hs1
        simp only [Option.some.injEq,Prod.mk.injEq] at hg
        obtain⟨rfl,rfl,rfl⟩:=hg
        simp only [allT_cons] at hb
        obtain⟨k1,k2,k3,k4,k5,_⟩:=hb
        have nc:noIds c=true:=okAt_nd k1
        have no:noIds oc=true:=by rw [okRg_iff.1 k2]; exact noids_nI _
        refine SFun.lay (bs:=[.cells [.slo 1 0 n2 0] none,.ro c,.cells oc (some 1)]) (args0:=[.slo 2 0 n 0,.int .i64 m,.fn 16 [.ptr 0 0]]) (bs':=[.cells [.slo 1 0 n2 0] none,.ro c,.cells (orW c n) (some 1)]) (v0:=.tup []) hfr hs1 (nodupB_nd hbc)
         ⟨⟨there hfr hb0,_,hb0,by first | exact lb_same rfl | exact lb_cells (lws_cons (lw_slo rfl) lws_nil) (by simp),fun κ hκ=>lb_cells (lws_cons (lw_slo (hκ 1 a rfl)) lws_nil) (by simp)⟩,⟨there hfr hb1,_,hb1,lb_ro (by(exact zId)),fun κ hκ=>lb_ro (by(exact zId))⟩,⟨there hfr hb2,_,hb2,lb_same (by(exact zId)),fun κ hκ=>lb_same (by(exact zId))⟩,trivial⟩ (by((repeat refine lws_cons (by(first | exact lw_any | exact lw_int | exact lw_bool | exact lw_ptr rfl | exact lw_slo rfl | exact lw_nilp | exact lw_nils | exact lw_str | exact lw_slo_nils | exact lw_slo_sle | exact lw_sl rfl | exact lw_unb | exact lw_gptr | exact lw_noid rfl | exact lw_cap rfl (Nat.le_refl _) | exact lw_cap rfl (by omega) | assumption | exact lw_tup (by((repeat refine lws_cons (by(first | exact lw_any | exact lw_int | exact lw_bool | exact lw_ptr rfl | exact lw_slo rfl | exact lw_nilp | exact lw_nils | exact lw_str | exact lw_slo_nils | exact lw_slo_sle | exact lw_sl rfl | exact lw_unb | exact lw_gptr | exact lw_noid rfl | exact lw_cap rfl (Nat.le_refl _) | exact lw_cap rfl (by omega) | assumption)) ?_); exact lws_nil)) | exact lw_agg (by((repeat refine lws_cons (by(first | exact lw_any | exact lw_int | exact lw_bool | exact lw_ptr rfl | exact lw_slo rfl | exact lw_nilp | exact lw_nils | exact lw_str | exact lw_slo_nils | exact lw_slo_sle | exact lw_sl rfl | exact lw_unb | exact lw_gptr | exact lw_noid rfl | exact lw_cap rfl (Nat.le_refl _) | exact lw_cap rfl (by omega) | assumption | exact lw_tup (by((repeat refine lws_cons (by(first | exact lw_any | exact lw_int | exact lw_bool | exact lw_ptr rfl | exact lw_slo rfl | exact lw_nilp | exact lw_nils | exact lw_str | exact lw_slo_nils | exact lw_slo_sle | exact lw_sl rfl | exact lw_unb | exact lw_gptr | exact lw_noid rfl | exact lw_cap rfl (Nat.le_refl _) | exact lw_cap rfl (by omega) | assumption)) ?_); exact lws_nil)))) ?_); exact lws_nil)) | exact lw_fn (by((repeat refine lws_cons (by(first | exact lw_any | exact lw_int | exact lw_bool | exact lw_ptr rfl | exact lw_slo rfl | exact lw_nilp | exact lw_nils | exact lw_str | exact lw_slo_nils | exact lw_slo_sle | exact lw_sl rfl | exact lw_unb | exact lw_gptr | exact lw_noid rfl | exact lw_cap rfl (Nat.le_refl _) | exact lw_cap rfl (by omega) | assumption | exact lw_tup (by((repeat refine lws_cons (by(first | exact lw_any | exact lw_int | exact lw_bool | exact lw_ptr rfl | exact lw_slo rfl | exact lw_nilp | exact lw_nils | exact lw_str | exact lw_slo_nils | exact lw_slo_sle | exact lw_sl rfl | exact lw_unb | exact lw_gptr | exact lw_noid rfl | exact lw_cap rfl (Nat.le_refl _) | exact lw_cap rfl (by omega) | assumption)) ?_); exact lws_nil)))) ?_); exact lws_nil)))) ?_); exact lws_nil)) ?_
         fun κ h1 h2=>⟨⟨lb_cells (lws_cons (lw_slo (h1 1 a rfl)) lws_nil) (by simp),lb_ro (by(exact zId)),lb_same (noids_nI _),trivial⟩,lw_noid rfl⟩
        rw [hgl]; exact(ssc_ok n n2 m c oc F k1 k2 k3 k4 k5)
       ·cases hg
    ·cases hg
   ·cases hg
  ·cases hg
 ·cases hg
def cxo:Cx:=cxl [(20,ssG)]
abbrev oS:List Code:=sp prog 7
abbrev oL:List Nat:=[1,2,3,9,10]
abbrev oT (n i:Nat):List (Nat×LV):=[(1,.ptr 1 0),(3,.slo 2 0 n 0),(9,.int .i64 n),(10,.int .i64 i)]
abbrev oT2 (n:Nat):List (Nat×LV):=[(3,.slo 2 0 n 0)]
abbrev oH (n:Nat) (ax ox:List LV):List LB:=[.ro ax,.cells [.slo 0 0 n 0] none,.cells ox (some 1)]
theorem cxo_ok:CtrOk prog (ctrOf cxo):=cxl_ok ⟨ssG_ok,trivial⟩
theorem oq_a (n:Nat) (ax:List LV) (F:World→Prop) (K:Pk):(xsp prog cxo 60 22 (seg oS 0 3) (tm0 [.slo 0 0 n 0]) (mkS [.ro ax] (factG F)) (vK oL K))=(
 ck (xle (xnat ↑n) (xnat ↑n)) <|
 ck (xle (xnat ↑n) 100000) <|
 K .normal [.ptr 1 0,.nils,.sl 2 0 (xnat ↑n) (xnat ↑n),.int .i64 ↑(xnat ↑n),.int .i64 0] [some (.ro ax),sN [.slo 0 0 n 0],sN (xrep (xnat ↑n) [.int .i64 0])] (factG F)):=by kernel_rfl
theorem oq_b (n i:Nat) (ax ox:List LV) (F:World→Prop) (K:Pk):(xcode prog cxo 60 22 (loopOf (nthC oS 3)) (mkTm 22 (oT n i)) (mkS (oH n ax ox) (factG F)) (vK oL K))=(
 bif xcm .lss ↑i ↑n then(
 ck (xle (xadd (xnat ↑i) 1) n) <|
 ck (xle (xadd (xix 0 (xnat ↑i) 1) 1) (xln ox)) <|
 K .normal [.ptr 1 0,.any,.slo 2 0 n 0,.int .i64 ↑n,.int .i64 (xar .add .i64 (↑i) 1)] [some (.ro ax),sN [.slo 0 0 n 0],sC (xlay ox (xix 0 (xnat ↑i) 1) [.int .i64 ↑i]) 1] (factG F))
 else(
 K (.exit 0) [.ptr 1 0,.any,.slo 2 0 n 0,.int .i64 ↑n,.int .i64 ↑i] [some (.ro ax),sN [.slo 0 0 n 0],sC ox 1] (factG F))):=by kernel_rfl
theorem oq_c (n i:Nat) (ax ox:List LV) (F:World→Prop) (K:Pk):(xsp prog cxo 60 22 (seg oS 4 1) (mkTm 22 (oT n i)) (mkS (oH n ax ox) (factG F)) (vK oL K))=(
 ck (okAt ax n) <|
 ck (okRg ox n) <|
 ck (xcm .eql (↑n) (Int.ofNat n)) <|
 ck (xle n n) <|
 ck (xle n n) <|
 K .normal [.ptr 1 0,.any,.slo 2 0 n 0,.int .i64 ↑n,.int .i64 ↑i] [some (.ro ax),sN [.slo 0 0 n 0],sC (orW ax n) 1] (factG F)):=by kernel_rfl
theorem oq_z (n:Nat) (ax ox:List LV) (F:World→Prop) (K:Pk):(xsp prog cxo 60 22 (oS.drop 5) (mkTm 22 (oT2 n)) (mkS (oH n ax ox) (factG F)) (vK oL K))=(
 K .ret [.any,.slo 2 0 n 0,.slo 2 0 n 0,.any,.any] [some (.ro ax),sN [.slo 0 0 n 0],sC ox 1] (factG F)):=by kernel_rfl
end
end Go.Lev
