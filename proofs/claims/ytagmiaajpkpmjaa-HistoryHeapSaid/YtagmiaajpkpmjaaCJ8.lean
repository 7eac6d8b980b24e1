/- chapter 29: the stable sort of few: a sort of nothing, trees -/
import Derived.Test.YtagmiaajpkpmjaaCJ7
import Derived.Test.YtagmiaajpkpmjaaLc
import Derived.Test.YtagmiaajpkpmjaaChecked
import Derived.KernelRfl
namespace Go.Lev
set_option linter.unusedSimpArgs false
set_option linter.unusedVariables false
open Go.RowKit
open Go.Proofs.Try (prog)
set_option maxRecDepth 100000
noncomputable section
abbrev jT:List (Nat×LV):=[(0,.slo 2 0 20 0),(1,.int .i64 20),(2,.int .i64 20),(3,iF),(8,.int .i64 21)]
theorem j_0 (ax ox:List LV) (F:World→Prop) (K:Pk):(xsp prog cxi 60 53 (seg iS 0 1) (tm0 [.slo 2 0 20 0,.int .i64 20,.int .i64 20,iF]) (mkS (iH 20 ax ox) (factG F)) (vK iL K))=(
 K .normal [.slo 2 0 20 0,.int .i64 20,.int .i64 20,.fn 16 [.ptr 0 0],.int .i64 21,.tup []] [sN [.slo 1 0 20 0],some (.ro ax),sC ox 1] (factG F)):=by kernel_rfl
theorem j_a (ax ox:List LV) (F:World→Prop) (K:Pk):(xsp prog cxi 60 53 (seg iB 0 2) (mkTm 53 jT) (mkS (iH 20 ax ox) (factG F)) (vK iL K))=(
 K (.exit 0) [.slo 2 0 20 0,.int .i64 20,.int .i64 20,.fn 16 [.ptr 0 0],.int .i64 21,.any] [sN [.slo 1 0 20 0],some (.ro ax),sC ox 1] (factG F)):=by kernel_rfl
theorem is0_ok (ax ox:List LV) (F:World→Prop) (na:noIds ax=true) (no:noIds ox=true):SFun prog 24 [.slo 2 0 20 0,.int .i64 20,.int .i64 20,iF] (mkS (iH 20 ax ox) (factG F)) fun l s=>l=.tup []∧s=mkS (iH 20 ax ox) (factG F):=by
 refine SFun.mono (SFun.pieces (Q:=fun l b=>l=.tup []∧b=iH 20 ax ox) 53 3 iL [] (by kernel_rfl) rfl rfl rfl ?_) fun l s' ⟨b0,⟨h1,h2⟩,h3⟩=>⟨h1,by rw [h3,h2]⟩
 refine SSp.to cxi_ok (n:=60) (g:=factG F) 1 1 rfl (σ:=Unit) (fun _=>jT) (fun _=>iH 20 ax ox) (mkS_le (Nat.le_of_ble_eq_true rfl)) (by kernel_rfl) ?_ fun _=>?_
 ·rw [j_0]; exact⟨rfl,(),[.id 0,.id 1,.id 2],by(exact zC)⟩
 try dsimp only
 refine SSp.code_last (by kernel_rfl) ?_
 refine SCode.loop_sp 0 (by kernel_rfl) (σ:=Unit) (fun _=>jT) (fun _=>iH 20 ax ox) (fun _=>0) (fun _=>Nat.le_of_ble_eq_true rfl) (fun _=>?_) ()
 refine SSp.to cxi_ok (n:=60) (g:=factG F) 2 2 rfl (σ:=Empty) (fun _=>[]) (fun _=>[]) (mkS_le (Nat.le_of_ble_eq_true rfl)) (by kernel_rfl) ?_ fun z=>nomatch z
 rw [j_a]
 exact⟨trivial,rfl,_,_,[.id 0,.id 1,.id 2],⟨rfl,rfl⟩,by(exact zC)⟩
theorem is0c_ok (n n2:Nat) (z m:Int) (c oc:List LV) (F:World→Prop) (k1:okAt c n=true) (k2:okSo oc c n=true) (k3:xcm .eql z 20=true) (k4:xcm .eql m 20=true) (k5:xle n2 n=true) (k6:xle n n2=true) (k7:xcm .eql (.ofNat n) 20=true) :
  SFun prog 24 [.slo 2 0 n 0,.int .i64 z,.int .i64 m,.fn 16 [.ptr 0 0]] (mkS [.cells [.slo 1 0 n2 0] none,.ro c,.cells oc (some 1)] (factG F)) fun l s=>l=.tup []∧s=mkS [.cells [.slo 1 0 n2 0] none,.ro c,.cells oc (some 1)] (factG F):=by
 rw [xcm_eql,decide_eq_true_eq] at k3 k4 k7
 rw [wd_le,decide_eq_true_eq] at k5 k6
 obtain rfl:n2=n:=Nat.le_antisymm k5 k6
 obtain rfl:n2=20:=by have:(n2:Int)=20:=k7; omega
 subst k3 k4
 exact is0_ok c oc F (okAt_nd k1) (by rw [okSo_iff.1 k2]; exact noids_nI _)
def is0G:Gc:=fun args s=>match args,s.g with
 | [.slo d 0 n 0,.int .i64 z,.int .i64 m,.fn 16 [.ptr b 0]],[(0,[.fact F])]=>(match s.h.get b with
   | some (.cells [.slo a 0 n2 0] none)=>(match s.h.get a with
     | some (.ro c)=>(match s.h.get d with
       | some (.cells oc (some 1))=>cond (nodupB [b,a,d]) (match s.lay [b,a,d] [.cells [.slo a 0 n2 0] none,.ro c,.cells oc (some 1)] [] with
         | some s'=>some ([okAt c n,okSo oc c n,xcm .eql z 20,xcm .eql m 20,xle n2 n,xle n n2,xcm .eql (.ofNat n) 20],.tup [],s')
         | none=>none) none
       | _=>none)
     | _=>none)
   | _=>none)
 | _,_=>none
theorem is0G_ok:GOk prog 24 is0G:=by
 intro args s bs l s' hg hb hfr
 unfold is0G at hg
 split at hg
 ·rename_i d n z m b F hgl
  split at hg
  ·rename_i a n2 hb0
   split at hg
   ·rename_i c hb1
    split at hg
    ·rename_i oc hb2
     cases hbc:nodupB [b,a,d] with
     | false=>rw [hbc] at hg; cases hg
     | true =>
       rw [hbc] at hg
       simp only [cond_true] at hg
       split at hg
       ·rename_i s1 hs1
        simp only [Option.some.injEq,Prod.mk.injEq] at hg
        obtain⟨rfl,rfl,rfl⟩:=hg
        simp only [allT_cons] at hb
        obtain⟨k1,k2,k3,k4,k5,k6,k7,_⟩:=hb
        have nc:noIds c=true:=okAt_nd k1
        have no:noIds oc=true:=by rw [okSo_iff.1 k2]; exact noids_nI _
        refine SFun.lay (bs:=[.cells [.slo 1 0 n2 0] none,.ro c,.cells oc (some 1)]) (args0:=[.slo 2 0 n 0,.int .i64 z,.int .i64 m,.fn 16 [.ptr 0 0]]) (bs':=[.cells [.slo 1 0 n2 0] none,.ro c,.cells oc (some 1)]) (v0:=.tup []) hfr hs1 (nodupB_nd hbc)
         ⟨⟨there hfr hb0,_,hb0,by first | exact lb_same rfl | exact lb_cells (lws_cons (lw_slo rfl) lws_nil) (by simp),fun κ hκ=>lb_cells (lws_cons (lw_slo (hκ 1 a rfl)) lws_nil) (by simp)⟩,⟨there hfr hb1,_,hb1,lb_ro (by(exact zId)),fun κ hκ=>lb_ro (by(exact zId))⟩,⟨there hfr hb2,_,hb2,lb_same (by(exact zId)),fun κ hκ=>lb_same (by(exact zId))⟩,trivial⟩ (by((repeat refine lws_cons (by(first | exact lw_any | exact lw_int | exact lw_bool | exact lw_ptr rfl | exact lw_slo rfl | exact lw_nilp | exact lw_nils | exact lw_str | exact lw_slo_nils | exact lw_slo_sle | exact lw_sl rfl | exact lw_unb | exact lw_gptr | exact lw_noid rfl | exact lw_cap rfl (Nat.le_refl _) | exact lw_cap rfl (by omega) | assumption | exact lw_tup (by((repeat refine lws_cons (by(first | exact lw_any | exact lw_int | exact lw_bool | exact lw_ptr rfl | exact lw_slo rfl | exact lw_nilp | exact lw_nils | exact lw_str | exact lw_slo_nils | exact lw_slo_sle | exact lw_sl rfl | exact lw_unb | exact lw_gptr | exact lw_noid rfl | exact lw_cap rfl (Nat.le_refl _) | exact lw_cap rfl (by omega) | assumption)) ?_); exact lws_nil)) | exact lw_agg (by((repeat refine lws_cons (by(first | exact lw_any | exact lw_int | exact lw_bool | exact lw_ptr rfl | exact lw_slo rfl | exact lw_nilp | exact lw_nils | exact lw_str | exact lw_slo_nils | exact lw_slo_sle | exact lw_sl rfl | exact lw_unb | exact lw_gptr | exact lw_noid rfl | exact lw_cap rfl (Nat.le_refl _) | exact lw_cap rfl (by omega) | assumption | exact lw_tup (by((repeat refine lws_cons (by(first | exact lw_any | exact lw_int | exact lw_bool | exact lw_ptr rfl | exact lw_slo rfl | exact lw_nilp | exact lw_nils | exact lw_str | exact lw_slo_nils | exact lw_slo_sle | exact lw_sl rfl | exact lw_unb | exact lw_gptr | exact lw_noid rfl | exact lw_cap rfl (Nat.le_refl _) | exact lw_cap rfl (by omega) | assumption)) ?_); exact lws_nil)))) ?_); exact lws_nil)) | exact lw_fn (by((repeat refine lws_cons (by(first | exact lw_any | exact lw_int | exact lw_bool | exact lw_ptr rfl | exact lw_slo rfl | exact lw_nilp | exact lw_nils | exact lw_str | exact lw_slo_nils | exact lw_slo_sle | exact lw_sl rfl | exact lw_unb | exact lw_gptr | exact lw_noid rfl | exact lw_cap rfl (Nat.le_refl _) | exact lw_cap rfl (by omega) | assumption | exact lw_tup (by((repeat refine lws_cons (by(first | exact lw_any | exact lw_int | exact lw_bool | exact lw_ptr rfl | exact lw_slo rfl | exact lw_nilp | exact lw_nils | exact lw_str | exact lw_slo_nils | exact lw_slo_sle | exact lw_sl rfl | exact lw_unb | exact lw_gptr | exact lw_noid rfl | exact lw_cap rfl (Nat.le_refl _) | exact lw_cap rfl (by omega) | assumption)) ?_); exact lws_nil)))) ?_); exact lws_nil)))) ?_); exact lws_nil)) ?_
         fun κ h1 h2=>⟨⟨lb_cells (lws_cons (lw_slo (h1 1 a rfl)) lws_nil) (by simp),lb_ro (by(exact zId)),lb_same (by(exact zId)),trivial⟩,lw_noid rfl⟩
        rw [hgl]; exact(is0c_ok n n2 z m c oc F k1 k2 k3 k4 k5 k6 k7)
       ·cases hg
    ·cases hg
   ·cases hg
  ·cases hg
 ·cases hg
def cxs:Cx:=cxl [(24,isG)]
def cxs0:Cx:=cxl [(24,is0G)]
abbrev sS:List Code:=sp prog 20
abbrev sL:List Nat:=[0,1,2,6,7,8,9]
abbrev sB:List Code:=spineL (loopOf (nthC sS 4))
abbrev sT (n a e:Nat):List (Nat×LV):=[(0,.slo 2 0 n 0),(1,.int .i64 n),(2,iF),(6,.int .i64 20),(7,.int .i64 a),(8,.int .i64 e)]
theorem cxs_ok:CtrOk prog (ctrOf cxs):=cxl_ok ⟨isG_ok,trivial⟩
theorem cxs0_ok:CtrOk prog (ctrOf cxs0):=cxl_ok ⟨is0G_ok,trivial⟩
theorem ss_a (n:Nat) (ax ox:List LV) (F:World→Prop) (K:Pk):(xsp prog cxs 60 63 (seg sS 0 2) (tm0 [.slo 2 0 n 0,.int .i64 n,iF]) (mkS (iH n ax ox) (factG F)) (vK sL K))=(
 K .normal [.slo 2 0 n 0,.int .i64 ↑n,.fn 16 [.ptr 0 0],.int .i64 20,.int .i64 0,.int .i64 20,.tup []] [sN [.slo 1 0 n 0],some (.ro ax),sC ox 1] (factG F)):=by kernel_rfl
theorem ss_b (n a e:Nat) (ax ox:List LV) (F:World→Prop) (K:Pk):(xcode prog cxs 60 63 (loopOf (nthC sS 2)) (mkTm 63 (sT n a e)) (mkS (iH n ax ox) (factG F)) (vK sL K))=(
 bif xcm .leq ↑e ↑n then(
 ck (okAt ax n) <|
 ck (okRg ox n) <|
 ck (xcm .eql (↑a) 0) <|
 ck (xcm .eql (↑e) (Int.ofNat n)) <|
 ck (xle n n) <|
 ck (xle n n) <|
 K .normal [.slo 2 0 n 0,.int .i64 ↑n,.fn 16 [.ptr 0 0],.int .i64 20,.int .i64 ↑e,.int .i64 (xar .add .i64 (↑e) 20),.any] [sN [.slo 1 0 n 0],some (.ro ax),sC (orW ax n) 1] (factG F))
 else(
 K (.exit 0) [.slo 2 0 n 0,.int .i64 ↑n,.fn 16 [.ptr 0 0],.int .i64 20,.int .i64 ↑a,.int .i64 ↑e,.any] [sN [.slo 1 0 n 0],some (.ro ax),sC ox 1] (factG F))):=by kernel_rfl
theorem ss_c (n a e:Nat) (ax ox:List LV) (F:World→Prop) (K:Pk):(xsp prog cxs 60 63 (seg sS 3 1) (mkTm 63 (sT n a e)) (mkS (iH n ax ox) (factG F)) (vK sL K))=(
 ck (okAt ax n) <|
 ck (okRg ox n) <|
 ck (xcm .eql (↑a) 0) <|
 ck (xcm .eql (↑n) (Int.ofNat n)) <|
 ck (xle n n) <|
 ck (xle n n) <|
 K .normal [.slo 2 0 n 0,.int .i64 ↑n,.fn 16 [.ptr 0 0],.int .i64 20,.int .i64 ↑a,.int .i64 ↑e,.any] [sN [.slo 1 0 n 0],some (.ro ax),sC (orW ax n) 1] (factG F)):=by kernel_rfl
theorem ss_d (n a e:Nat) (ax ox:List LV) (F:World→Prop) (K:Pk):(xsp prog cxs0 60 63 (seg sS 3 1) (mkTm 63 (sT n a e)) (mkS (iH n ax ox) (factG F)) (vK sL K))=(
 ck (okAt ax n) <|
 ck (okSo ox ax n) <|
 ck (xcm .eql (↑a) 20) <|
 ck (xcm .eql (↑n) 20) <|
 ck (xle n n) <|
 ck (xle n n) <|
 ck (xcm .eql (Int.ofNat n) 20) <|
 K .normal [.slo 2 0 n 0,.int .i64 ↑n,.fn 16 [.ptr 0 0],.int .i64 20,.int .i64 ↑a,.int .i64 ↑e,.any] [sN [.slo 1 0 n 0],some (.ro ax),sC ox 1] (factG F)):=by kernel_rfl
theorem ss_e (n a e:Nat) (ax ox:List LV) (F:World→Prop) (K:Pk):(xsp prog cxs 60 63 (seg sB 0 2) (mkTm 63 (sT n a e)) (mkS (iH n ax ox) (factG F)) (vK sL K))=(
 bif xcm .lss 20 ↑n then(
 K .normal [.slo 2 0 n 0,.int .i64 ↑n,.fn 16 [.ptr 0 0],.int .i64 20,.int .i64 ↑a,.int .i64 ↑e,.any] [sN [.slo 1 0 n 0],some (.ro ax),sC ox 1] (factG F))
 else(
 K (.exit 2) [.slo 2 0 n 0,.int .i64 ↑n,.fn 16 [.ptr 0 0],.int .i64 20,.int .i64 ↑a,.int .i64 ↑e,.any] [sN [.slo 1 0 n 0],some (.ro ax),sC ox 1] (factG F))):=by kernel_rfl
end
end Go.Lev
