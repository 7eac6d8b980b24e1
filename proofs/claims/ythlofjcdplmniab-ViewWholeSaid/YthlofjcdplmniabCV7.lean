/- ViewPlays: the ask as a contract; both tell the same -/
import Derived.Test.YthlofjcdplmniabCV6
import Derived.Test.YthlofjcdplmniabLc
import Derived.Test.YthlofjcdplmniabChecked
import Derived.KernelRfl
namespace Go.Lev
set_option linter.unusedSimpArgs false
set_option linter.unusedVariables false
open Go.RowKit
open Go.Proofs.Try (prog)
set_option maxRecDepth 100000
noncomputable section
set_option maxHeartbeats 4000000 in
theorem do_ok {F:World→Prop} {v:Value} (sz:Nat) (most:Int) (s:VS) (k a w:Int) (qs:CL) (i:Int) (hq:∀ W,F W→RowArg W v qs.length (encL cell qs)) (hn:qs.length≤9223372036854775807) (h:OkS sz most s) (hf:totF s.ls < 100000) :
  SFun prog 8 [.ptr 0 0,.ptr 6 0,.agg [.int .i64 k,.int .i64 a,.int .u64 w,.val v],.int .i64 i] (mkS (doI sz s.ks.length (encL cell s.ks) (encL (cI .i64) (spL sz s.ks)) s.nd most s.ls.length (encLs s.ls)) (factG F)) fun l t=>l=.bool true∧t=mkS (doP sz most (doS sz most s k a w qs i)) (factG F):=by
 refine SFun.mono (SFun.pieces (Q:=doQ sz most (doS sz most s k a w qs i)) 163 11 doL [8] (by kernel_rfl) rfl rfl rfl ?_) fun l s' ⟨b0,⟨h1,h2⟩,h3⟩=>⟨h1,by rw [h3,h2]⟩
 have nk:=noids_c s.ks; have ns:=noIds_Ii64 (spL sz s.ks)
 have f1:=isF_self lvF; have f2:=isF_self orF
 have ok0:=okR_enc h.l h.m h.m2
 have okk:=okK_enc h.k
 have es:=spW_enc sz s.ks
 have hs:=h.k.s
 have okf:okF (encLs s.ls)=true:=by simp only [okF,decLs_enc,decide_eq_true_eq]; exact hf
 refine SSp.to cxd_ok (n:=60) (g:=factG F) 3 3 rfl (σ:=Unit) (fun _=>doT i (plV a i) (wthV k 0 12)) (fun _=>doH sz s.ks.length (encL cell s.ks) (encL (cI .i64) (spL sz s.ks)) s.nd most s.ls.length (encLs s.ls) k a w v) (mkS_le (Nat.le_of_ble_eq_true rfl)) (by kernel_rfl) ?_ fun _=>?_
 ·rw [do_a]; exact⟨rfl,(),[.id 0,.id 1,.id 2,.id 3,.id 4,.id 5,.id 6,.id 7,.id 8,.id 9,.id 10,.id 11],by(exact zC)⟩
 unfold doS
 have hK:0≤wthV k 0 12∧wthV k 0 12≤12:=by simp only [wthV]; omega
 generalize wthV k 0 12=K at hK
 generalize plV a i=p
 have hK:K=0∨K=1∨K=2∨K=3∨K=4∨K=5∨K=6∨K=7∨K=8∨K=9∨K=10∨K=11∨K=12:=by omega
 rcases hK with rfl | rfl | rfl | rfl | rfl | rfl | rfl | rfl | rfl | rfl | rfl | rfl | rfl
 ·refine zE cxd_ok ?_
  rw [do_0]
  simp only [ok0,okk,es,eqL_self,f1,f2,cm_self,knNW,knCW,spW_enc,decC_enc,cond_true]
  have nk2:=noids_c (knC sz s.ks p (xar .rem .u64 w 3)); have ns2:=noIds_Ii64 (spL sz (knC sz s.ks p (xar .rem .u64 w 3)))
  exact⟨trivial,rfl,.bool true,doP sz most ⟨knC sz s.ks p (xar .rem .u64 w 3),s.nd,s.ls⟩,[.id 0,.id 1,.id 2,.id 3,.id 4,.id 5,.id 6,.id 7,.id 8,.id 9,.id 10,.id 12,.id 4,.id 5,.id 13,.id 9,.id 10],⟨rfl,rfl⟩,by(exact zC)⟩
 ·refine zE cxd_ok ?_
  rw [do_1]
  simp only [do_1_b1,do_1_b2,do_1_b3,nt_lss,ok0,okk,es,eqL_self,f1,f2,cm_self,lpD,lpC,decLs_enc,cond_true]
  by_cases q:inV sz p
  ·have q1:=q.1; have q2:=q.2
   rw [if_pos q]
   (refine zR ?_)
   exact⟨trivial,rfl,.bool true,doP sz most ⟨s.ks,s.nd,tkC most s.ls [(p,w)]⟩,[.id 0,.id 1,.id 2,.id 3,.id 4,.id 5,.id 6,.id 7,.id 8,.id 9,.id 10,.id 1,.id 4,.id 13,.id 7,.id 9,.id 12],⟨rfl,rfl⟩,by(exact zC)⟩
  ·rw [if_neg q]
   by_cases q1:1≤p
   ·have q2:¬ p < sz:=fun e=>q ⟨q1,e⟩
    (refine zR ?_)
    exact⟨trivial,rfl,.bool true,doP sz most ⟨s.ks,s.nd,s.ls⟩,[.id 0,.id 1,.id 2,.id 3,.id 4,.id 5,.id 6,.id 7,.id 8,.id 9,.id 10,.id 1,.id 4,.id 5,.id 7,.id 9,.id 10],⟨rfl,rfl⟩,by(exact zC)⟩
   ·(refine zR ?_)
    exact⟨trivial,rfl,.bool true,doP sz most ⟨s.ks,s.nd,s.ls⟩,[.id 0,.id 1,.id 2,.id 3,.id 4,.id 5,.id 6,.id 7,.id 8,.id 9,.id 10,.id 1,.id 4,.id 5,.id 7,.id 9,.id 10],⟨rfl,rfl⟩,by(exact zC)⟩
 ·refine zE cxd_ok ?_
  rw [do_2]
  simp only [ok0,f1,f2,cm_self,lopenD,lopenC,decLs_enc,cond_true]
  exact⟨trivial,rfl,.bool true,doP sz most ⟨s.ks,s.nd,opL s.ls⟩,[.id 0,.id 1,.id 2,.id 3,.id 4,.id 5,.id 6,.id 7,.id 8,.id 9,.id 10,.id 1,.id 12,.id 13,.id 7,.id 14,.id 15],⟨rfl,rfl⟩,by(exact zC)⟩
 ·refine zE cxd_ok ?_
  rw [do_3]
  simp only [ok0,f1,f2,cm_self,lkeepD,lkeepC,decLs_enc,cond_true]
  exact⟨trivial,rfl,.bool true,doP sz most ⟨s.ks,s.nd,kpL s.ls⟩,[.id 0,.id 1,.id 2,.id 3,.id 4,.id 5,.id 6,.id 7,.id 8,.id 9,.id 10,.id 1,.id 12,.id 13,.id 7,.id 14,.id 15],⟨rfl,rfl⟩,by(exact zC)⟩
 ·refine zE cxd_ok ?_
  rw [do_4]
  simp only [ok0,f1,f2,cm_self,ldropD,ldropC,decLs_enc,cond_true]
  exact⟨trivial,rfl,.bool true,doP sz most ⟨s.ks,s.nd,drL s.ls⟩,[.id 0,.id 1,.id 2,.id 3,.id 4,.id 5,.id 6,.id 7,.id 8,.id 9,.id 10,.id 1,.id 12,.id 13,.id 7,.id 14,.id 15],⟨rfl,rfl⟩,by(exact zC)⟩
 ·refine zE cxd_ok ?_
  rw [do_5]
  simp only [ok0,okf,f1,f2,lfD,lfC,decLs_enc,cond_true]
  exact⟨trivial,rfl,.bool true,doP sz most ⟨s.ks,s.nd,frC s.ls a⟩,[.id 0,.id 1,.id 2,.id 3,.id 4,.id 5,.id 6,.id 7,.id 8,.id 9,.id 10,.id 1,.id 4,.id 12,.id 7,.id 9,.id 13],⟨rfl,rfl⟩,by(exact zC)⟩
 ·refine SSp.row (v:=v) (n:=qs.length) (cs:=encL cell qs) (as':=doT i p 6) (bs':=[.cells [.slo 1 0 s.ks.length 0,.slo 2 0 sz 0,.int .i64 s.nd,.ptr 3 0] none,.cells (encL cell s.ks) (some 2),.cells (encL (cI .i64) (spL sz s.ks)) (some 1),.cells [.int .i64 most,.slo 4 0 s.ls.length 0] none,.obj lvF (encLs s.ls) 5,.dead,.cells [.int .i64 sz,.slo 7 0 s.ks.length 0,.ptr 8 0,.int .i64 s.nd] none,.cells (encL cell s.ks) (some 2),.cells [.int .i64 most,.slo 9 0 s.ls.length 0] none,.obj orF (encLs s.ls) 10,.dead,.cells [.int .i64 k,.int .i64 a,.int .u64 w,.slo 12 0 qs.length 0] none]) (by kernel_rfl) (Nat.le_of_ble_eq_true rfl) (fun W0 hW=>hq W0 (Gl_fact.1 hW)) (fun u=>.inl rfl)
   ⟨.inl rfl,.inl rfl,.inl rfl,.inl rfl,.inl rfl,.inl rfl,.inl rfl,.inl rfl,.inl rfl,.inl rfl,.inl rfl,.inr ⟨rfl,.inl rfl,.inl rfl,.inl rfl,.inr ⟨rfl,rfl⟩,trivial⟩,trivial⟩ ?_
  exact do_take sz most s k a w p qs i hn h
 ·refine zE cxd_ok ?_
  rw [do_7]
  simp only [ok0,okk,es,eqL_self,f1,f2,cm_self,knNW,knCW,spW_enc,decC_enc,cond_true]
  have nk2:=noids_c (knC sz s.ks p (xar .rem .u64 w 3)); have ns2:=noIds_Ii64 (spL sz (knC sz s.ks p (xar .rem .u64 w 3)))
  exact⟨trivial,rfl,.bool true,doP sz most ⟨knC sz s.ks p (xar .rem .u64 w 3),s.nd,s.ls⟩,[.id 0,.id 1,.id 2,.id 3,.id 4,.id 5,.id 6,.id 7,.id 8,.id 9,.id 10,.id 12,.id 4,.id 5,.id 13,.id 9,.id 10],⟨rfl,rfl⟩,by(exact zC)⟩
 ·refine SSp.to cxd_ok (n:=60) (g:=factG F) 1 4 rfl (σ:=Unit) (fun _=>[(0,.ptr 0 0),(1,.ptr 6 0),(8,.bool false),(9,.int .i64 p)]) (fun _=>doI sz s.ks.length (encL cell s.ks) (encL (cI .i64) (spL sz s.ks)) s.nd most s.ls.length (encLs s.ls)) (mkS_le (Nat.le_of_ble_eq_true rfl)) (by kernel_rfl) ?_ fun _=>?_
  ·rw [do_8]; exact⟨rfl,(),[.id 0,.id 1,.id 2,.id 3,.id 4,.id 5,.id 6,.id 7,.id 8,.id 9,.id 10],by(exact zC)⟩
  exact do_read sz most s p h
 ·refine SSp.to cxd_ok (n:=60) (g:=factG F) 1 4 rfl (σ:=Unit) (fun _=>[(0,.ptr 0 0),(1,.ptr 6 0),(8,.bool false),(9,.int .i64 p)]) (fun _=>doI sz s.ks.length (encL cell s.ks) (encL (cI .i64) (spL sz s.ks)) s.nd most s.ls.length (encLs s.ls)) (mkS_le (Nat.le_of_ble_eq_true rfl)) (by kernel_rfl) ?_ fun _=>?_
  ·rw [do_9]; exact⟨rfl,(),[.id 0,.id 1,.id 2,.id 3,.id 4,.id 5,.id 6,.id 7,.id 8,.id 9,.id 10],by(exact zC)⟩
  exact do_read sz most s p h
 ·refine SSp.to cxd_ok (n:=60) (g:=factG F) 1 4 rfl (σ:=Unit) (fun _=>[(0,.ptr 0 0),(1,.ptr 6 0),(8,.bool false),(9,.int .i64 p)]) (fun _=>doI sz s.ks.length (encL cell s.ks) (encL (cI .i64) (spL sz s.ks)) s.nd most s.ls.length (encLs s.ls)) (mkS_le (Nat.le_of_ble_eq_true rfl)) (by kernel_rfl) ?_ fun _=>?_
  ·rw [do_10]; exact⟨rfl,(),[.id 0,.id 1,.id 2,.id 3,.id 4,.id 5,.id 6,.id 7,.id 8,.id 9,.id 10],by(exact zC)⟩
  exact do_read sz most s p h
 ·refine SSp.to cxd_ok (n:=60) (g:=factG F) 1 4 rfl (σ:=Unit) (fun _=>[(0,.ptr 0 0),(1,.ptr 6 0),(8,.bool false),(9,.int .i64 p)]) (fun _=>doI sz s.ks.length (encL cell s.ks) (encL (cI .i64) (spL sz s.ks)) s.nd most s.ls.length (encLs s.ls)) (mkS_le (Nat.le_of_ble_eq_true rfl)) (by kernel_rfl) ?_ fun _=>?_
  ·rw [do_11]; exact⟨rfl,(),[.id 0,.id 1,.id 2,.id 3,.id 4,.id 5,.id 6,.id 7,.id 8,.id 9,.id 10],by(exact zC)⟩
  exact do_read sz most s p h
 ·refine SSp.to cxd_ok (n:=60) (g:=factG F) 1 4 rfl (σ:=Unit) (fun _=>[(0,.ptr 0 0),(1,.ptr 6 0),(8,.bool false),(9,.int .i64 p)]) (fun _=>doI sz s.ks.length (encL cell s.ks) (encL (cI .i64) (spL sz s.ks)) s.nd most s.ls.length (encLs s.ls)) (mkS_le (Nat.le_of_ble_eq_true rfl)) (by kernel_rfl) ?_ fun _=>?_
  ·rw [do_12]; exact⟨rfl,(),[.id 0,.id 1,.id 2,.id 3,.id 4,.id 5,.id 6,.id 7,.id 8,.id 9,.id 10],by(exact zC)⟩
  exact do_read sz most s p h
end
end Go.Lev
