/- ThreadLimits: contracts for its closed runs -/
import Derived.Test.YtcgkfbdbbfpofaaGreatDoorLc
import Derived.Test.YtcgkfbdbbfpofaaGreatDoorChecked
import Derived.KernelRfl
import Derived.Test.YtcgkfbdbbfpofaaGreatDoorLc
import Derived.Test.YtcgkfbdbbfpofaaGreatDoorLc
import Derived.Test.YtcgkfbdbbfpofaaGreatDoorLc
import Derived.Test.YtcgkfbdbbfpofaaGreatDoorRows
namespace Go.Lev
set_option linter.unusedSimpArgs false
set_option linter.unusedVariables false
open Go.RowKit
open Go.Proofs.Tryz (prog)
set_option maxRecDepth 100000
noncomputable section
theorem held_x (n lo hi:Int) (K:Fk):(xfun prog (fun _=>none) 40 8 [.int .i64 n,.int .i64 lo,.int .i64 hi] (mkS []) (vF K))=(
 bif xcm .lss n lo then(
 K (.int .i64 lo) [] [])
 else(
 bif xcm .gtr n hi then(
 K (.int .i64 hi) [] [])
 else(
 K (.int .i64 n) [] []))):=by kernel_rfl
def hldV (n lo hi:Int):Int:=if n < lo then lo else if hi < n then hi else n
def heldG:Gc:=fun args s=>match args,s.g with
 | [.int .i64 n,.int .i64 lo,.int .i64 hi],[]=>some ([],.int .i64 (hldV n lo hi),s)
 | _,_=>none
theorem held_ok (n lo hi:Int):SFun prog 8 [.int .i64 n,.int .i64 lo,.int .i64 hi] (mkS []) fun l s=>l=.int .i64 (hldV n lo hi)∧s=mkS []:=by
 refine SFun.mono (SFun.vc (Q:=fun l b=>l=.int .i64 (hldV n lo hi)∧b=[]) noCx_ok (n:=40) 0 rfl ?_) fun l s' ⟨b0,⟨h1,h2⟩,h3⟩=>⟨h1,by rw [h3,h2]⟩
 rw [held_x]
 simp only [xcm_lss,xcm_gtr,hldV]
 refine ite_way (fun h0=>?_) (fun h0=>?_)
 ·rw [if_pos h0]; exact⟨rfl,_,[],[],⟨rfl,rfl⟩,by(exact zC)⟩
 rw [if_neg h0]
 refine ite_way (fun h1=>?_) (fun h1=>?_)
 ·rw [if_pos h1]; exact⟨rfl,_,[],[],⟨rfl,rfl⟩,by(exact zC)⟩
 ·rw [if_neg h1]; exact⟨rfl,_,[],[],⟨rfl,rfl⟩,by(exact zC)⟩
theorem heldG_ok:GOk prog 8 heldG:=by
 intro args s bs l s' hg hb hfr
 unfold heldG at hg
 split at hg
 ·rename_i a lo hi hgl
  simp only [Option.some.injEq,Prod.mk.injEq] at hg
  obtain⟨rfl,rfl,rfl⟩:=hg
  exact SFun.pure hfr hgl rfl rfl (held_ok a lo hi)
 ·cases hg
theorem clI_s (n:Nat) (cs:List LV) (K:Pk):(xsp prog (fun _=>none) 40 8 ((sp prog 38).drop 0) (tm0 [.slo 0 0 (n+1) 0]) (mkS [.cells cs (some 1)]) (vK [0,2,4] K))=(
 ck (xle (xadd 0 (xmul (n+1) 1)) (xln cs)) <|
 ck (xle (xadd 0 (n+1)) 1000000) <|
 K .ret [.slo 0 0 (n+1) 0,.slo 2 0 (xadd 0 (n+1)) 0,.bool false] [sC cs 1,sN [],sC (xcat [] (xcut cs 0 (xmul (n+1) 1))) 1] []):=by kernel_rfl
theorem clI_a (K:Pk):(xsp prog (fun _=>none) 40 8 (seg (sp prog 38) 0 2) (tm0 [.slo 0 0 0 0]) (mkS [.cells [] (some 1)]) (vK [0,2,4] K))=(
 K .normal [.slo 0 0 0 0,.nils,.unb] [sC [] 1] []):=by kernel_rfl
theorem clI_t (K:Pk):(xcode prog (fun _=>none) 40 8 (condT (nthC (sp prog 38) 2)) (mkTm 8 [(0,.slo 0 0 0 0),(4,.unb)]) (mkS [.cells [] (some 1)]) (vK [0,2,4] K))=(
 K .ret [.slo 0 0 0 0,.nils,.unb] [sC [] 1] []):=by kernel_rfl
theorem clI_f (K:Pk):(xcode prog (fun _=>none) 40 8 (condF (nthC (sp prog 38) 2)) (mkTm 8 [(0,.slo 0 0 0 0),(4,.unb)]) (mkS [.cells [] (some 1)]) (vK [0,2,4] K))=(
 K .normal [.slo 0 0 0 0,.any,.unb] [sC [] 1] []):=by kernel_rfl
theorem clI_z (K:Pk):(xsp prog (fun _=>none) 40 8 ((sp prog 38).drop 3) (mkTm 8 [(0,.slo 0 0 0 0)]) (mkS [.cells [] (some 1)]) (vK [0,2,4] K))=(
 K .ret [.slo 0 0 0 0,.sl 1 0 0 0,.any] [sC [] 1,sN []] []):=by kernel_rfl
theorem clI_ok:GOk prog 38 (cloneG 1):=by
 refine cloneG_ok fun n cs hn hl hno=>?_
 refine SFun.mono (SFun.pieces (Q:=fun l b=>l=.slo 1 0 n 0∧b=[.cells cs (some 1),.cells cs (some 1)]) 8 1 [0,2,4] [2] (by kernel_rfl) rfl rfl rfl ?_) fun l s' ⟨b0,⟨h1,h2⟩,h3⟩=>⟨h1,by rw [h3,h2]⟩
 cases n with
 | zero =>
   have:cs=[]:=List.length_eq_zero_iff.1 (by omega)
   subst this
   refine SSp.to noCx_ok (n:=40) (g:=[]) 2 2 rfl (σ:=Unit) (fun _=>[(0,.slo 0 0 0 0),(4,.unb)]) (fun _=>[.cells [] (some 1)]) (mkS_le (Nat.le_refl _)) (by kernel_rfl) ?_ fun _=>?_
   ·rw [clI_a]; exact⟨rfl,(),[.id 0],by(exact zC)⟩
   refine SSp.code_to (g:=[]) 3 rfl (σ:=Unit) (fun _=>[(0,.slo 0 0 0 0)]) (fun _=>[.cells [] (some 1)]) (by kernel_rfl) ?_ fun _=>?_
   ·refine SCode.unb noCx_ok (n:=40) (by kernel_rfl) (by kernel_rfl) (mkS_le (Nat.le_refl _)) ?_ ?_
    ·rw [clI_t]; exact⟨trivial,rfl,_,_,[.id 0,.none],⟨rfl,rfl⟩,by(exact zC)⟩
    ·rw [clI_f]; exact⟨rfl,(),[.id 0],by(exact zC)⟩
   refine SSp.last noCx_ok (n:=40) (mkS_le (Nat.le_refl _)) ?_
   rw [clI_z]
   exact⟨trivial,rfl,_,_,[.id 0,.cap 1 0 0],⟨rfl,rfl⟩,by(exact zC)⟩
 | succ n =>
   refine SSp.last noCx_ok (n:=40) (mkS_le (Nat.le_refl _)) ?_
   rw [clI_s]
   have e:xcut cs 0 ((n+1) * 1)=cs:=xcut_all (by omega)
   (try simp only [Nat.mul_one] at e)
   (refine zN1 @e ?_)
   (repeat (with_reducible refine must (by(first | with_reducible rfl | exact t_le (by omega) | exact t_eq (by omega) | exact t_nn (by omega) | exact t_lss (by omega) | exact t_leq (by omega) | exact t_gtr (by omega) | exact t_geq (by omega) | exact t_eql (by omega) | exact t_neq (by omega) | exact t_z (by omega) | exact wd_not_f | assumption)) ?_))
   exact⟨trivial,rfl,_,_,[.id 0,.id 2],⟨rfl,rfl⟩,by(exact zC)⟩
theorem clC_s (n:Nat) (cs:List LV) (K:Pk):(xsp prog (fun _=>none) 40 8 ((sp prog 37).drop 0) (tm0 [.slo 0 0 (n+1) 0]) (mkS [.cells cs (some 2)]) (vK [0,2,4] K))=(
 ck (xle (xadd 0 (xmul (n+1) 2)) (xln cs)) <|
 ck (xle (xadd 0 (n+1)) 1000000) <|
 K .ret [.slo 0 0 (n+1) 0,.slo 2 0 (xadd 0 (n+1)) 0,.bool false] [sC cs 2,sN [],sC (xcat [] (xcut cs 0 (xmul (n+1) 2))) 2] []):=by kernel_rfl
theorem clC_a (K:Pk):(xsp prog (fun _=>none) 40 8 (seg (sp prog 37) 0 2) (tm0 [.slo 0 0 0 0]) (mkS [.cells [] (some 2)]) (vK [0,2,4] K))=(
 K .normal [.slo 0 0 0 0,.nils,.unb] [sC [] 2] []):=by kernel_rfl
theorem clC_t (K:Pk):(xcode prog (fun _=>none) 40 8 (condT (nthC (sp prog 37) 2)) (mkTm 8 [(0,.slo 0 0 0 0),(4,.unb)]) (mkS [.cells [] (some 2)]) (vK [0,2,4] K))=(
 K .ret [.slo 0 0 0 0,.nils,.unb] [sC [] 2] []):=by kernel_rfl
theorem clC_f (K:Pk):(xcode prog (fun _=>none) 40 8 (condF (nthC (sp prog 37) 2)) (mkTm 8 [(0,.slo 0 0 0 0),(4,.unb)]) (mkS [.cells [] (some 2)]) (vK [0,2,4] K))=(
 K .normal [.slo 0 0 0 0,.any,.unb] [sC [] 2] []):=by kernel_rfl
theorem clC_z (K:Pk):(xsp prog (fun _=>none) 40 8 ((sp prog 37).drop 3) (mkTm 8 [(0,.slo 0 0 0 0)]) (mkS [.cells [] (some 2)]) (vK [0,2,4] K))=(
 K .ret [.slo 0 0 0 0,.sl 1 0 0 0,.any] [sC [] 2,sN []] []):=by kernel_rfl
theorem clC_ok:GOk prog 37 (cloneG 2):=by
 refine cloneG_ok fun n cs hn hl hno=>?_
 refine SFun.mono (SFun.pieces (Q:=fun l b=>l=.slo 1 0 n 0∧b=[.cells cs (some 2),.cells cs (some 2)]) 8 1 [0,2,4] [2] (by kernel_rfl) rfl rfl rfl ?_) fun l s' ⟨b0,⟨h1,h2⟩,h3⟩=>⟨h1,by rw [h3,h2]⟩
 cases n with
 | zero =>
   have:cs=[]:=List.length_eq_zero_iff.1 (by omega)
   subst this
   refine SSp.to noCx_ok (n:=40) (g:=[]) 2 2 rfl (σ:=Unit) (fun _=>[(0,.slo 0 0 0 0),(4,.unb)]) (fun _=>[.cells [] (some 2)]) (mkS_le (Nat.le_refl _)) (by kernel_rfl) ?_ fun _=>?_
   ·rw [clC_a]; exact⟨rfl,(),[.id 0],by(exact zC)⟩
   refine SSp.code_to (g:=[]) 3 rfl (σ:=Unit) (fun _=>[(0,.slo 0 0 0 0)]) (fun _=>[.cells [] (some 2)]) (by kernel_rfl) ?_ fun _=>?_
   ·refine SCode.unb noCx_ok (n:=40) (by kernel_rfl) (by kernel_rfl) (mkS_le (Nat.le_refl _)) ?_ ?_
    ·rw [clC_t]; exact⟨trivial,rfl,_,_,[.id 0,.none],⟨rfl,rfl⟩,by(exact zC)⟩
    ·rw [clC_f]; exact⟨rfl,(),[.id 0],by(exact zC)⟩
   refine SSp.last noCx_ok (n:=40) (mkS_le (Nat.le_refl _)) ?_
   rw [clC_z]
   exact⟨trivial,rfl,_,_,[.id 0,.cap 1 0 0],⟨rfl,rfl⟩,by(exact zC)⟩
 | succ n =>
   refine SSp.last noCx_ok (n:=40) (mkS_le (Nat.le_refl _)) ?_
   rw [clC_s]
   have e:xcut cs 0 ((n+1) * 2)=cs:=xcut_all (by omega)
   (try simp only [Nat.mul_one] at e)
   (refine zN1 @e ?_)
   (repeat (with_reducible refine must (by(first | with_reducible rfl | exact t_le (by omega) | exact t_eq (by omega) | exact t_nn (by omega) | exact t_lss (by omega) | exact t_leq (by omega) | exact t_gtr (by omega) | exact t_geq (by omega) | exact t_eql (by omega) | exact t_neq (by omega) | exact t_z (by omega) | exact wd_not_f | assumption)) ?_))
   exact⟨trivial,rfl,_,_,[.id 0,.id 2],⟨rfl,rfl⟩,by(exact zC)⟩
theorem clR_s (n:Nat) (cs:List LV) (K:Pk):(xsp prog (fun _=>none) 40 8 ((sp prog 73).drop 0) (tm0 [.slo 0 0 (n+1) 0]) (mkS [.cells cs (some 2)]) (vK [0,2,4] K))=(
 ck (xle (xadd 0 (xmul (n+1) 2)) (xln cs)) <|
 ck (xle (xadd 0 (n+1)) 1000000) <|
 K .ret [.slo 0 0 (n+1) 0,.slo 2 0 (xadd 0 (n+1)) 0,.bool false] [sC cs 2,sN [],sC (xcat [] (xcut cs 0 (xmul (n+1) 2))) 2] []):=by kernel_rfl
theorem clR_a (K:Pk):(xsp prog (fun _=>none) 40 8 (seg (sp prog 73) 0 2) (tm0 [.slo 0 0 0 0]) (mkS [.cells [] (some 2)]) (vK [0,2,4] K))=(
 K .normal [.slo 0 0 0 0,.nils,.unb] [sC [] 2] []):=by kernel_rfl
theorem clR_t (K:Pk):(xcode prog (fun _=>none) 40 8 (condT (nthC (sp prog 73) 2)) (mkTm 8 [(0,.slo 0 0 0 0),(4,.unb)]) (mkS [.cells [] (some 2)]) (vK [0,2,4] K))=(
 K .ret [.slo 0 0 0 0,.nils,.unb] [sC [] 2] []):=by kernel_rfl
theorem clR_f (K:Pk):(xcode prog (fun _=>none) 40 8 (condF (nthC (sp prog 73) 2)) (mkTm 8 [(0,.slo 0 0 0 0),(4,.unb)]) (mkS [.cells [] (some 2)]) (vK [0,2,4] K))=(
 K .normal [.slo 0 0 0 0,.any,.unb] [sC [] 2] []):=by kernel_rfl
theorem clR_z (K:Pk):(xsp prog (fun _=>none) 40 8 ((sp prog 73).drop 3) (mkTm 8 [(0,.slo 0 0 0 0)]) (mkS [.cells [] (some 2)]) (vK [0,2,4] K))=(
 K .ret [.slo 0 0 0 0,.sl 1 0 0 0,.any] [sC [] 2,sN []] []):=by kernel_rfl
theorem clR_ok:GOk prog 73 (cloneG 2):=by
 refine cloneG_ok fun n cs hn hl hno=>?_
 refine SFun.mono (SFun.pieces (Q:=fun l b=>l=.slo 1 0 n 0∧b=[.cells cs (some 2),.cells cs (some 2)]) 8 1 [0,2,4] [2] (by kernel_rfl) rfl rfl rfl ?_) fun l s' ⟨b0,⟨h1,h2⟩,h3⟩=>⟨h1,by rw [h3,h2]⟩
 cases n with
 | zero =>
   have:cs=[]:=List.length_eq_zero_iff.1 (by omega)
   subst this
   refine SSp.to noCx_ok (n:=40) (g:=[]) 2 2 rfl (σ:=Unit) (fun _=>[(0,.slo 0 0 0 0),(4,.unb)]) (fun _=>[.cells [] (some 2)]) (mkS_le (Nat.le_refl _)) (by kernel_rfl) ?_ fun _=>?_
   ·rw [clR_a]; exact⟨rfl,(),[.id 0],by(exact zC)⟩
   refine SSp.code_to (g:=[]) 3 rfl (σ:=Unit) (fun _=>[(0,.slo 0 0 0 0)]) (fun _=>[.cells [] (some 2)]) (by kernel_rfl) ?_ fun _=>?_
   ·refine SCode.unb noCx_ok (n:=40) (by kernel_rfl) (by kernel_rfl) (mkS_le (Nat.le_refl _)) ?_ ?_
    ·rw [clR_t]; exact⟨trivial,rfl,_,_,[.id 0,.none],⟨rfl,rfl⟩,by(exact zC)⟩
    ·rw [clR_f]; exact⟨rfl,(),[.id 0],by(exact zC)⟩
   refine SSp.last noCx_ok (n:=40) (mkS_le (Nat.le_refl _)) ?_
   rw [clR_z]
   exact⟨trivial,rfl,_,_,[.id 0,.cap 1 0 0],⟨rfl,rfl⟩,by(exact zC)⟩
 | succ n =>
   refine SSp.last noCx_ok (n:=40) (mkS_le (Nat.le_refl _)) ?_
   rw [clR_s]
   have e:xcut cs 0 ((n+1) * 2)=cs:=xcut_all (by omega)
   (try simp only [Nat.mul_one] at e)
   (refine zN1 @e ?_)
   (repeat (with_reducible refine must (by(first | with_reducible rfl | exact t_le (by omega) | exact t_eq (by omega) | exact t_nn (by omega) | exact t_lss (by omega) | exact t_leq (by omega) | exact t_gtr (by omega) | exact t_geq (by omega) | exact t_eql (by omega) | exact t_neq (by omega) | exact t_z (by omega) | exact wd_not_f | assumption)) ?_))
   exact⟨trivial,rfl,_,_,[.id 0,.id 2],⟨rfl,rfl⟩,by(exact zC)⟩
theorem clS_s (n:Nat) (cs:List LV) (K:Pk):(xsp prog (fun _=>none) 40 8 ((sp prog 89).drop 0) (tm0 [.slo 0 0 (n+1) 0]) (mkS [.cells cs (some 2)]) (vK [0,2,4] K))=(
 ck (xle (xadd 0 (xmul (n+1) 2)) (xln cs)) <|
 ck (xle (xadd 0 (n+1)) 1000000) <|
 K .ret [.slo 0 0 (n+1) 0,.slo 2 0 (xadd 0 (n+1)) 0,.bool false] [sC cs 2,sN [],sC (xcat [] (xcut cs 0 (xmul (n+1) 2))) 2] []):=by kernel_rfl
theorem clS_a (K:Pk):(xsp prog (fun _=>none) 40 8 (seg (sp prog 89) 0 2) (tm0 [.slo 0 0 0 0]) (mkS [.cells [] (some 2)]) (vK [0,2,4] K))=(
 K .normal [.slo 0 0 0 0,.nils,.unb] [sC [] 2] []):=by kernel_rfl
theorem clS_t (K:Pk):(xcode prog (fun _=>none) 40 8 (condT (nthC (sp prog 89) 2)) (mkTm 8 [(0,.slo 0 0 0 0),(4,.unb)]) (mkS [.cells [] (some 2)]) (vK [0,2,4] K))=(
 K .ret [.slo 0 0 0 0,.nils,.unb] [sC [] 2] []):=by kernel_rfl
theorem clS_f (K:Pk):(xcode prog (fun _=>none) 40 8 (condF (nthC (sp prog 89) 2)) (mkTm 8 [(0,.slo 0 0 0 0),(4,.unb)]) (mkS [.cells [] (some 2)]) (vK [0,2,4] K))=(
 K .normal [.slo 0 0 0 0,.any,.unb] [sC [] 2] []):=by kernel_rfl
theorem clS_z (K:Pk):(xsp prog (fun _=>none) 40 8 ((sp prog 89).drop 3) (mkTm 8 [(0,.slo 0 0 0 0)]) (mkS [.cells [] (some 2)]) (vK [0,2,4] K))=(
 K .ret [.slo 0 0 0 0,.sl 1 0 0 0,.any] [sC [] 2,sN []] []):=by kernel_rfl
theorem clS_ok:GOk prog 89 (cloneG 2):=by
 refine cloneG_ok fun n cs hn hl hno=>?_
 refine SFun.mono (SFun.pieces (Q:=fun l b=>l=.slo 1 0 n 0∧b=[.cells cs (some 2),.cells cs (some 2)]) 8 1 [0,2,4] [2] (by kernel_rfl) rfl rfl rfl ?_) fun l s' ⟨b0,⟨h1,h2⟩,h3⟩=>⟨h1,by rw [h3,h2]⟩
 cases n with
 | zero =>
   have:cs=[]:=List.length_eq_zero_iff.1 (by omega)
   subst this
   refine SSp.to noCx_ok (n:=40) (g:=[]) 2 2 rfl (σ:=Unit) (fun _=>[(0,.slo 0 0 0 0),(4,.unb)]) (fun _=>[.cells [] (some 2)]) (mkS_le (Nat.le_refl _)) (by kernel_rfl) ?_ fun _=>?_
   ·rw [clS_a]; exact⟨rfl,(),[.id 0],by(exact zC)⟩
   refine SSp.code_to (g:=[]) 3 rfl (σ:=Unit) (fun _=>[(0,.slo 0 0 0 0)]) (fun _=>[.cells [] (some 2)]) (by kernel_rfl) ?_ fun _=>?_
   ·refine SCode.unb noCx_ok (n:=40) (by kernel_rfl) (by kernel_rfl) (mkS_le (Nat.le_refl _)) ?_ ?_
    ·rw [clS_t]; exact⟨trivial,rfl,_,_,[.id 0,.none],⟨rfl,rfl⟩,by(exact zC)⟩
    ·rw [clS_f]; exact⟨rfl,(),[.id 0],by(exact zC)⟩
   refine SSp.last noCx_ok (n:=40) (mkS_le (Nat.le_refl _)) ?_
   rw [clS_z]
   exact⟨trivial,rfl,_,_,[.id 0,.cap 1 0 0],⟨rfl,rfl⟩,by(exact zC)⟩
 | succ n =>
   refine SSp.last noCx_ok (n:=40) (mkS_le (Nat.le_refl _)) ?_
   rw [clS_s]
   have e:xcut cs 0 ((n+1) * 2)=cs:=xcut_all (by omega)
   (try simp only [Nat.mul_one] at e)
   (refine zN1 @e ?_)
   (repeat (with_reducible refine must (by(first | with_reducible rfl | exact t_le (by omega) | exact t_eq (by omega) | exact t_nn (by omega) | exact t_lss (by omega) | exact t_leq (by omega) | exact t_gtr (by omega) | exact t_geq (by omega) | exact t_eql (by omega) | exact t_neq (by omega) | exact t_z (by omega) | exact wd_not_f | assumption)) ?_))
   exact⟨trivial,rfl,_,_,[.id 0,.id 2],⟨rfl,rfl⟩,by(exact zC)⟩
def evalG (P:Program) (n f:Nat):Gc:=fun args s=>match lfun P noCtr n f args s with
 | some (l,s')=>some ([],l,s')
 | none=>none
theorem evalG_ok {P:Program} {n f:Nat}:GOk P f (evalG P n f):=by
 intro args s bs l s' hg hb hfr
 unfold evalG at hg
 split at hg
 ·rename_i l1 s1 hf
  simp only [Option.some.injEq,Prod.mk.injEq] at hg
  obtain⟨rfl,rfl,rfl⟩:=hg
  intro W0 r w us hI hu
  have:=(both_sound (P:=P) noCtr_ok n).2 W0 r f args s s1 l1 w us hf hI hu
  exact this.mono fun e w' ⟨u,r',he,k⟩=>⟨_,_,u,r',⟨rfl,rfl⟩,he,k⟩
 ·cases hg
def orG (g h:Gc):Gc:=fun args s=>match g args s with
 | some x=>some x
 | none=>h args s
theorem orG_ok {P:Program} {f:Nat} {g h:Gc} (hg:GOk P f g) (hh:GOk P f h):GOk P f (orG g h):=by
 intro args s bs l s' k hb hfr
 unfold orG at k
 split at k
 ·rename_i x hx; rw [k] at hx; exact hg args s bs l s' hx hb hfr
 ·exact hh args s bs l s' k hb hfr
def emptyG (g:Gc):Gc:=fun args s=>match args with
 | [.slo b 0 0 0]=>g [.slo b 0 0 0] s
 | _=>none
theorem emptyG_ok {P:Program} {f:Nat} {g:Gc} (hg:GOk P f g):GOk P f (emptyG g):=by
 intro args s bs l s' k hb hfr
 unfold emptyG at k
 split at k
 ·exact hg _ s bs l s' k hb hfr
 ·cases k
def clX (f es:Nat):Gc:=orG (emptyG (wrapG (cloneG es))) (evalG prog 100 f)
theorem clX_ok {f es:Nat} (h:GOk prog f (cloneG es)):GOk prog f (clX f es):=orG_ok (emptyG_ok (wrapG_ok h)) evalG_ok
def heldM:Gc:=fun args s=>match args with
 | [.int .i64 (.ofNat (_+4)),.int .i64 0,.int .i64 3]=>some ([],.int .i64 3,s)
 | [.int .i64 (.negSucc _),.int .i64 0,.int .i64 3]=>some ([],.int .i64 0,s)
 | _=>none
theorem heldM_ok:GOk prog 8 heldM:=by
 intro args s bs l s' hg hb hfr
 have h0:∀ (n:Int) (x:Int),hldV n 0 3=x→SFun prog 8 [.int .i64 n,.int .i64 0,.int .i64 3] s fun l1 s1=>l1=.int .i64 x∧s1=s:=fun n x hx=>by
  have:=wrapG_ok heldG_ok [.int .i64 n,.int .i64 0,.int .i64 3] s [] (.int .i64 (hldV n 0 3)) s (by unfold wrapG heldG; rfl) (by simp [allT]) hfr
  rwa [hx] at this
 unfold heldM at hg
 split at hg
 ·rename_i q
  simp only [Option.some.injEq,Prod.mk.injEq] at hg
  obtain⟨rfl,rfl,rfl⟩:=hg
  exact h0 _ _ (by rw [hldV,if_neg (by show ¬ ((q+4:Nat):Int) < 0; omega),if_pos (by show(3:Int) < ((q+4:Nat):Int); omega)])
 ·rename_i q
  simp only [Option.some.injEq,Prod.mk.injEq] at hg
  obtain⟨rfl,rfl,rfl⟩:=hg
  exact h0 _ _ (by rw [hldV,if_pos (Int.negSucc_lt_zero q)])
 ·cases hg
def heldX:Gc:=orG heldM (evalG prog 100 8)
theorem heldX_ok:GOk prog 8 heldX:=orG_ok heldM_ok evalG_ok
def formsL:List LV:=flatD Go.Proofs.YtcgkfbdbbfpofaaGreatDoor.Rows.laid_quietus_code_forms
def gtab:Glb:=[(0,formsL)]
def cxr:Cx:=cxl [(38,clX 38 1),(37,clX 37 2),(73,clX 73 2),(89,clX 89 2),(8,heldX)]
theorem cxr_ok:CtrOk prog (ctrOf cxr):=cxl_ok ⟨clX_ok clI_ok,clX_ok clC_ok,clX_ok clR_ok,clX_ok clS_ok,heldX_ok,trivial⟩
theorem runs27:isTrue (match lfun prog (ctrOf cxr) 20000 4 [] ⟨.leaf,0,gtab⟩ with | some (v,_)=>some v | none=>none)=true:=by kernel_rfl
end
end Go.Lev
