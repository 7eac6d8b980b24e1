/- chapter 29: Order as a contract; trees of the law -/
import Derived.Test.YtagmiaajpkpmjaaCJ9
import Derived.Test.YtagmiaajpkpmjaaLc
import Derived.Test.YtagmiaajpkpmjaaChecked
import Derived.KernelRfl
namespace Go.Lev
set_option linter.unusedSimpArgs false
set_option linter.unusedVariables false
open Go.RowKit
open Go.Proofs.Try (prog)
set_option maxRecDepth 100000
noncomputable section
theorem fl_set {n i:Nat} (h:i < n):(List.range i++List.replicate (n - i) 0).set i i=List.range (i+1)++List.replicate (n - (i+1)) 0:=by
 obtain⟨k,hk⟩:∃ k,n - i=k+1:=⟨n - i - 1,by omega⟩
 rw [hk,show n - (i+1)=k by omega,List.set_append_right _ _ (by simp),List.length_range,Nat.sub_self,List.replicate_succ,List.set_cons_zero,List.range_succ,List.append_assoc]; rfl
theorem od_ok (n:Nat) (c:List LV) (F:World→Prop) (k1:okAt c n=true):SFun prog 7 [.slo 0 0 n 0] (mkS [.ro c] (factG F)) fun l s=>l=.slo 1 0 n 0∧s=mkS [.ro c,.cells (orW c n) (some 1)] (factG F):=by
 refine SFun.mono (SFun.pieces (Q:=fun l b=>l=.slo 1 0 n 0∧b=[.ro c,.cells (orW c n) (some 1)]) 22 1 oL [2] (by kernel_rfl) rfl rfl rfl ?_) fun l s' ⟨b0,⟨h1,h2⟩,h3⟩=>⟨h1,by rw [h3,h2]⟩
 have na:noIds c=true:=okAt_nd k1
 have h2:n≤20:=by obtain⟨ats,_,_,q⟩:=okAt_iff.1 k1; exact q
 have kr:okRg (encL nI (List.range n)) n=true:=okRg_iff.2 rfl
 have nr:=noids_nI (List.range n)
 have no:noIds (orW c n)=true:=noids_nI _
 have z0:xle n n=true:=t_le (Nat.le_refl _)
 have e3:xcm .eql ((n:Nat):Int) (Int.ofNat n)=true:=t_eql rfl
 refine SSp.to cxo_ok (n:=60) (g:=factG F) 3 3 rfl (σ:=Unit) (fun _=>oT n 0) (fun _=>oH n c (encL nI (List.range 0++List.replicate (n - 0) 0))) (mkS_le (Nat.le_of_ble_eq_true rfl)) (by kernel_rfl) ?_ fun _=>?_
 ·have z1:xle n 100000=true:=t_le (by omega)
  have eR:xrep n [.int .i64 0]=encL nI (List.range 0++List.replicate (n - 0) 0):=by
   show xrep n [.int .i64 0]=encL nI (List.replicate n 0)
   exact encL_rep (f:=nI) (0:Nat) n
  have nR:=noids_nI (List.range 0++List.replicate (n - 0) 0)
  have lR:(encL nI (List.range 0++List.replicate (n - 0) 0)).length=n * 1:=by rw [nI_n]; simp
  rw [oq_a]
  simp only [wd_nat,z0,z1,cond_true]
  rw [eR]
  exact⟨rfl,(),[.id 0,.id 1,.cap 2 0 n],by(exact zC)⟩
 try dsimp only
 refine SSp.code_to (g:=factG F) 4 rfl (σ:=Unit) (fun _=>oT n n) (fun _=>oH n c (encL nI (List.range n))) (by kernel_rfl) ?_ fun _=>?_
 ·refine SCode.loop_vc cxo_ok (n:=60) (n0:=1) 0 (by kernel_rfl) (σ:={i:Nat // i≤n}) (fun i=>oT n i.1) (fun i=>oH n c (encL nI (List.range i.1++List.replicate (n - i.1) 0))) (fun i=>n - i.1) (fun _=>Nat.le_of_ble_eq_true rfl) (fun⟨i,hi⟩=>?_) ⟨0,Nat.zero_le _⟩
  dsimp only
  rw [oq_b]
  have nf:=noids_nI (List.range i++List.replicate (n - i) 0)
  by_cases h0:i < n
  ·have y0:xcm .lss ((i:Nat):Int) ((n:Nat):Int)=true:=t_lss (by omega)
   have y1:xle (i+1) n=true:=t_le (by omega)
   have e1:xar .add .i64 (i:Int) 1=((i+1:Nat):Int):=inc_i64 h0 (by omega)
   have lf:=nI_n (List.range i++List.replicate (n - i) 0)
   have ln:(List.range i++List.replicate (n - i) 0).length=n:=by simp; omega
   have s1:=nI_set (xs:=List.range i++List.replicate (n - i) 0) (i:=i) (by rw [ln]; exact h0) i
   rw [fl_set h0] at s1
   have nf1:=noids_nI (List.range (i+1)++List.replicate (n - (i+1)) 0)
   simp only [y0,y1,e1,lf,ln,s1,wd_nat,wd_ix,wd_mul,wd_add,wd_ln,Nat.zero_add,Nat.mul_one,cond_true]
   exact⟨rfl,⟨i+1,h0⟩,by dsimp only; omega,[.id 0,.id 1,.id 2],by(exact zC)⟩
  ·obtain rfl:i=n:=by omega
   have y0:xcm .lss ((i:Nat):Int) ((i:Nat):Int)=false:=f_lss (by omega)
   have ef:List.range i++List.replicate (i - i) 0=List.range i:=by simp
   rw [ef]
   simp only [y0,cond_false]
   exact⟨rfl,(),[.id 0,.id 1,.id 2],by(exact zC)⟩
 try dsimp only
 refine SSp.to cxo_ok (n:=60) (g:=factG F) 1 5 rfl (σ:=Unit) (fun _=>oT2 n) (fun _=>oH n c (orW c n)) (mkS_le (Nat.le_of_ble_eq_true rfl)) (by kernel_rfl) ?_ fun _=>?_
 ·rw [oq_c]
  simp only [k1,kr,e3,z0,cond_true]
  exact⟨rfl,(),[.id 0,.id 1,.id 2],by(exact zC)⟩
 try dsimp only
 refine zE cxo_ok ?_
 rw [oq_z]
 exact⟨trivial,rfl,_,_,[.id 0,.id 2],⟨rfl,rfl⟩,by(exact zC)⟩
def odG:Gc:=fun args s=>match args,s.g with
 | [.slo a 0 n 0],[(0,[.fact F])]=>(match s.h.get a with
   | some (.ro c)=>(match s.lay [a] [.ro c] [.cells (orW c n) (some 1)] with
     | some s'=>some ([okAt c n],.slo s.n 0 n 0,s')
     | none=>none)
   | _=>none)
 | _,_=>none
theorem odG_ok:GOk prog 7 odG:=by
 intro args s bs l s' hg hb hfr
 unfold odG at hg
 split at hg
 ·rename_i a n F hgl
  split at hg
  ·rename_i c hb0
   split at hg
   ·rename_i s1 hs1
    simp only [Option.some.injEq,Prod.mk.injEq] at hg
    obtain⟨rfl,rfl,rfl⟩:=hg
    simp only [allT_cons] at hb
    obtain⟨k1,_⟩:=hb
    have nc:noIds c=true:=okAt_nd k1
    refine SFun.lay (bs:=[.ro c]) (args0:=[.slo 0 0 n 0]) (bs':=[.ro c,.cells (orW c n) (some 1)]) (v0:=.slo 1 0 n 0) hfr hs1 (by simp)
     ⟨⟨there hfr hb0,_,hb0,lb_ro (by(exact zId)),fun κ hκ=>lb_ro (by(exact zId))⟩,trivial⟩ (by(exact zTl)) ?_
     fun κ h1 h2=>⟨⟨lb_ro (by(exact zId)),lb_same (noids_nI _),trivial⟩,lw_slo (h2 0 (by simp))⟩
    rw [hgl]; exact(od_ok n c F k1)
   ·cases hg
  ·cases hg
 ·cases hg
def okN0 (c:List LV):Bool:=noIds c
theorem at0_ok (n:Nat) (c:List LV) (F:World→Prop) (k1:okN0 c=true) (k2:xle n 0=true):SFun prog 6 [.slo 0 0 n 0,.bool false] (mkS [.ro c] (factG F)) fun l s=>l=.slo 1 0 0 0∧s=mkS [.ro c,.cells [] (some 14),.dead,.dead,.dead] (factG F):=by
 refine SFun.mono (SFun.pieces (Q:=fun l b=>l=.slo 1 0 0 0∧b=[.ro c,.cells [] (some 14),.dead,.dead,.dead]) 140 1 dL [4] (by kernel_rfl) rfl rfl rfl ?_) fun l s' ⟨b0,⟨h1,h2⟩,h3⟩=>⟨h1,by rw [h3,h2]⟩
 have nc:noIds c=true:=k1
 rw [wd_le,decide_eq_true_eq] at k2
 obtain rfl:n=0:=by omega
 refine SSp.to cxd_ok (n:=60) (g:=factG F) 3 3 rfl (σ:=Unit) (fun _=>dT0 0 0) (fun _=>dH0 c [] .dead) (mkS_le (Nat.le_of_ble_eq_true rfl)) (by kernel_rfl) ?_ fun _=>?_
 ·rw [at_0]; exact⟨rfl,(),[.id 0,.none,.none,.none],by(exact zC)⟩
 try dsimp only
 refine SSp.code_to (g:=factG F) 4 rfl (σ:=Unit) (fun _=>dT0 0 0) (fun _=>dH0 c [] .dead) (by kernel_rfl) ?_ fun _=>?_
 ·refine SCode.loop_sp 0 (by kernel_rfl) (σ:=Unit) (fun p=>dT0 0 0) (fun p=>dH0 c [] .dead) (fun p=>0) (fun _=>Nat.le_of_ble_eq_true rfl) (fun _=>?_) ()
  refine SSp.to cxd_ok (n:=60) (g:=factG F) 2 2 rfl (σ:=Empty) (fun _=>[]) (fun _=>[]) (mkS_le (Nat.le_of_ble_eq_true rfl)) (by kernel_rfl) ?_ fun z=>nomatch z
  rw [at_a]
  have y0:xcm .lss ((0:Nat):Int) ((0:Nat):Int)=false:=f_lss (by omega)
  simp only [y0,cond_false]
  exact⟨rfl,(),[.id 0,.id 1,.none,.none],by(exact zC)⟩
 try dsimp only
 refine zE cxd_ok ?_
 rw [at_z]
 exact⟨trivial,rfl,_,_,[.id 0,.id 1,.none,.none,.none],⟨rfl,rfl⟩,by(exact zC)⟩
def at0G:Gc:=fun args s=>match args,s.g with
 | [.slo d 0 n 0,.bool false],[(0,[.fact F])]=>(match s.h.get d with
   | some (.ro c)=>(match s.lay [d] [.ro c] [.cells [] (some 14),.dead,.dead,.dead] with
     | some s'=>some ([okN0 c,xle n 0],.slo s.n 0 0 0,s')
     | none=>none)
   | _=>none)
 | _,_=>none
theorem at0G_ok:GOk prog 6 at0G:=by
 intro args s bs l s' hg hb hfr
 unfold at0G at hg
 split at hg
 ·rename_i d n F hgl
  split at hg
  ·rename_i c hb0
   split at hg
   ·rename_i s1 hs1
    simp only [Option.some.injEq,Prod.mk.injEq] at hg
    obtain⟨rfl,rfl,rfl⟩:=hg
    simp only [allT_cons] at hb
    obtain⟨k1,k2,_⟩:=hb
    have nc:noIds c=true:=k1
    refine SFun.lay (bs:=[.ro c]) (args0:=[.slo 0 0 n 0,.bool false]) (bs':=[.ro c,.cells [] (some 14),.dead,.dead,.dead]) (v0:=.slo 1 0 0 0) hfr hs1 (by simp)
     ⟨⟨there hfr hb0,_,hb0,lb_ro (by(exact zId)),fun κ hκ=>lb_ro (by(exact zId))⟩,trivial⟩ (by(exact zTl)) ?_
     fun κ h1 h2=>⟨⟨lb_ro (by(exact zId)),lb_cells lws_nil (by simp),lb_dead,lb_dead,lb_dead,trivial⟩,lw_slo (h2 0 (by simp))⟩
    rw [hgl]; exact(at0_ok n c F k1 k2)
   ·cases hg
  ·cases hg
 ·cases hg
theorem runs29:isTrue (lrun prog 20000 5 [])=true:=by kernel_rfl
def rnG:Gc:=fun args s=>match args with
 | []=>some ([],.bool true,s)
 | _=>none
def cxl1:Cx:=cxl [(5,rnG),(6,atG)]
def cxl0:Cx:=cxl [(5,rnG),(6,at0G)]
def cxl2:Cx:=cxl [(7,odG),(8,wrapG leG)]
abbrev lS:List Code:=sp prog 3
abbrev lL:List Nat:=[0,2,3,4,5,6]
abbrev lT0 (m:Nat):List (Nat×LV):=[(3,.slo 1 0 m 0)]
abbrev lT (m i:Nat):List (Nat×LV):=[(3,.slo 0 0 m 0),(4,.slo 1 0 m 0),(5,.slo 2 0 m 0),(6,.int .i64 i)]
abbrev lH (ax ox bx:List LV):List LB:=[.ro ax,.cells ox (some 1),.cells bx (some 1)]
theorem rnG_ok:GOk prog 5 rnG:=by
 intro args s bs l s' hg hb hfr
 unfold rnG at hg
 split at hg
 ·simp only [Option.some.injEq,Prod.mk.injEq] at hg
  obtain⟨rfl,rfl,rfl⟩:=hg
  refine SFun.still fun W0 r w us hI hu=>?_
  simp only [VRs] at hu
  subst hu
  refine(run_true_of (P:=prog) (f:=5) (g:=[]) runs29 w (fun x hx=>by cases hx)).mono fun e w' h=>?_
  exact⟨_,h.1,by simp only [VR],h.2⟩
 ·cases hg
theorem cxl1_ok:CtrOk prog (ctrOf cxl1):=cxl_ok ⟨rnG_ok,atG_ok,trivial⟩
theorem cxl0_ok:CtrOk prog (ctrOf cxl0):=cxl_ok ⟨rnG_ok,at0G_ok,trivial⟩
theorem cxl2_ok:CtrOk prog (ctrOf cxl2):=cxl_ok ⟨odG_ok,wrapG_ok leG_ok,trivial⟩
theorem la_1 (n:Nat) (dx:List LV) (F:World→Prop) (K:Pk):(xsp prog cxl1 60 115 (seg lS 0 4) (tm0 [.slo 0 0 n 0]) (mkS [.ro dx] (factG F)) (vK lL K))=(
 ck (okDr F dx n) <|
 K .normal [.slo 0 0 n 0,.bool false,.slo 1 0 (m20 n) 0,.tup [],.tup [],.tup []] [some (.ro dx),some (.obj atF [.int .i64 (Int.ofNat (m20 n))] 2),sD] (factG F)):=by kernel_rfl
theorem la_0 (n:Nat) (dx:List LV) (F:World→Prop) (K:Pk):(xsp prog cxl0 60 115 (seg lS 0 4) (tm0 [.slo 0 0 n 0]) (mkS [.ro dx] (factG F)) (vK lL K))=(
 ck (okN0 dx) <|
 ck (xle n 0) <|
 K .normal [.slo 0 0 n 0,.bool false,.slo 1 0 0 0,.tup [],.tup [],.tup []] [some (.ro dx),sC [] 14,sD,sD,sD] (factG F)):=by kernel_rfl
theorem la_b (m:Nat) (dx ax:List LV) (F:World→Prop) (K:Pk):(xsp prog cxl2 60 115 (seg lS 4 5) (mkTm 115 (lT0 m)) (mkS [.ro dx,.ro ax,.dead,.dead,.dead] (factG F)) (vK lL K))=(
 ck (okAt ax m) <|
 bif xcm .neq ↑m ↑m then(
 K .ret [.any,.bool false,.slo 1 0 m 0,.slo 5 0 m 0,.any,.any] [some (.ro dx),some (.ro ax),sD,sD,sD,sC (orW ax m) 1] (factG F))
 else(
 ck (xle (xnat ↑m) (xnat ↑m)) <|
 ck (xle (xnat ↑m) 100000) <|
 K .normal [.any,.any,.slo 1 0 m 0,.slo 5 0 m 0,.sl 6 0 (xnat ↑m) (xnat ↑m),.int .i64 0] [some (.ro dx),some (.ro ax),sD,sD,sD,sC (orW ax m) 1,sN (xrep (xnat ↑m) [.bool false])] (factG F))):=by kernel_rfl
abbrev la_c_b1 (i:Nat) (ax:List LV) (ox:List LV) (bx:List LV):List (Option LB):=[some (.ro ax),sC ox 1,sC (xlay bx (xix 0 (xnat (asI (nthD ox (xix 0 (xnat ↑i) 1)))) 1) [.bool true]) 1,sN [.int .i64 (asI (nthD ax (xix 0 (xnat (asI (nthD ox (xix 0 (xnat ↑i) 1)))) 14))),.int .i64 (asI (nthD ax (xadd (xix 0 (xnat (asI (nthD ox (xix 0 (xnat ↑i) 1)))) 14) 1))),.int .i64 (asI (nthD ax (xadd (xadd (xix 0 (xnat (asI (nthD ox (xix 0 (xnat ↑i) 1)))) 14) 1) 1))),.bool (asB (nthD ax (xadd (xadd (xadd (xix 0 (xnat (asI (nthD ox (xix 0 (xnat ↑i) 1)))) 14) 1) 1) 1))),.int .i64 (asI (nthD ax (xadd (xadd (xadd (xadd (xix 0 (xnat (asI (nthD ox (xix 0 (xnat ↑i) 1)))) 14) 1) 1) 1) 1))),.int .i64 (asI (nthD ax (xadd (xadd (xadd (xadd (xadd (xix 0 (xnat (asI (nthD ox (xix 0 (xnat ↑i) 1)))) 14) 1) 1) 1) 1) 1))),.int .u64 (asI (nthD ax (xadd (xadd (xadd (xadd (xadd (xadd (xix 0 (xnat (asI (nthD ox (xix 0 (xnat ↑i) 1)))) 14) 1) 1) 1) 1) 1) 1))),.int .u64 (asI (nthD ax (xadd (xadd (xadd (xadd (xadd (xadd (xadd (xix 0 (xnat (asI (nthD ox (xix 0 (xnat ↑i) 1)))) 14) 1) 1) 1) 1) 1) 1) 1))),.int .i64 (asI (nthD ax (xadd (xadd (xadd (xadd (xadd (xadd (xadd (xadd (xix 0 (xnat (asI (nthD ox (xix 0 (xnat ↑i) 1)))) 14) 1) 1) 1) 1) 1) 1) 1) 1))),.int .i64 (asI (nthD ax (xadd (xadd (xadd (xadd (xadd (xadd (xadd (xadd (xadd (xix 0 (xnat (asI (nthD ox (xix 0 (xnat ↑i) 1)))) 14) 1) 1) 1) 1) 1) 1) 1) 1) 1))),.val (asV (nthD ax (xadd (xadd (xadd (xadd (xadd (xadd (xadd (xadd (xadd (xadd (xix 0 (xnat (asI (nthD ox (xix 0 (xnat ↑i) 1)))) 14) 1) 1) 1) 1) 1) 1) 1) 1) 1) 1))),.val (asV (nthD ax (xadd (xadd (xadd (xadd (xadd (xadd (xadd (xadd (xadd (xadd (xadd (xix 0 (xnat (asI (nthD ox (xix 0 (xnat ↑i) 1)))) 14) 1) 1) 1) 1) 1) 1) 1) 1) 1) 1) 1))),.val (asV (nthD ax (xadd (xadd (xadd (xadd (xadd (xadd (xadd (xadd (xadd (xadd (xadd (xadd (xix 0 (xnat (asI (nthD ox (xix 0 (xnat ↑i) 1)))) 14) 1) 1) 1) 1) 1) 1) 1) 1) 1) 1) 1) 1))),.str (asS (nthD ax (xadd (xadd (xadd (xadd (xadd (xadd (xadd (xadd (xadd (xadd (xadd (xadd (xadd (xix 0 (xnat (asI (nthD ox (xix 0 (xnat ↑i) 1)))) 14) 1) 1) 1) 1) 1) 1) 1) 1) 1) 1) 1) 1) 1)))],sN [.int .i64 (asI (nthD ax (xix 0 (xnat (asI (nthD ox (xix 0 (xnat (xar .sub .i64 (↑i) 1)) 1)))) 14))),.int .i64 (asI (nthD ax (xadd (xix 0 (xnat (asI (nthD ox (xix 0 (xnat (xar .sub .i64 (↑i) 1)) 1)))) 14) 1))),.int .i64 (asI (nthD ax (xadd (xadd (xix 0 (xnat (asI (nthD ox (xix 0 (xnat (xar .sub .i64 (↑i) 1)) 1)))) 14) 1) 1))),.bool (asB (nthD ax (xadd (xadd (xadd (xix 0 (xnat (asI (nthD ox (xix 0 (xnat (xar .sub .i64 (↑i) 1)) 1)))) 14) 1) 1) 1))),.int .i64 (asI (nthD ax (xadd (xadd (xadd (xadd (xix 0 (xnat (asI (nthD ox (xix 0 (xnat (xar .sub .i64 (↑i) 1)) 1)))) 14) 1) 1) 1) 1))),.int .i64 (asI (nthD ax (xadd (xadd (xadd (xadd (xadd (xix 0 (xnat (asI (nthD ox (xix 0 (xnat (xar .sub .i64 (↑i) 1)) 1)))) 14) 1) 1) 1) 1) 1))),.int .u64 (asI (nthD ax (xadd (xadd (xadd (xadd (xadd (xadd (xix 0 (xnat (asI (nthD ox (xix 0 (xnat (xar .sub .i64 (↑i) 1)) 1)))) 14) 1) 1) 1) 1) 1) 1))),.int .u64 (asI (nthD ax (xadd (xadd (xadd (xadd (xadd (xadd (xadd (xix 0 (xnat (asI (nthD ox (xix 0 (xnat (xar .sub .i64 (↑i) 1)) 1)))) 14) 1) 1) 1) 1) 1) 1) 1))),.int .i64 (asI (nthD ax (xadd (xadd (xadd (xadd (xadd (xadd (xadd (xadd (xix 0 (xnat (asI (nthD ox (xix 0 (xnat (xar .sub .i64 (↑i) 1)) 1)))) 14) 1) 1) 1) 1) 1) 1) 1) 1))),.int .i64 (asI (nthD ax (xadd (xadd (xadd (xadd (xadd (xadd (xadd (xadd (xadd (xix 0 (xnat (asI (nthD ox (xix 0 (xnat (xar .sub .i64 (↑i) 1)) 1)))) 14) 1) 1) 1) 1) 1) 1) 1) 1) 1))),.val (asV (nthD ax (xadd (xadd (xadd (xadd (xadd (xadd (xadd (xadd (xadd (xadd (xix 0 (xnat (asI (nthD ox (xix 0 (xnat (xar .sub .i64 (↑i) 1)) 1)))) 14) 1) 1) 1) 1) 1) 1) 1) 1) 1) 1))),.val (asV (nthD ax (xadd (xadd (xadd (xadd (xadd (xadd (xadd (xadd (xadd (xadd (xadd (xix 0 (xnat (asI (nthD ox (xix 0 (xnat (xar .sub .i64 (↑i) 1)) 1)))) 14) 1) 1) 1) 1) 1) 1) 1) 1) 1) 1) 1))),.val (asV (nthD ax (xadd (xadd (xadd (xadd (xadd (xadd (xadd (xadd (xadd (xadd (xadd (xadd (xix 0 (xnat (asI (nthD ox (xix 0 (xnat (xar .sub .i64 (↑i) 1)) 1)))) 14) 1) 1) 1) 1) 1) 1) 1) 1) 1) 1) 1) 1))),.str (asS (nthD ax (xadd (xadd (xadd (xadd (xadd (xadd (xadd (xadd (xadd (xadd (xadd (xadd (xadd (xix 0 (xnat (asI (nthD ox (xix 0 (xnat (xar .sub .i64 (↑i) 1)) 1)))) 14) 1) 1) 1) 1) 1) 1) 1) 1) 1) 1) 1) 1) 1)))]]
theorem la_c (m i:Nat) (ax ox bx:List LV) (F:World→Prop) (K:Pk):(xcode prog cxl2 60 115 (loopOf (nthC lS 9)) (mkTm 115 (lT m i)) (mkS (lH ax ox bx) (factG F)) (vK lL K))=(
 bif xcm .lss ↑i ↑m then(
 ck (xle (xadd (xnat ↑i) 1) m) <|
 ck (xle (xadd (xix 0 (xnat ↑i) 1) 1) (xln ox)) <|
 ck (isI .i64 (nthD ox (xix 0 (xnat ↑i) 1))) <|
 bif xcm .lss (asI (nthD ox (xix 0 (xnat ↑i) 1))) 0 then(
 K .ret [.any,.bool false,.slo 0 0 m 0,.slo 1 0 m 0,.slo 2 0 m 0,.int .i64 ↑i] [some (.ro ax),sC ox 1,sC bx 1] (factG F))
 else(
 ck (xle (xadd (xnat ↑i) 1) m) <|
 ck (xle (xadd (xix 0 (xnat ↑i) 1) 1) (xln ox)) <|
 ck (isI .i64 (nthD ox (xix 0 (xnat ↑i) 1))) <|
 bif xcm .geq (asI (nthD ox (xix 0 (xnat ↑i) 1))) ↑m then(
 K .ret [.any,.bool false,.slo 0 0 m 0,.slo 1 0 m 0,.slo 2 0 m 0,.int .i64 ↑i] [some (.ro ax),sC ox 1,sC bx 1] (factG F))
 else(
 ck (xle (xadd (xnat ↑i) 1) m) <|
 ck (xle (xadd (xix 0 (xnat ↑i) 1) 1) (xln ox)) <|
 ck (isI .i64 (nthD ox (xix 0 (xnat ↑i) 1))) <|
 ck (xnn (asI (nthD ox (xix 0 (xnat ↑i) 1)))) <|
 ck (xle (xadd (xnat (asI (nthD ox (xix 0 (xnat ↑i) 1)))) 1) m) <|
 ck (xle (xadd (xix 0 (xnat (asI (nthD ox (xix 0 (xnat ↑i) 1)))) 1) 1) (xln bx)) <|
 ck (isB (nthD bx (xix 0 (xnat (asI (nthD ox (xix 0 (xnat ↑i) 1)))) 1))) <|
 bif asB (nthD bx (xix 0 (xnat (asI (nthD ox (xix 0 (xnat ↑i) 1)))) 1)) then(
 K .ret [.any,.bool false,.slo 0 0 m 0,.slo 1 0 m 0,.slo 2 0 m 0,.int .i64 ↑i] [some (.ro ax),sC ox 1,sC bx 1] (factG F))
 else(
 ck (xle (xadd (xnat ↑i) 1) m) <|
 ck (xle (xadd (xix 0 (xnat ↑i) 1) 1) (xln ox)) <|
 ck (isI .i64 (nthD ox (xix 0 (xnat ↑i) 1))) <|
 ck (xnn (asI (nthD ox (xix 0 (xnat ↑i) 1)))) <|
 ck (xle (xadd (xnat (asI (nthD ox (xix 0 (xnat ↑i) 1)))) 1) m) <|
 ck (xle (xadd (xix 0 (xnat (asI (nthD ox (xix 0 (xnat ↑i) 1)))) 1) 1) (xln bx)) <|
 bif xcm .eql (↑i) 0 then(
 K .normal [.any,.any,.slo 0 0 m 0,.slo 1 0 m 0,.slo 2 0 m 0,.int .i64 (xar .add .i64 (↑i) 1)] [some (.ro ax),sC ox 1,sC (xlay bx (xix 0 (xnat (asI (nthD ox (xix 0 (xnat ↑i) 1)))) 1) [.bool true]) 1] (factG F))
 else(
 ck (xnn (xar .sub .i64 (↑i) 1)) <|
 ck (xle (xadd (xnat (xar .sub .i64 (↑i) 1)) 1) m) <|
 ck (xle (xadd (xix 0 (xnat (xar .sub .i64 (↑i) 1)) 1) 1) (xln ox)) <|
 ck (isI .i64 (nthD ox (xix 0 (xnat (xar .sub .i64 (↑i) 1)) 1))) <|
 ck (xnn (asI (nthD ox (xix 0 (xnat (xar .sub .i64 (↑i) 1)) 1)))) <|
 ck (xle (xadd (xnat (asI (nthD ox (xix 0 (xnat (xar .sub .i64 (↑i) 1)) 1)))) 1) m) <|
 ck (xle (xadd (xix 0 (xnat (asI (nthD ox (xix 0 (xnat (xar .sub .i64 (↑i) 1)) 1)))) 14) 14) (xln ax)) <|
 ck (isI .i64 (nthD ax (xix 0 (xnat (asI (nthD ox (xix 0 (xnat (xar .sub .i64 (↑i) 1)) 1)))) 14))) <|
 ck (isI .i64 (nthD ax (xadd (xix 0 (xnat (asI (nthD ox (xix 0 (xnat (xar .sub .i64 (↑i) 1)) 1)))) 14) 1))) <|
 ck (isI .i64 (nthD ax (xadd (xadd (xix 0 (xnat (asI (nthD ox (xix 0 (xnat (xar .sub .i64 (↑i) 1)) 1)))) 14) 1) 1))) <|
 ck (isB (nthD ax (xadd (xadd (xadd (xix 0 (xnat (asI (nthD ox (xix 0 (xnat (xar .sub .i64 (↑i) 1)) 1)))) 14) 1) 1) 1))) <|
 ck (isI .i64 (nthD ax (xadd (xadd (xadd (xadd (xix 0 (xnat (asI (nthD ox (xix 0 (xnat (xar .sub .i64 (↑i) 1)) 1)))) 14) 1) 1) 1) 1))) <|
 ck (isI .i64 (nthD ax (xadd (xadd (xadd (xadd (xadd (xix 0 (xnat (asI (nthD ox (xix 0 (xnat (xar .sub .i64 (↑i) 1)) 1)))) 14) 1) 1) 1) 1) 1))) <|
 ck (isI .u64 (nthD ax (xadd (xadd (xadd (xadd (xadd (xadd (xix 0 (xnat (asI (nthD ox (xix 0 (xnat (xar .sub .i64 (↑i) 1)) 1)))) 14) 1) 1) 1) 1) 1) 1))) <|
 ck (isI .u64 (nthD ax (xadd (xadd (xadd (xadd (xadd (xadd (xadd (xix 0 (xnat (asI (nthD ox (xix 0 (xnat (xar .sub .i64 (↑i) 1)) 1)))) 14) 1) 1) 1) 1) 1) 1) 1))) <|
 ck (isI .i64 (nthD ax (xadd (xadd (xadd (xadd (xadd (xadd (xadd (xadd (xix 0 (xnat (asI (nthD ox (xix 0 (xnat (xar .sub .i64 (↑i) 1)) 1)))) 14) 1) 1) 1) 1) 1) 1) 1) 1))) <|
 ck (isI .i64 (nthD ax (xadd (xadd (xadd (xadd (xadd (xadd (xadd (xadd (xadd (xix 0 (xnat (asI (nthD ox (xix 0 (xnat (xar .sub .i64 (↑i) 1)) 1)))) 14) 1) 1) 1) 1) 1) 1) 1) 1) 1))) <|
 ck (isV (nthD ax (xadd (xadd (xadd (xadd (xadd (xadd (xadd (xadd (xadd (xadd (xix 0 (xnat (asI (nthD ox (xix 0 (xnat (xar .sub .i64 (↑i) 1)) 1)))) 14) 1) 1) 1) 1) 1) 1) 1) 1) 1) 1))) <|
 ck (isV (nthD ax (xadd (xadd (xadd (xadd (xadd (xadd (xadd (xadd (xadd (xadd (xadd (xix 0 (xnat (asI (nthD ox (xix 0 (xnat (xar .sub .i64 (↑i) 1)) 1)))) 14) 1) 1) 1) 1) 1) 1) 1) 1) 1) 1) 1))) <|
 ck (isV (nthD ax (xadd (xadd (xadd (xadd (xadd (xadd (xadd (xadd (xadd (xadd (xadd (xadd (xix 0 (xnat (asI (nthD ox (xix 0 (xnat (xar .sub .i64 (↑i) 1)) 1)))) 14) 1) 1) 1) 1) 1) 1) 1) 1) 1) 1) 1) 1))) <|
 ck (isS (nthD ax (xadd (xadd (xadd (xadd (xadd (xadd (xadd (xadd (xadd (xadd (xadd (xadd (xadd (xix 0 (xnat (asI (nthD ox (xix 0 (xnat (xar .sub .i64 (↑i) 1)) 1)))) 14) 1) 1) 1) 1) 1) 1) 1) 1) 1) 1) 1) 1) 1))) <|
 ck (xle (xadd (xnat ↑i) 1) m) <|
 ck (xle (xadd (xix 0 (xnat ↑i) 1) 1) (xln ox)) <|
 ck (isI .i64 (nthD ox (xix 0 (xnat ↑i) 1))) <|
 ck (xnn (asI (nthD ox (xix 0 (xnat ↑i) 1)))) <|
 ck (xle (xadd (xnat (asI (nthD ox (xix 0 (xnat ↑i) 1)))) 1) m) <|
 ck (xle (xadd (xix 0 (xnat (asI (nthD ox (xix 0 (xnat ↑i) 1)))) 14) 14) (xln ax)) <|
 ck (isI .i64 (nthD ax (xix 0 (xnat (asI (nthD ox (xix 0 (xnat ↑i) 1)))) 14))) <|
 ck (isI .i64 (nthD ax (xadd (xix 0 (xnat (asI (nthD ox (xix 0 (xnat ↑i) 1)))) 14) 1))) <|
 ck (isI .i64 (nthD ax (xadd (xadd (xix 0 (xnat (asI (nthD ox (xix 0 (xnat ↑i) 1)))) 14) 1) 1))) <|
 ck (isB (nthD ax (xadd (xadd (xadd (xix 0 (xnat (asI (nthD ox (xix 0 (xnat ↑i) 1)))) 14) 1) 1) 1))) <|
 ck (isI .i64 (nthD ax (xadd (xadd (xadd (xadd (xix 0 (xnat (asI (nthD ox (xix 0 (xnat ↑i) 1)))) 14) 1) 1) 1) 1))) <|
 ck (isI .i64 (nthD ax (xadd (xadd (xadd (xadd (xadd (xix 0 (xnat (asI (nthD ox (xix 0 (xnat ↑i) 1)))) 14) 1) 1) 1) 1) 1))) <|
 ck (isI .u64 (nthD ax (xadd (xadd (xadd (xadd (xadd (xadd (xix 0 (xnat (asI (nthD ox (xix 0 (xnat ↑i) 1)))) 14) 1) 1) 1) 1) 1) 1))) <|
 ck (isI .u64 (nthD ax (xadd (xadd (xadd (xadd (xadd (xadd (xadd (xix 0 (xnat (asI (nthD ox (xix 0 (xnat ↑i) 1)))) 14) 1) 1) 1) 1) 1) 1) 1))) <|
 ck (isI .i64 (nthD ax (xadd (xadd (xadd (xadd (xadd (xadd (xadd (xadd (xix 0 (xnat (asI (nthD ox (xix 0 (xnat ↑i) 1)))) 14) 1) 1) 1) 1) 1) 1) 1) 1))) <|
 ck (isI .i64 (nthD ax (xadd (xadd (xadd (xadd (xadd (xadd (xadd (xadd (xadd (xix 0 (xnat (asI (nthD ox (xix 0 (xnat ↑i) 1)))) 14) 1) 1) 1) 1) 1) 1) 1) 1) 1))) <|
 ck (isV (nthD ax (xadd (xadd (xadd (xadd (xadd (xadd (xadd (xadd (xadd (xadd (xix 0 (xnat (asI (nthD ox (xix 0 (xnat ↑i) 1)))) 14) 1) 1) 1) 1) 1) 1) 1) 1) 1) 1))) <|
 ck (isV (nthD ax (xadd (xadd (xadd (xadd (xadd (xadd (xadd (xadd (xadd (xadd (xadd (xix 0 (xnat (asI (nthD ox (xix 0 (xnat ↑i) 1)))) 14) 1) 1) 1) 1) 1) 1) 1) 1) 1) 1) 1))) <|
 ck (isV (nthD ax (xadd (xadd (xadd (xadd (xadd (xadd (xadd (xadd (xadd (xadd (xadd (xadd (xix 0 (xnat (asI (nthD ox (xix 0 (xnat ↑i) 1)))) 14) 1) 1) 1) 1) 1) 1) 1) 1) 1) 1) 1) 1))) <|
 ck (isS (nthD ax (xadd (xadd (xadd (xadd (xadd (xadd (xadd (xadd (xadd (xadd (xadd (xadd (xadd (xix 0 (xnat (asI (nthD ox (xix 0 (xnat ↑i) 1)))) 14) 1) 1) 1) 1) 1) 1) 1) 1) 1) 1) 1) 1) 1))) <|
 ck (xle (xadd (xix 0 (xnat (xar .sub .i64 (↑i) 1)) 1) 1) (xln ox)) <|
 ck (isI .i64 (nthD ox (xix 0 (xnat (xar .sub .i64 (↑i) 1)) 1))) <|
 ck (xcm .eql (asI (nthD ox (xix 0 (xnat (xar .sub .i64 (↑i) 1)) 1))) (asI (nthD ox (xix 0 (xnat (xar .sub .i64 (↑i) 1)) 1)))) <|
 ck (xle (xadd (xix 0 (xnat (xar .sub .i64 (↑i) 1)) 1) 1) (xln ox)) <|
 ck (isI .i64 (nthD ox (xix 0 (xnat (xar .sub .i64 (↑i) 1)) 1))) <|
 ck (xcm .eql (asI (nthD ox (xix 0 (xnat (xar .sub .i64 (↑i) 1)) 1))) (asI (nthD ox (xix 0 (xnat (xar .sub .i64 (↑i) 1)) 1)))) <|
 ck (xle (xadd (xix 0 (xnat (xar .sub .i64 (↑i) 1)) 1) 1) (xln ox)) <|
 ck (isI .i64 (nthD ox (xix 0 (xnat (xar .sub .i64 (↑i) 1)) 1))) <|
 ck (xcm .eql (asI (nthD ox (xix 0 (xnat (xar .sub .i64 (↑i) 1)) 1))) (asI (nthD ox (xix 0 (xnat (xar .sub .i64 (↑i) 1)) 1)))) <|
 ck (xle (xadd (xix 0 (xnat (xar .sub .i64 (↑i) 1)) 1) 1) (xln ox)) <|
 ck (isI .i64 (nthD ox (xix 0 (xnat (xar .sub .i64 (↑i) 1)) 1))) <|
 ck (xcm .eql (asI (nthD ox (xix 0 (xnat (xar .sub .i64 (↑i) 1)) 1))) (asI (nthD ox (xix 0 (xnat (xar .sub .i64 (↑i) 1)) 1)))) <|
 ck (xle (xadd (xix 0 (xnat (asI (nthD ox (xix 0 (xnat (xar .sub .i64 (↑i) 1)) 1)))) 14) 14) (xln ax)) <|
 ck (isI .i64 (nthD ax (xix 0 (xnat (asI (nthD ox (xix 0 (xnat (xar .sub .i64 (↑i) 1)) 1)))) 14))) <|
 ck (isI .i64 (nthD ax (xadd (xix 0 (xnat (asI (nthD ox (xix 0 (xnat (xar .sub .i64 (↑i) 1)) 1)))) 14) 1))) <|
 ck (isI .i64 (nthD ax (xadd (xadd (xix 0 (xnat (asI (nthD ox (xix 0 (xnat (xar .sub .i64 (↑i) 1)) 1)))) 14) 1) 1))) <|
 ck (isB (nthD ax (xadd (xadd (xadd (xix 0 (xnat (asI (nthD ox (xix 0 (xnat (xar .sub .i64 (↑i) 1)) 1)))) 14) 1) 1) 1))) <|
 ck (isI .i64 (nthD ax (xadd (xadd (xadd (xadd (xix 0 (xnat (asI (nthD ox (xix 0 (xnat (xar .sub .i64 (↑i) 1)) 1)))) 14) 1) 1) 1) 1))) <|
 ck (isI .i64 (nthD ax (xadd (xadd (xadd (xadd (xadd (xix 0 (xnat (asI (nthD ox (xix 0 (xnat (xar .sub .i64 (↑i) 1)) 1)))) 14) 1) 1) 1) 1) 1))) <|
 ck (isI .u64 (nthD ax (xadd (xadd (xadd (xadd (xadd (xadd (xix 0 (xnat (asI (nthD ox (xix 0 (xnat (xar .sub .i64 (↑i) 1)) 1)))) 14) 1) 1) 1) 1) 1) 1))) <|
 ck (isI .u64 (nthD ax (xadd (xadd (xadd (xadd (xadd (xadd (xadd (xix 0 (xnat (asI (nthD ox (xix 0 (xnat (xar .sub .i64 (↑i) 1)) 1)))) 14) 1) 1) 1) 1) 1) 1) 1))) <|
 ck (isI .i64 (nthD ax (xadd (xadd (xadd (xadd (xadd (xadd (xadd (xadd (xix 0 (xnat (asI (nthD ox (xix 0 (xnat (xar .sub .i64 (↑i) 1)) 1)))) 14) 1) 1) 1) 1) 1) 1) 1) 1))) <|
 ck (isI .i64 (nthD ax (xadd (xadd (xadd (xadd (xadd (xadd (xadd (xadd (xadd (xix 0 (xnat (asI (nthD ox (xix 0 (xnat (xar .sub .i64 (↑i) 1)) 1)))) 14) 1) 1) 1) 1) 1) 1) 1) 1) 1))) <|
 ck (isV (nthD ax (xadd (xadd (xadd (xadd (xadd (xadd (xadd (xadd (xadd (xadd (xix 0 (xnat (asI (nthD ox (xix 0 (xnat (xar .sub .i64 (↑i) 1)) 1)))) 14) 1) 1) 1) 1) 1) 1) 1) 1) 1) 1))) <|
 ck (isV (nthD ax (xadd (xadd (xadd (xadd (xadd (xadd (xadd (xadd (xadd (xadd (xadd (xix 0 (xnat (asI (nthD ox (xix 0 (xnat (xar .sub .i64 (↑i) 1)) 1)))) 14) 1) 1) 1) 1) 1) 1) 1) 1) 1) 1) 1))) <|
 ck (isV (nthD ax (xadd (xadd (xadd (xadd (xadd (xadd (xadd (xadd (xadd (xadd (xadd (xadd (xix 0 (xnat (asI (nthD ox (xix 0 (xnat (xar .sub .i64 (↑i) 1)) 1)))) 14) 1) 1) 1) 1) 1) 1) 1) 1) 1) 1) 1) 1))) <|
 ck (isS (nthD ax (xadd (xadd (xadd (xadd (xadd (xadd (xadd (xadd (xadd (xadd (xadd (xadd (xadd (xix 0 (xnat (asI (nthD ox (xix 0 (xnat (xar .sub .i64 (↑i) 1)) 1)))) 14) 1) 1) 1) 1) 1) 1) 1) 1) 1) 1) 1) 1) 1))) <|
 ck (xcm .eql (asI (nthD ax (xix 0 (xnat (asI (nthD ox (xix 0 (xnat (xar .sub .i64 (↑i) 1)) 1)))) 14))) (asI (nthD ax (xix 0 (xnat (asI (nthD ox (xix 0 (xnat (xar .sub .i64 (↑i) 1)) 1)))) 14)))) <|
 ck (xcm .eql (asI (nthD ax (xadd (xix 0 (xnat (asI (nthD ox (xix 0 (xnat (xar .sub .i64 (↑i) 1)) 1)))) 14) 1))) (asI (nthD ax (xadd (xix 0 (xnat (asI (nthD ox (xix 0 (xnat (xar .sub .i64 (↑i) 1)) 1)))) 14) 1)))) <|
 ck (xcm .eql (asI (nthD ax (xadd (xadd (xix 0 (xnat (asI (nthD ox (xix 0 (xnat (xar .sub .i64 (↑i) 1)) 1)))) 14) 1) 1))) (asI (nthD ax (xadd (xadd (xix 0 (xnat (asI (nthD ox (xix 0 (xnat (xar .sub .i64 (↑i) 1)) 1)))) 14) 1) 1)))) <|
 ck (xbq (asB (nthD ax (xadd (xadd (xadd (xix 0 (xnat (asI (nthD ox (xix 0 (xnat (xar .sub .i64 (↑i) 1)) 1)))) 14) 1) 1) 1))) (asB (nthD ax (xadd (xadd (xadd (xix 0 (xnat (asI (nthD ox (xix 0 (xnat (xar .sub .i64 (↑i) 1)) 1)))) 14) 1) 1) 1)))) <|
 ck (xcm .eql (asI (nthD ax (xadd (xadd (xadd (xadd (xix 0 (xnat (asI (nthD ox (xix 0 (xnat (xar .sub .i64 (↑i) 1)) 1)))) 14) 1) 1) 1) 1))) (asI (nthD ax (xadd (xadd (xadd (xadd (xix 0 (xnat (asI (nthD ox (xix 0 (xnat (xar .sub .i64 (↑i) 1)) 1)))) 14) 1) 1) 1) 1)))) <|
 ck (xcm .eql (asI (nthD ax (xadd (xadd (xadd (xadd (xadd (xix 0 (xnat (asI (nthD ox (xix 0 (xnat (xar .sub .i64 (↑i) 1)) 1)))) 14) 1) 1) 1) 1) 1))) (asI (nthD ax (xadd (xadd (xadd (xadd (xadd (xix 0 (xnat (asI (nthD ox (xix 0 (xnat (xar .sub .i64 (↑i) 1)) 1)))) 14) 1) 1) 1) 1) 1)))) <|
 ck (xcm .eql (asI (nthD ax (xadd (xadd (xadd (xadd (xadd (xadd (xix 0 (xnat (asI (nthD ox (xix 0 (xnat (xar .sub .i64 (↑i) 1)) 1)))) 14) 1) 1) 1) 1) 1) 1))) (asI (nthD ax (xadd (xadd (xadd (xadd (xadd (xadd (xix 0 (xnat (asI (nthD ox (xix 0 (xnat (xar .sub .i64 (↑i) 1)) 1)))) 14) 1) 1) 1) 1) 1) 1)))) <|
 ck (xcm .eql (asI (nthD ax (xadd (xadd (xadd (xadd (xadd (xadd (xadd (xix 0 (xnat (asI (nthD ox (xix 0 (xnat (xar .sub .i64 (↑i) 1)) 1)))) 14) 1) 1) 1) 1) 1) 1) 1))) (asI (nthD ax (xadd (xadd (xadd (xadd (xadd (xadd (xadd (xix 0 (xnat (asI (nthD ox (xix 0 (xnat (xar .sub .i64 (↑i) 1)) 1)))) 14) 1) 1) 1) 1) 1) 1) 1)))) <|
 ck (xcm .eql (asI (nthD ax (xadd (xadd (xadd (xadd (xadd (xadd (xadd (xadd (xix 0 (xnat (asI (nthD ox (xix 0 (xnat (xar .sub .i64 (↑i) 1)) 1)))) 14) 1) 1) 1) 1) 1) 1) 1) 1))) (asI (nthD ax (xadd (xadd (xadd (xadd (xadd (xadd (xadd (xadd (xix 0 (xnat (asI (nthD ox (xix 0 (xnat (xar .sub .i64 (↑i) 1)) 1)))) 14) 1) 1) 1) 1) 1) 1) 1) 1)))) <|
 ck (xcm .eql (asI (nthD ax (xadd (xadd (xadd (xadd (xadd (xadd (xadd (xadd (xadd (xix 0 (xnat (asI (nthD ox (xix 0 (xnat (xar .sub .i64 (↑i) 1)) 1)))) 14) 1) 1) 1) 1) 1) 1) 1) 1) 1))) (asI (nthD ax (xadd (xadd (xadd (xadd (xadd (xadd (xadd (xadd (xadd (xix 0 (xnat (asI (nthD ox (xix 0 (xnat (xar .sub .i64 (↑i) 1)) 1)))) 14) 1) 1) 1) 1) 1) 1) 1) 1) 1)))) <|
 ck (xveq (asV (nthD ax (xadd (xadd (xadd (xadd (xadd (xadd (xadd (xadd (xadd (xadd (xix 0 (xnat (asI (nthD ox (xix 0 (xnat (xar .sub .i64 (↑i) 1)) 1)))) 14) 1) 1) 1) 1) 1) 1) 1) 1) 1) 1))) (asV (nthD ax (xadd (xadd (xadd (xadd (xadd (xadd (xadd (xadd (xadd (xadd (xix 0 (xnat (asI (nthD ox (xix 0 (xnat (xar .sub .i64 (↑i) 1)) 1)))) 14) 1) 1) 1) 1) 1) 1) 1) 1) 1) 1)))) <|
 ck (xveq (asV (nthD ax (xadd (xadd (xadd (xadd (xadd (xadd (xadd (xadd (xadd (xadd (xadd (xix 0 (xnat (asI (nthD ox (xix 0 (xnat (xar .sub .i64 (↑i) 1)) 1)))) 14) 1) 1) 1) 1) 1) 1) 1) 1) 1) 1) 1))) (asV (nthD ax (xadd (xadd (xadd (xadd (xadd (xadd (xadd (xadd (xadd (xadd (xadd (xix 0 (xnat (asI (nthD ox (xix 0 (xnat (xar .sub .i64 (↑i) 1)) 1)))) 14) 1) 1) 1) 1) 1) 1) 1) 1) 1) 1) 1)))) <|
 ck (xveq (asV (nthD ax (xadd (xadd (xadd (xadd (xadd (xadd (xadd (xadd (xadd (xadd (xadd (xadd (xix 0 (xnat (asI (nthD ox (xix 0 (xnat (xar .sub .i64 (↑i) 1)) 1)))) 14) 1) 1) 1) 1) 1) 1) 1) 1) 1) 1) 1) 1))) (asV (nthD ax (xadd (xadd (xadd (xadd (xadd (xadd (xadd (xadd (xadd (xadd (xadd (xadd (xix 0 (xnat (asI (nthD ox (xix 0 (xnat (xar .sub .i64 (↑i) 1)) 1)))) 14) 1) 1) 1) 1) 1) 1) 1) 1) 1) 1) 1) 1)))) <|
 ck (xstr .eql (asS (nthD ax (xadd (xadd (xadd (xadd (xadd (xadd (xadd (xadd (xadd (xadd (xadd (xadd (xadd (xix 0 (xnat (asI (nthD ox (xix 0 (xnat (xar .sub .i64 (↑i) 1)) 1)))) 14) 1) 1) 1) 1) 1) 1) 1) 1) 1) 1) 1) 1) 1))) (asS (nthD ax (xadd (xadd (xadd (xadd (xadd (xadd (xadd (xadd (xadd (xadd (xadd (xadd (xadd (xix 0 (xnat (asI (nthD ox (xix 0 (xnat (xar .sub .i64 (↑i) 1)) 1)))) 14) 1) 1) 1) 1) 1) 1) 1) 1) 1) 1) 1) 1) 1)))) <|
 ck (xle (xadd (xix 0 (xnat (asI (nthD ox (xix 0 (xnat (xar .sub .i64 (↑i) 1)) 1)))) 14) 14) (xln ax)) <|
 ck (isI .i64 (nthD ax (xix 0 (xnat (asI (nthD ox (xix 0 (xnat (xar .sub .i64 (↑i) 1)) 1)))) 14))) <|
 ck (isI .i64 (nthD ax (xadd (xix 0 (xnat (asI (nthD ox (xix 0 (xnat (xar .sub .i64 (↑i) 1)) 1)))) 14) 1))) <|
 ck (isI .i64 (nthD ax (xadd (xadd (xix 0 (xnat (asI (nthD ox (xix 0 (xnat (xar .sub .i64 (↑i) 1)) 1)))) 14) 1) 1))) <|
 ck (isB (nthD ax (xadd (xadd (xadd (xix 0 (xnat (asI (nthD ox (xix 0 (xnat (xar .sub .i64 (↑i) 1)) 1)))) 14) 1) 1) 1))) <|
 ck (isI .i64 (nthD ax (xadd (xadd (xadd (xadd (xix 0 (xnat (asI (nthD ox (xix 0 (xnat (xar .sub .i64 (↑i) 1)) 1)))) 14) 1) 1) 1) 1))) <|
 ck (isI .i64 (nthD ax (xadd (xadd (xadd (xadd (xadd (xix 0 (xnat (asI (nthD ox (xix 0 (xnat (xar .sub .i64 (↑i) 1)) 1)))) 14) 1) 1) 1) 1) 1))) <|
 ck (isI .u64 (nthD ax (xadd (xadd (xadd (xadd (xadd (xadd (xix 0 (xnat (asI (nthD ox (xix 0 (xnat (xar .sub .i64 (↑i) 1)) 1)))) 14) 1) 1) 1) 1) 1) 1))) <|
 ck (isI .u64 (nthD ax (xadd (xadd (xadd (xadd (xadd (xadd (xadd (xix 0 (xnat (asI (nthD ox (xix 0 (xnat (xar .sub .i64 (↑i) 1)) 1)))) 14) 1) 1) 1) 1) 1) 1) 1))) <|
 ck (isI .i64 (nthD ax (xadd (xadd (xadd (xadd (xadd (xadd (xadd (xadd (xix 0 (xnat (asI (nthD ox (xix 0 (xnat (xar .sub .i64 (↑i) 1)) 1)))) 14) 1) 1) 1) 1) 1) 1) 1) 1))) <|
 ck (isI .i64 (nthD ax (xadd (xadd (xadd (xadd (xadd (xadd (xadd (xadd (xadd (xix 0 (xnat (asI (nthD ox (xix 0 (xnat (xar .sub .i64 (↑i) 1)) 1)))) 14) 1) 1) 1) 1) 1) 1) 1) 1) 1))) <|
 ck (isV (nthD ax (xadd (xadd (xadd (xadd (xadd (xadd (xadd (xadd (xadd (xadd (xix 0 (xnat (asI (nthD ox (xix 0 (xnat (xar .sub .i64 (↑i) 1)) 1)))) 14) 1) 1) 1) 1) 1) 1) 1) 1) 1) 1))) <|
 ck (isV (nthD ax (xadd (xadd (xadd (xadd (xadd (xadd (xadd (xadd (xadd (xadd (xadd (xix 0 (xnat (asI (nthD ox (xix 0 (xnat (xar .sub .i64 (↑i) 1)) 1)))) 14) 1) 1) 1) 1) 1) 1) 1) 1) 1) 1) 1))) <|
 ck (isV (nthD ax (xadd (xadd (xadd (xadd (xadd (xadd (xadd (xadd (xadd (xadd (xadd (xadd (xix 0 (xnat (asI (nthD ox (xix 0 (xnat (xar .sub .i64 (↑i) 1)) 1)))) 14) 1) 1) 1) 1) 1) 1) 1) 1) 1) 1) 1) 1))) <|
 ck (isS (nthD ax (xadd (xadd (xadd (xadd (xadd (xadd (xadd (xadd (xadd (xadd (xadd (xadd (xadd (xix 0 (xnat (asI (nthD ox (xix 0 (xnat (xar .sub .i64 (↑i) 1)) 1)))) 14) 1) 1) 1) 1) 1) 1) 1) 1) 1) 1) 1) 1) 1))) <|
 ck (xcm .eql (asI (nthD ax (xix 0 (xnat (asI (nthD ox (xix 0 (xnat (xar .sub .i64 (↑i) 1)) 1)))) 14))) (asI (nthD ax (xix 0 (xnat (asI (nthD ox (xix 0 (xnat (xar .sub .i64 (↑i) 1)) 1)))) 14)))) <|
 ck (xcm .eql (asI (nthD ax (xadd (xix 0 (xnat (asI (nthD ox (xix 0 (xnat (xar .sub .i64 (↑i) 1)) 1)))) 14) 1))) (asI (nthD ax (xadd (xix 0 (xnat (asI (nthD ox (xix 0 (xnat (xar .sub .i64 (↑i) 1)) 1)))) 14) 1)))) <|
 ck (xcm .eql (asI (nthD ax (xadd (xadd (xix 0 (xnat (asI (nthD ox (xix 0 (xnat (xar .sub .i64 (↑i) 1)) 1)))) 14) 1) 1))) (asI (nthD ax (xadd (xadd (xix 0 (xnat (asI (nthD ox (xix 0 (xnat (xar .sub .i64 (↑i) 1)) 1)))) 14) 1) 1)))) <|
 ck (xbq (asB (nthD ax (xadd (xadd (xadd (xix 0 (xnat (asI (nthD ox (xix 0 (xnat (xar .sub .i64 (↑i) 1)) 1)))) 14) 1) 1) 1))) (asB (nthD ax (xadd (xadd (xadd (xix 0 (xnat (asI (nthD ox (xix 0 (xnat (xar .sub .i64 (↑i) 1)) 1)))) 14) 1) 1) 1)))) <|
 ck (xcm .eql (asI (nthD ax (xadd (xadd (xadd (xadd (xix 0 (xnat (asI (nthD ox (xix 0 (xnat (xar .sub .i64 (↑i) 1)) 1)))) 14) 1) 1) 1) 1))) (asI (nthD ax (xadd (xadd (xadd (xadd (xix 0 (xnat (asI (nthD ox (xix 0 (xnat (xar .sub .i64 (↑i) 1)) 1)))) 14) 1) 1) 1) 1)))) <|
 ck (xcm .eql (asI (nthD ax (xadd (xadd (xadd (xadd (xadd (xix 0 (xnat (asI (nthD ox (xix 0 (xnat (xar .sub .i64 (↑i) 1)) 1)))) 14) 1) 1) 1) 1) 1))) (asI (nthD ax (xadd (xadd (xadd (xadd (xadd (xix 0 (xnat (asI (nthD ox (xix 0 (xnat (xar .sub .i64 (↑i) 1)) 1)))) 14) 1) 1) 1) 1) 1)))) <|
 ck (xcm .eql (asI (nthD ax (xadd (xadd (xadd (xadd (xadd (xadd (xix 0 (xnat (asI (nthD ox (xix 0 (xnat (xar .sub .i64 (↑i) 1)) 1)))) 14) 1) 1) 1) 1) 1) 1))) (asI (nthD ax (xadd (xadd (xadd (xadd (xadd (xadd (xix 0 (xnat (asI (nthD ox (xix 0 (xnat (xar .sub .i64 (↑i) 1)) 1)))) 14) 1) 1) 1) 1) 1) 1)))) <|
 ck (xcm .eql (asI (nthD ax (xadd (xadd (xadd (xadd (xadd (xadd (xadd (xix 0 (xnat (asI (nthD ox (xix 0 (xnat (xar .sub .i64 (↑i) 1)) 1)))) 14) 1) 1) 1) 1) 1) 1) 1))) (asI (nthD ax (xadd (xadd (xadd (xadd (xadd (xadd (xadd (xix 0 (xnat (asI (nthD ox (xix 0 (xnat (xar .sub .i64 (↑i) 1)) 1)))) 14) 1) 1) 1) 1) 1) 1) 1)))) <|
 ck (xcm .eql (asI (nthD ax (xadd (xadd (xadd (xadd (xadd (xadd (xadd (xadd (xix 0 (xnat (asI (nthD ox (xix 0 (xnat (xar .sub .i64 (↑i) 1)) 1)))) 14) 1) 1) 1) 1) 1) 1) 1) 1))) (asI (nthD ax (xadd (xadd (xadd (xadd (xadd (xadd (xadd (xadd (xix 0 (xnat (asI (nthD ox (xix 0 (xnat (xar .sub .i64 (↑i) 1)) 1)))) 14) 1) 1) 1) 1) 1) 1) 1) 1)))) <|
 ck (xcm .eql (asI (nthD ax (xadd (xadd (xadd (xadd (xadd (xadd (xadd (xadd (xadd (xix 0 (xnat (asI (nthD ox (xix 0 (xnat (xar .sub .i64 (↑i) 1)) 1)))) 14) 1) 1) 1) 1) 1) 1) 1) 1) 1))) (asI (nthD ax (xadd (xadd (xadd (xadd (xadd (xadd (xadd (xadd (xadd (xix 0 (xnat (asI (nthD ox (xix 0 (xnat (xar .sub .i64 (↑i) 1)) 1)))) 14) 1) 1) 1) 1) 1) 1) 1) 1) 1)))) <|
 ck (xveq (asV (nthD ax (xadd (xadd (xadd (xadd (xadd (xadd (xadd (xadd (xadd (xadd (xix 0 (xnat (asI (nthD ox (xix 0 (xnat (xar .sub .i64 (↑i) 1)) 1)))) 14) 1) 1) 1) 1) 1) 1) 1) 1) 1) 1))) (asV (nthD ax (xadd (xadd (xadd (xadd (xadd (xadd (xadd (xadd (xadd (xadd (xix 0 (xnat (asI (nthD ox (xix 0 (xnat (xar .sub .i64 (↑i) 1)) 1)))) 14) 1) 1) 1) 1) 1) 1) 1) 1) 1) 1)))) <|
 ck (xveq (asV (nthD ax (xadd (xadd (xadd (xadd (xadd (xadd (xadd (xadd (xadd (xadd (xadd (xix 0 (xnat (asI (nthD ox (xix 0 (xnat (xar .sub .i64 (↑i) 1)) 1)))) 14) 1) 1) 1) 1) 1) 1) 1) 1) 1) 1) 1))) (asV (nthD ax (xadd (xadd (xadd (xadd (xadd (xadd (xadd (xadd (xadd (xadd (xadd (xix 0 (xnat (asI (nthD ox (xix 0 (xnat (xar .sub .i64 (↑i) 1)) 1)))) 14) 1) 1) 1) 1) 1) 1) 1) 1) 1) 1) 1)))) <|
 ck (xveq (asV (nthD ax (xadd (xadd (xadd (xadd (xadd (xadd (xadd (xadd (xadd (xadd (xadd (xadd (xix 0 (xnat (asI (nthD ox (xix 0 (xnat (xar .sub .i64 (↑i) 1)) 1)))) 14) 1) 1) 1) 1) 1) 1) 1) 1) 1) 1) 1) 1))) (asV (nthD ax (xadd (xadd (xadd (xadd (xadd (xadd (xadd (xadd (xadd (xadd (xadd (xadd (xix 0 (xnat (asI (nthD ox (xix 0 (xnat (xar .sub .i64 (↑i) 1)) 1)))) 14) 1) 1) 1) 1) 1) 1) 1) 1) 1) 1) 1) 1)))) <|
 ck (xstr .eql (asS (nthD ax (xadd (xadd (xadd (xadd (xadd (xadd (xadd (xadd (xadd (xadd (xadd (xadd (xadd (xix 0 (xnat (asI (nthD ox (xix 0 (xnat (xar .sub .i64 (↑i) 1)) 1)))) 14) 1) 1) 1) 1) 1) 1) 1) 1) 1) 1) 1) 1) 1))) (asS (nthD ax (xadd (xadd (xadd (xadd (xadd (xadd (xadd (xadd (xadd (xadd (xadd (xadd (xadd (xix 0 (xnat (asI (nthD ox (xix 0 (xnat (xar .sub .i64 (↑i) 1)) 1)))) 14) 1) 1) 1) 1) 1) 1) 1) 1) 1) 1) 1) 1) 1)))) <|
 ck (xle (xadd (xix 0 (xnat (asI (nthD ox (xix 0 (xnat (xar .sub .i64 (↑i) 1)) 1)))) 14) 14) (xln ax)) <|
 ck (isI .i64 (nthD ax (xix 0 (xnat (asI (nthD ox (xix 0 (xnat (xar .sub .i64 (↑i) 1)) 1)))) 14))) <|
 ck (isI .i64 (nthD ax (xadd (xix 0 (xnat (asI (nthD ox (xix 0 (xnat (xar .sub .i64 (↑i) 1)) 1)))) 14) 1))) <|
 ck (isI .i64 (nthD ax (xadd (xadd (xix 0 (xnat (asI (nthD ox (xix 0 (xnat (xar .sub .i64 (↑i) 1)) 1)))) 14) 1) 1))) <|
 ck (isB (nthD ax (xadd (xadd (xadd (xix 0 (xnat (asI (nthD ox (xix 0 (xnat (xar .sub .i64 (↑i) 1)) 1)))) 14) 1) 1) 1))) <|
 ck (isI .i64 (nthD ax (xadd (xadd (xadd (xadd (xix 0 (xnat (asI (nthD ox (xix 0 (xnat (xar .sub .i64 (↑i) 1)) 1)))) 14) 1) 1) 1) 1))) <|
 ck (isI .i64 (nthD ax (xadd (xadd (xadd (xadd (xadd (xix 0 (xnat (asI (nthD ox (xix 0 (xnat (xar .sub .i64 (↑i) 1)) 1)))) 14) 1) 1) 1) 1) 1))) <|
 ck (isI .u64 (nthD ax (xadd (xadd (xadd (xadd (xadd (xadd (xix 0 (xnat (asI (nthD ox (xix 0 (xnat (xar .sub .i64 (↑i) 1)) 1)))) 14) 1) 1) 1) 1) 1) 1))) <|
 ck (isI .u64 (nthD ax (xadd (xadd (xadd (xadd (xadd (xadd (xadd (xix 0 (xnat (asI (nthD ox (xix 0 (xnat (xar .sub .i64 (↑i) 1)) 1)))) 14) 1) 1) 1) 1) 1) 1) 1))) <|
 ck (isI .i64 (nthD ax (xadd (xadd (xadd (xadd (xadd (xadd (xadd (xadd (xix 0 (xnat (asI (nthD ox (xix 0 (xnat (xar .sub .i64 (↑i) 1)) 1)))) 14) 1) 1) 1) 1) 1) 1) 1) 1))) <|
 ck (isI .i64 (nthD ax (xadd (xadd (xadd (xadd (xadd (xadd (xadd (xadd (xadd (xix 0 (xnat (asI (nthD ox (xix 0 (xnat (xar .sub .i64 (↑i) 1)) 1)))) 14) 1) 1) 1) 1) 1) 1) 1) 1) 1))) <|
 ck (isV (nthD ax (xadd (xadd (xadd (xadd (xadd (xadd (xadd (xadd (xadd (xadd (xix 0 (xnat (asI (nthD ox (xix 0 (xnat (xar .sub .i64 (↑i) 1)) 1)))) 14) 1) 1) 1) 1) 1) 1) 1) 1) 1) 1))) <|
 ck (isV (nthD ax (xadd (xadd (xadd (xadd (xadd (xadd (xadd (xadd (xadd (xadd (xadd (xix 0 (xnat (asI (nthD ox (xix 0 (xnat (xar .sub .i64 (↑i) 1)) 1)))) 14) 1) 1) 1) 1) 1) 1) 1) 1) 1) 1) 1))) <|
 ck (isV (nthD ax (xadd (xadd (xadd (xadd (xadd (xadd (xadd (xadd (xadd (xadd (xadd (xadd (xix 0 (xnat (asI (nthD ox (xix 0 (xnat (xar .sub .i64 (↑i) 1)) 1)))) 14) 1) 1) 1) 1) 1) 1) 1) 1) 1) 1) 1) 1))) <|
 ck (isS (nthD ax (xadd (xadd (xadd (xadd (xadd (xadd (xadd (xadd (xadd (xadd (xadd (xadd (xadd (xix 0 (xnat (asI (nthD ox (xix 0 (xnat (xar .sub .i64 (↑i) 1)) 1)))) 14) 1) 1) 1) 1) 1) 1) 1) 1) 1) 1) 1) 1) 1))) <|
 ck (xcm .eql (asI (nthD ax (xix 0 (xnat (asI (nthD ox (xix 0 (xnat (xar .sub .i64 (↑i) 1)) 1)))) 14))) (asI (nthD ax (xix 0 (xnat (asI (nthD ox (xix 0 (xnat (xar .sub .i64 (↑i) 1)) 1)))) 14)))) <|
 ck (xcm .eql (asI (nthD ax (xadd (xix 0 (xnat (asI (nthD ox (xix 0 (xnat (xar .sub .i64 (↑i) 1)) 1)))) 14) 1))) (asI (nthD ax (xadd (xix 0 (xnat (asI (nthD ox (xix 0 (xnat (xar .sub .i64 (↑i) 1)) 1)))) 14) 1)))) <|
 ck (xcm .eql (asI (nthD ax (xadd (xadd (xix 0 (xnat (asI (nthD ox (xix 0 (xnat (xar .sub .i64 (↑i) 1)) 1)))) 14) 1) 1))) (asI (nthD ax (xadd (xadd (xix 0 (xnat (asI (nthD ox (xix 0 (xnat (xar .sub .i64 (↑i) 1)) 1)))) 14) 1) 1)))) <|
 ck (xbq (asB (nthD ax (xadd (xadd (xadd (xix 0 (xnat (asI (nthD ox (xix 0 (xnat (xar .sub .i64 (↑i) 1)) 1)))) 14) 1) 1) 1))) (asB (nthD ax (xadd (xadd (xadd (xix 0 (xnat (asI (nthD ox (xix 0 (xnat (xar .sub .i64 (↑i) 1)) 1)))) 14) 1) 1) 1)))) <|
 ck (xcm .eql (asI (nthD ax (xadd (xadd (xadd (xadd (xix 0 (xnat (asI (nthD ox (xix 0 (xnat (xar .sub .i64 (↑i) 1)) 1)))) 14) 1) 1) 1) 1))) (asI (nthD ax (xadd (xadd (xadd (xadd (xix 0 (xnat (asI (nthD ox (xix 0 (xnat (xar .sub .i64 (↑i) 1)) 1)))) 14) 1) 1) 1) 1)))) <|
 ck (xcm .eql (asI (nthD ax (xadd (xadd (xadd (xadd (xadd (xix 0 (xnat (asI (nthD ox (xix 0 (xnat (xar .sub .i64 (↑i) 1)) 1)))) 14) 1) 1) 1) 1) 1))) (asI (nthD ax (xadd (xadd (xadd (xadd (xadd (xix 0 (xnat (asI (nthD ox (xix 0 (xnat (xar .sub .i64 (↑i) 1)) 1)))) 14) 1) 1) 1) 1) 1)))) <|
 ck (xcm .eql (asI (nthD ax (xadd (xadd (xadd (xadd (xadd (xadd (xix 0 (xnat (asI (nthD ox (xix 0 (xnat (xar .sub .i64 (↑i) 1)) 1)))) 14) 1) 1) 1) 1) 1) 1))) (asI (nthD ax (xadd (xadd (xadd (xadd (xadd (xadd (xix 0 (xnat (asI (nthD ox (xix 0 (xnat (xar .sub .i64 (↑i) 1)) 1)))) 14) 1) 1) 1) 1) 1) 1)))) <|
 ck (xcm .eql (asI (nthD ax (xadd (xadd (xadd (xadd (xadd (xadd (xadd (xix 0 (xnat (asI (nthD ox (xix 0 (xnat (xar .sub .i64 (↑i) 1)) 1)))) 14) 1) 1) 1) 1) 1) 1) 1))) (asI (nthD ax (xadd (xadd (xadd (xadd (xadd (xadd (xadd (xix 0 (xnat (asI (nthD ox (xix 0 (xnat (xar .sub .i64 (↑i) 1)) 1)))) 14) 1) 1) 1) 1) 1) 1) 1)))) <|
 ck (xcm .eql (asI (nthD ax (xadd (xadd (xadd (xadd (xadd (xadd (xadd (xadd (xix 0 (xnat (asI (nthD ox (xix 0 (xnat (xar .sub .i64 (↑i) 1)) 1)))) 14) 1) 1) 1) 1) 1) 1) 1) 1))) (asI (nthD ax (xadd (xadd (xadd (xadd (xadd (xadd (xadd (xadd (xix 0 (xnat (asI (nthD ox (xix 0 (xnat (xar .sub .i64 (↑i) 1)) 1)))) 14) 1) 1) 1) 1) 1) 1) 1) 1)))) <|
 ck (xcm .eql (asI (nthD ax (xadd (xadd (xadd (xadd (xadd (xadd (xadd (xadd (xadd (xix 0 (xnat (asI (nthD ox (xix 0 (xnat (xar .sub .i64 (↑i) 1)) 1)))) 14) 1) 1) 1) 1) 1) 1) 1) 1) 1))) (asI (nthD ax (xadd (xadd (xadd (xadd (xadd (xadd (xadd (xadd (xadd (xix 0 (xnat (asI (nthD ox (xix 0 (xnat (xar .sub .i64 (↑i) 1)) 1)))) 14) 1) 1) 1) 1) 1) 1) 1) 1) 1)))) <|
 ck (xveq (asV (nthD ax (xadd (xadd (xadd (xadd (xadd (xadd (xadd (xadd (xadd (xadd (xix 0 (xnat (asI (nthD ox (xix 0 (xnat (xar .sub .i64 (↑i) 1)) 1)))) 14) 1) 1) 1) 1) 1) 1) 1) 1) 1) 1))) (asV (nthD ax (xadd (xadd (xadd (xadd (xadd (xadd (xadd (xadd (xadd (xadd (xix 0 (xnat (asI (nthD ox (xix 0 (xnat (xar .sub .i64 (↑i) 1)) 1)))) 14) 1) 1) 1) 1) 1) 1) 1) 1) 1) 1)))) <|
 ck (xveq (asV (nthD ax (xadd (xadd (xadd (xadd (xadd (xadd (xadd (xadd (xadd (xadd (xadd (xix 0 (xnat (asI (nthD ox (xix 0 (xnat (xar .sub .i64 (↑i) 1)) 1)))) 14) 1) 1) 1) 1) 1) 1) 1) 1) 1) 1) 1))) (asV (nthD ax (xadd (xadd (xadd (xadd (xadd (xadd (xadd (xadd (xadd (xadd (xadd (xix 0 (xnat (asI (nthD ox (xix 0 (xnat (xar .sub .i64 (↑i) 1)) 1)))) 14) 1) 1) 1) 1) 1) 1) 1) 1) 1) 1) 1)))) <|
 ck (xveq (asV (nthD ax (xadd (xadd (xadd (xadd (xadd (xadd (xadd (xadd (xadd (xadd (xadd (xadd (xix 0 (xnat (asI (nthD ox (xix 0 (xnat (xar .sub .i64 (↑i) 1)) 1)))) 14) 1) 1) 1) 1) 1) 1) 1) 1) 1) 1) 1) 1))) (asV (nthD ax (xadd (xadd (xadd (xadd (xadd (xadd (xadd (xadd (xadd (xadd (xadd (xadd (xix 0 (xnat (asI (nthD ox (xix 0 (xnat (xar .sub .i64 (↑i) 1)) 1)))) 14) 1) 1) 1) 1) 1) 1) 1) 1) 1) 1) 1) 1)))) <|
 ck (xstr .eql (asS (nthD ax (xadd (xadd (xadd (xadd (xadd (xadd (xadd (xadd (xadd (xadd (xadd (xadd (xadd (xix 0 (xnat (asI (nthD ox (xix 0 (xnat (xar .sub .i64 (↑i) 1)) 1)))) 14) 1) 1) 1) 1) 1) 1) 1) 1) 1) 1) 1) 1) 1))) (asS (nthD ax (xadd (xadd (xadd (xadd (xadd (xadd (xadd (xadd (xadd (xadd (xadd (xadd (xadd (xix 0 (xnat (asI (nthD ox (xix 0 (xnat (xar .sub .i64 (↑i) 1)) 1)))) 14) 1) 1) 1) 1) 1) 1) 1) 1) 1) 1) 1) 1) 1)))) <|
 ck (xle (xadd (xix 0 (xnat (asI (nthD ox (xix 0 (xnat (xar .sub .i64 (↑i) 1)) 1)))) 14) 14) (xln ax)) <|
 ck (isI .i64 (nthD ax (xix 0 (xnat (asI (nthD ox (xix 0 (xnat (xar .sub .i64 (↑i) 1)) 1)))) 14))) <|
 ck (isI .i64 (nthD ax (xadd (xix 0 (xnat (asI (nthD ox (xix 0 (xnat (xar .sub .i64 (↑i) 1)) 1)))) 14) 1))) <|
 ck (isI .i64 (nthD ax (xadd (xadd (xix 0 (xnat (asI (nthD ox (xix 0 (xnat (xar .sub .i64 (↑i) 1)) 1)))) 14) 1) 1))) <|
 ck (isB (nthD ax (xadd (xadd (xadd (xix 0 (xnat (asI (nthD ox (xix 0 (xnat (xar .sub .i64 (↑i) 1)) 1)))) 14) 1) 1) 1))) <|
 ck (isI .i64 (nthD ax (xadd (xadd (xadd (xadd (xix 0 (xnat (asI (nthD ox (xix 0 (xnat (xar .sub .i64 (↑i) 1)) 1)))) 14) 1) 1) 1) 1))) <|
 ck (isI .i64 (nthD ax (xadd (xadd (xadd (xadd (xadd (xix 0 (xnat (asI (nthD ox (xix 0 (xnat (xar .sub .i64 (↑i) 1)) 1)))) 14) 1) 1) 1) 1) 1))) <|
 ck (isI .u64 (nthD ax (xadd (xadd (xadd (xadd (xadd (xadd (xix 0 (xnat (asI (nthD ox (xix 0 (xnat (xar .sub .i64 (↑i) 1)) 1)))) 14) 1) 1) 1) 1) 1) 1))) <|
 ck (isI .u64 (nthD ax (xadd (xadd (xadd (xadd (xadd (xadd (xadd (xix 0 (xnat (asI (nthD ox (xix 0 (xnat (xar .sub .i64 (↑i) 1)) 1)))) 14) 1) 1) 1) 1) 1) 1) 1))) <|
 ck (isI .i64 (nthD ax (xadd (xadd (xadd (xadd (xadd (xadd (xadd (xadd (xix 0 (xnat (asI (nthD ox (xix 0 (xnat (xar .sub .i64 (↑i) 1)) 1)))) 14) 1) 1) 1) 1) 1) 1) 1) 1))) <|
 ck (isI .i64 (nthD ax (xadd (xadd (xadd (xadd (xadd (xadd (xadd (xadd (xadd (xix 0 (xnat (asI (nthD ox (xix 0 (xnat (xar .sub .i64 (↑i) 1)) 1)))) 14) 1) 1) 1) 1) 1) 1) 1) 1) 1))) <|
 ck (isV (nthD ax (xadd (xadd (xadd (xadd (xadd (xadd (xadd (xadd (xadd (xadd (xix 0 (xnat (asI (nthD ox (xix 0 (xnat (xar .sub .i64 (↑i) 1)) 1)))) 14) 1) 1) 1) 1) 1) 1) 1) 1) 1) 1))) <|
 ck (isV (nthD ax (xadd (xadd (xadd (xadd (xadd (xadd (xadd (xadd (xadd (xadd (xadd (xix 0 (xnat (asI (nthD ox (xix 0 (xnat (xar .sub .i64 (↑i) 1)) 1)))) 14) 1) 1) 1) 1) 1) 1) 1) 1) 1) 1) 1))) <|
 ck (isV (nthD ax (xadd (xadd (xadd (xadd (xadd (xadd (xadd (xadd (xadd (xadd (xadd (xadd (xix 0 (xnat (asI (nthD ox (xix 0 (xnat (xar .sub .i64 (↑i) 1)) 1)))) 14) 1) 1) 1) 1) 1) 1) 1) 1) 1) 1) 1) 1))) <|
 ck (isS (nthD ax (xadd (xadd (xadd (xadd (xadd (xadd (xadd (xadd (xadd (xadd (xadd (xadd (xadd (xix 0 (xnat (asI (nthD ox (xix 0 (xnat (xar .sub .i64 (↑i) 1)) 1)))) 14) 1) 1) 1) 1) 1) 1) 1) 1) 1) 1) 1) 1) 1))) <|
 ck (xcm .eql (asI (nthD ax (xix 0 (xnat (asI (nthD ox (xix 0 (xnat (xar .sub .i64 (↑i) 1)) 1)))) 14))) (asI (nthD ax (xix 0 (xnat (asI (nthD ox (xix 0 (xnat (xar .sub .i64 (↑i) 1)) 1)))) 14)))) <|
 ck (xcm .eql (asI (nthD ax (xadd (xix 0 (xnat (asI (nthD ox (xix 0 (xnat (xar .sub .i64 (↑i) 1)) 1)))) 14) 1))) (asI (nthD ax (xadd (xix 0 (xnat (asI (nthD ox (xix 0 (xnat (xar .sub .i64 (↑i) 1)) 1)))) 14) 1)))) <|
 ck (xcm .eql (asI (nthD ax (xadd (xadd (xix 0 (xnat (asI (nthD ox (xix 0 (xnat (xar .sub .i64 (↑i) 1)) 1)))) 14) 1) 1))) (asI (nthD ax (xadd (xadd (xix 0 (xnat (asI (nthD ox (xix 0 (xnat (xar .sub .i64 (↑i) 1)) 1)))) 14) 1) 1)))) <|
 ck (xbq (asB (nthD ax (xadd (xadd (xadd (xix 0 (xnat (asI (nthD ox (xix 0 (xnat (xar .sub .i64 (↑i) 1)) 1)))) 14) 1) 1) 1))) (asB (nthD ax (xadd (xadd (xadd (xix 0 (xnat (asI (nthD ox (xix 0 (xnat (xar .sub .i64 (↑i) 1)) 1)))) 14) 1) 1) 1)))) <|
 ck (xcm .eql (asI (nthD ax (xadd (xadd (xadd (xadd (xix 0 (xnat (asI (nthD ox (xix 0 (xnat (xar .sub .i64 (↑i) 1)) 1)))) 14) 1) 1) 1) 1))) (asI (nthD ax (xadd (xadd (xadd (xadd (xix 0 (xnat (asI (nthD ox (xix 0 (xnat (xar .sub .i64 (↑i) 1)) 1)))) 14) 1) 1) 1) 1)))) <|
 ck (xcm .eql (asI (nthD ax (xadd (xadd (xadd (xadd (xadd (xix 0 (xnat (asI (nthD ox (xix 0 (xnat (xar .sub .i64 (↑i) 1)) 1)))) 14) 1) 1) 1) 1) 1))) (asI (nthD ax (xadd (xadd (xadd (xadd (xadd (xix 0 (xnat (asI (nthD ox (xix 0 (xnat (xar .sub .i64 (↑i) 1)) 1)))) 14) 1) 1) 1) 1) 1)))) <|
 ck (xcm .eql (asI (nthD ax (xadd (xadd (xadd (xadd (xadd (xadd (xix 0 (xnat (asI (nthD ox (xix 0 (xnat (xar .sub .i64 (↑i) 1)) 1)))) 14) 1) 1) 1) 1) 1) 1))) (asI (nthD ax (xadd (xadd (xadd (xadd (xadd (xadd (xix 0 (xnat (asI (nthD ox (xix 0 (xnat (xar .sub .i64 (↑i) 1)) 1)))) 14) 1) 1) 1) 1) 1) 1)))) <|
 ck (xcm .eql (asI (nthD ax (xadd (xadd (xadd (xadd (xadd (xadd (xadd (xix 0 (xnat (asI (nthD ox (xix 0 (xnat (xar .sub .i64 (↑i) 1)) 1)))) 14) 1) 1) 1) 1) 1) 1) 1))) (asI (nthD ax (xadd (xadd (xadd (xadd (xadd (xadd (xadd (xix 0 (xnat (asI (nthD ox (xix 0 (xnat (xar .sub .i64 (↑i) 1)) 1)))) 14) 1) 1) 1) 1) 1) 1) 1)))) <|
 ck (xcm .eql (asI (nthD ax (xadd (xadd (xadd (xadd (xadd (xadd (xadd (xadd (xix 0 (xnat (asI (nthD ox (xix 0 (xnat (xar .sub .i64 (↑i) 1)) 1)))) 14) 1) 1) 1) 1) 1) 1) 1) 1))) (asI (nthD ax (xadd (xadd (xadd (xadd (xadd (xadd (xadd (xadd (xix 0 (xnat (asI (nthD ox (xix 0 (xnat (xar .sub .i64 (↑i) 1)) 1)))) 14) 1) 1) 1) 1) 1) 1) 1) 1)))) <|
 ck (xcm .eql (asI (nthD ax (xadd (xadd (xadd (xadd (xadd (xadd (xadd (xadd (xadd (xix 0 (xnat (asI (nthD ox (xix 0 (xnat (xar .sub .i64 (↑i) 1)) 1)))) 14) 1) 1) 1) 1) 1) 1) 1) 1) 1))) (asI (nthD ax (xadd (xadd (xadd (xadd (xadd (xadd (xadd (xadd (xadd (xix 0 (xnat (asI (nthD ox (xix 0 (xnat (xar .sub .i64 (↑i) 1)) 1)))) 14) 1) 1) 1) 1) 1) 1) 1) 1) 1)))) <|
 ck (xveq (asV (nthD ax (xadd (xadd (xadd (xadd (xadd (xadd (xadd (xadd (xadd (xadd (xix 0 (xnat (asI (nthD ox (xix 0 (xnat (xar .sub .i64 (↑i) 1)) 1)))) 14) 1) 1) 1) 1) 1) 1) 1) 1) 1) 1))) (asV (nthD ax (xadd (xadd (xadd (xadd (xadd (xadd (xadd (xadd (xadd (xadd (xix 0 (xnat (asI (nthD ox (xix 0 (xnat (xar .sub .i64 (↑i) 1)) 1)))) 14) 1) 1) 1) 1) 1) 1) 1) 1) 1) 1)))) <|
 ck (xveq (asV (nthD ax (xadd (xadd (xadd (xadd (xadd (xadd (xadd (xadd (xadd (xadd (xadd (xix 0 (xnat (asI (nthD ox (xix 0 (xnat (xar .sub .i64 (↑i) 1)) 1)))) 14) 1) 1) 1) 1) 1) 1) 1) 1) 1) 1) 1))) (asV (nthD ax (xadd (xadd (xadd (xadd (xadd (xadd (xadd (xadd (xadd (xadd (xadd (xix 0 (xnat (asI (nthD ox (xix 0 (xnat (xar .sub .i64 (↑i) 1)) 1)))) 14) 1) 1) 1) 1) 1) 1) 1) 1) 1) 1) 1)))) <|
 ck (xveq (asV (nthD ax (xadd (xadd (xadd (xadd (xadd (xadd (xadd (xadd (xadd (xadd (xadd (xadd (xix 0 (xnat (asI (nthD ox (xix 0 (xnat (xar .sub .i64 (↑i) 1)) 1)))) 14) 1) 1) 1) 1) 1) 1) 1) 1) 1) 1) 1) 1))) (asV (nthD ax (xadd (xadd (xadd (xadd (xadd (xadd (xadd (xadd (xadd (xadd (xadd (xadd (xix 0 (xnat (asI (nthD ox (xix 0 (xnat (xar .sub .i64 (↑i) 1)) 1)))) 14) 1) 1) 1) 1) 1) 1) 1) 1) 1) 1) 1) 1)))) <|
 ck (xstr .eql (asS (nthD ax (xadd (xadd (xadd (xadd (xadd (xadd (xadd (xadd (xadd (xadd (xadd (xadd (xadd (xix 0 (xnat (asI (nthD ox (xix 0 (xnat (xar .sub .i64 (↑i) 1)) 1)))) 14) 1) 1) 1) 1) 1) 1) 1) 1) 1) 1) 1) 1) 1))) (asS (nthD ax (xadd (xadd (xadd (xadd (xadd (xadd (xadd (xadd (xadd (xadd (xadd (xadd (xadd (xix 0 (xnat (asI (nthD ox (xix 0 (xnat (xar .sub .i64 (↑i) 1)) 1)))) 14) 1) 1) 1) 1) 1) 1) 1) 1) 1) 1) 1) 1) 1)))) <|
 ck (xle (xadd (xix 0 (xnat ↑i) 1) 1) (xln ox)) <|
 ck (isI .i64 (nthD ox (xix 0 (xnat ↑i) 1))) <|
 ck (xcm .eql (asI (nthD ox (xix 0 (xnat ↑i) 1))) (asI (nthD ox (xix 0 (xnat ↑i) 1)))) <|
 ck (xle (xadd (xix 0 (xnat ↑i) 1) 1) (xln ox)) <|
 ck (isI .i64 (nthD ox (xix 0 (xnat ↑i) 1))) <|
 ck (xcm .eql (asI (nthD ox (xix 0 (xnat ↑i) 1))) (asI (nthD ox (xix 0 (xnat ↑i) 1)))) <|
 ck (xle (xadd (xix 0 (xnat ↑i) 1) 1) (xln ox)) <|
 ck (isI .i64 (nthD ox (xix 0 (xnat ↑i) 1))) <|
 ck (xcm .eql (asI (nthD ox (xix 0 (xnat ↑i) 1))) (asI (nthD ox (xix 0 (xnat ↑i) 1)))) <|
 ck (xle (xadd (xix 0 (xnat ↑i) 1) 1) (xln ox)) <|
 ck (isI .i64 (nthD ox (xix 0 (xnat ↑i) 1))) <|
 ck (xcm .eql (asI (nthD ox (xix 0 (xnat ↑i) 1))) (asI (nthD ox (xix 0 (xnat ↑i) 1)))) <|
 ck (xle (xadd (xix 0 (xnat ↑i) 1) 1) (xln ox)) <|
 ck (isI .i64 (nthD ox (xix 0 (xnat ↑i) 1))) <|
 ck (xcm .eql (asI (nthD ox (xix 0 (xnat ↑i) 1))) (asI (nthD ox (xix 0 (xnat ↑i) 1)))) <|
 ck (xle (xadd (xix 0 (xnat ↑i) 1) 1) (xln ox)) <|
 ck (isI .i64 (nthD ox (xix 0 (xnat ↑i) 1))) <|
 ck (xcm .eql (asI (nthD ox (xix 0 (xnat ↑i) 1))) (asI (nthD ox (xix 0 (xnat ↑i) 1)))) <|
 ck (xle (xadd (xix 0 (xnat (asI (nthD ox (xix 0 (xnat ↑i) 1)))) 14) 14) (xln ax)) <|
 ck (isI .i64 (nthD ax (xix 0 (xnat (asI (nthD ox (xix 0 (xnat ↑i) 1)))) 14))) <|
 ck (isI .i64 (nthD ax (xadd (xix 0 (xnat (asI (nthD ox (xix 0 (xnat ↑i) 1)))) 14) 1))) <|
 ck (isI .i64 (nthD ax (xadd (xadd (xix 0 (xnat (asI (nthD ox (xix 0 (xnat ↑i) 1)))) 14) 1) 1))) <|
 ck (isB (nthD ax (xadd (xadd (xadd (xix 0 (xnat (asI (nthD ox (xix 0 (xnat ↑i) 1)))) 14) 1) 1) 1))) <|
 ck (isI .i64 (nthD ax (xadd (xadd (xadd (xadd (xix 0 (xnat (asI (nthD ox (xix 0 (xnat ↑i) 1)))) 14) 1) 1) 1) 1))) <|
 ck (isI .i64 (nthD ax (xadd (xadd (xadd (xadd (xadd (xix 0 (xnat (asI (nthD ox (xix 0 (xnat ↑i) 1)))) 14) 1) 1) 1) 1) 1))) <|
 ck (isI .u64 (nthD ax (xadd (xadd (xadd (xadd (xadd (xadd (xix 0 (xnat (asI (nthD ox (xix 0 (xnat ↑i) 1)))) 14) 1) 1) 1) 1) 1) 1))) <|
 ck (isI .u64 (nthD ax (xadd (xadd (xadd (xadd (xadd (xadd (xadd (xix 0 (xnat (asI (nthD ox (xix 0 (xnat ↑i) 1)))) 14) 1) 1) 1) 1) 1) 1) 1))) <|
 ck (isI .i64 (nthD ax (xadd (xadd (xadd (xadd (xadd (xadd (xadd (xadd (xix 0 (xnat (asI (nthD ox (xix 0 (xnat ↑i) 1)))) 14) 1) 1) 1) 1) 1) 1) 1) 1))) <|
 ck (isI .i64 (nthD ax (xadd (xadd (xadd (xadd (xadd (xadd (xadd (xadd (xadd (xix 0 (xnat (asI (nthD ox (xix 0 (xnat ↑i) 1)))) 14) 1) 1) 1) 1) 1) 1) 1) 1) 1))) <|
 ck (isV (nthD ax (xadd (xadd (xadd (xadd (xadd (xadd (xadd (xadd (xadd (xadd (xix 0 (xnat (asI (nthD ox (xix 0 (xnat ↑i) 1)))) 14) 1) 1) 1) 1) 1) 1) 1) 1) 1) 1))) <|
 ck (isV (nthD ax (xadd (xadd (xadd (xadd (xadd (xadd (xadd (xadd (xadd (xadd (xadd (xix 0 (xnat (asI (nthD ox (xix 0 (xnat ↑i) 1)))) 14) 1) 1) 1) 1) 1) 1) 1) 1) 1) 1) 1))) <|
 ck (isV (nthD ax (xadd (xadd (xadd (xadd (xadd (xadd (xadd (xadd (xadd (xadd (xadd (xadd (xix 0 (xnat (asI (nthD ox (xix 0 (xnat ↑i) 1)))) 14) 1) 1) 1) 1) 1) 1) 1) 1) 1) 1) 1) 1))) <|
 ck (isS (nthD ax (xadd (xadd (xadd (xadd (xadd (xadd (xadd (xadd (xadd (xadd (xadd (xadd (xadd (xix 0 (xnat (asI (nthD ox (xix 0 (xnat ↑i) 1)))) 14) 1) 1) 1) 1) 1) 1) 1) 1) 1) 1) 1) 1) 1))) <|
 ck (xcm .eql (asI (nthD ax (xix 0 (xnat (asI (nthD ox (xix 0 (xnat ↑i) 1)))) 14))) (asI (nthD ax (xix 0 (xnat (asI (nthD ox (xix 0 (xnat ↑i) 1)))) 14)))) <|
 ck (xcm .eql (asI (nthD ax (xadd (xix 0 (xnat (asI (nthD ox (xix 0 (xnat ↑i) 1)))) 14) 1))) (asI (nthD ax (xadd (xix 0 (xnat (asI (nthD ox (xix 0 (xnat ↑i) 1)))) 14) 1)))) <|
 ck (xcm .eql (asI (nthD ax (xadd (xadd (xix 0 (xnat (asI (nthD ox (xix 0 (xnat ↑i) 1)))) 14) 1) 1))) (asI (nthD ax (xadd (xadd (xix 0 (xnat (asI (nthD ox (xix 0 (xnat ↑i) 1)))) 14) 1) 1)))) <|
 ck (xbq (asB (nthD ax (xadd (xadd (xadd (xix 0 (xnat (asI (nthD ox (xix 0 (xnat ↑i) 1)))) 14) 1) 1) 1))) (asB (nthD ax (xadd (xadd (xadd (xix 0 (xnat (asI (nthD ox (xix 0 (xnat ↑i) 1)))) 14) 1) 1) 1)))) <|
 ck (xcm .eql (asI (nthD ax (xadd (xadd (xadd (xadd (xix 0 (xnat (asI (nthD ox (xix 0 (xnat ↑i) 1)))) 14) 1) 1) 1) 1))) (asI (nthD ax (xadd (xadd (xadd (xadd (xix 0 (xnat (asI (nthD ox (xix 0 (xnat ↑i) 1)))) 14) 1) 1) 1) 1)))) <|
 ck (xcm .eql (asI (nthD ax (xadd (xadd (xadd (xadd (xadd (xix 0 (xnat (asI (nthD ox (xix 0 (xnat ↑i) 1)))) 14) 1) 1) 1) 1) 1))) (asI (nthD ax (xadd (xadd (xadd (xadd (xadd (xix 0 (xnat (asI (nthD ox (xix 0 (xnat ↑i) 1)))) 14) 1) 1) 1) 1) 1)))) <|
 ck (xcm .eql (asI (nthD ax (xadd (xadd (xadd (xadd (xadd (xadd (xix 0 (xnat (asI (nthD ox (xix 0 (xnat ↑i) 1)))) 14) 1) 1) 1) 1) 1) 1))) (asI (nthD ax (xadd (xadd (xadd (xadd (xadd (xadd (xix 0 (xnat (asI (nthD ox (xix 0 (xnat ↑i) 1)))) 14) 1) 1) 1) 1) 1) 1)))) <|
 ck (xcm .eql (asI (nthD ax (xadd (xadd (xadd (xadd (xadd (xadd (xadd (xix 0 (xnat (asI (nthD ox (xix 0 (xnat ↑i) 1)))) 14) 1) 1) 1) 1) 1) 1) 1))) (asI (nthD ax (xadd (xadd (xadd (xadd (xadd (xadd (xadd (xix 0 (xnat (asI (nthD ox (xix 0 (xnat ↑i) 1)))) 14) 1) 1) 1) 1) 1) 1) 1)))) <|
 ck (xcm .eql (asI (nthD ax (xadd (xadd (xadd (xadd (xadd (xadd (xadd (xadd (xix 0 (xnat (asI (nthD ox (xix 0 (xnat ↑i) 1)))) 14) 1) 1) 1) 1) 1) 1) 1) 1))) (asI (nthD ax (xadd (xadd (xadd (xadd (xadd (xadd (xadd (xadd (xix 0 (xnat (asI (nthD ox (xix 0 (xnat ↑i) 1)))) 14) 1) 1) 1) 1) 1) 1) 1) 1)))) <|
 ck (xcm .eql (asI (nthD ax (xadd (xadd (xadd (xadd (xadd (xadd (xadd (xadd (xadd (xix 0 (xnat (asI (nthD ox (xix 0 (xnat ↑i) 1)))) 14) 1) 1) 1) 1) 1) 1) 1) 1) 1))) (asI (nthD ax (xadd (xadd (xadd (xadd (xadd (xadd (xadd (xadd (xadd (xix 0 (xnat (asI (nthD ox (xix 0 (xnat ↑i) 1)))) 14) 1) 1) 1) 1) 1) 1) 1) 1) 1)))) <|
 ck (xveq (asV (nthD ax (xadd (xadd (xadd (xadd (xadd (xadd (xadd (xadd (xadd (xadd (xix 0 (xnat (asI (nthD ox (xix 0 (xnat ↑i) 1)))) 14) 1) 1) 1) 1) 1) 1) 1) 1) 1) 1))) (asV (nthD ax (xadd (xadd (xadd (xadd (xadd (xadd (xadd (xadd (xadd (xadd (xix 0 (xnat (asI (nthD ox (xix 0 (xnat ↑i) 1)))) 14) 1) 1) 1) 1) 1) 1) 1) 1) 1) 1)))) <|
 ck (xveq (asV (nthD ax (xadd (xadd (xadd (xadd (xadd (xadd (xadd (xadd (xadd (xadd (xadd (xix 0 (xnat (asI (nthD ox (xix 0 (xnat ↑i) 1)))) 14) 1) 1) 1) 1) 1) 1) 1) 1) 1) 1) 1))) (asV (nthD ax (xadd (xadd (xadd (xadd (xadd (xadd (xadd (xadd (xadd (xadd (xadd (xix 0 (xnat (asI (nthD ox (xix 0 (xnat ↑i) 1)))) 14) 1) 1) 1) 1) 1) 1) 1) 1) 1) 1) 1)))) <|
 ck (xveq (asV (nthD ax (xadd (xadd (xadd (xadd (xadd (xadd (xadd (xadd (xadd (xadd (xadd (xadd (xix 0 (xnat (asI (nthD ox (xix 0 (xnat ↑i) 1)))) 14) 1) 1) 1) 1) 1) 1) 1) 1) 1) 1) 1) 1))) (asV (nthD ax (xadd (xadd (xadd (xadd (xadd (xadd (xadd (xadd (xadd (xadd (xadd (xadd (xix 0 (xnat (asI (nthD ox (xix 0 (xnat ↑i) 1)))) 14) 1) 1) 1) 1) 1) 1) 1) 1) 1) 1) 1) 1)))) <|
 ck (xstr .eql (asS (nthD ax (xadd (xadd (xadd (xadd (xadd (xadd (xadd (xadd (xadd (xadd (xadd (xadd (xadd (xix 0 (xnat (asI (nthD ox (xix 0 (xnat ↑i) 1)))) 14) 1) 1) 1) 1) 1) 1) 1) 1) 1) 1) 1) 1) 1))) (asS (nthD ax (xadd (xadd (xadd (xadd (xadd (xadd (xadd (xadd (xadd (xadd (xadd (xadd (xadd (xix 0 (xnat (asI (nthD ox (xix 0 (xnat ↑i) 1)))) 14) 1) 1) 1) 1) 1) 1) 1) 1) 1) 1) 1) 1) 1)))) <|
 ck (xle (xadd (xix 0 (xnat (asI (nthD ox (xix 0 (xnat ↑i) 1)))) 14) 14) (xln ax)) <|
 ck (isI .i64 (nthD ax (xix 0 (xnat (asI (nthD ox (xix 0 (xnat ↑i) 1)))) 14))) <|
 ck (isI .i64 (nthD ax (xadd (xix 0 (xnat (asI (nthD ox (xix 0 (xnat ↑i) 1)))) 14) 1))) <|
 ck (isI .i64 (nthD ax (xadd (xadd (xix 0 (xnat (asI (nthD ox (xix 0 (xnat ↑i) 1)))) 14) 1) 1))) <|
 ck (isB (nthD ax (xadd (xadd (xadd (xix 0 (xnat (asI (nthD ox (xix 0 (xnat ↑i) 1)))) 14) 1) 1) 1))) <|
 ck (isI .i64 (nthD ax (xadd (xadd (xadd (xadd (xix 0 (xnat (asI (nthD ox (xix 0 (xnat ↑i) 1)))) 14) 1) 1) 1) 1))) <|
 ck (isI .i64 (nthD ax (xadd (xadd (xadd (xadd (xadd (xix 0 (xnat (asI (nthD ox (xix 0 (xnat ↑i) 1)))) 14) 1) 1) 1) 1) 1))) <|
 ck (isI .u64 (nthD ax (xadd (xadd (xadd (xadd (xadd (xadd (xix 0 (xnat (asI (nthD ox (xix 0 (xnat ↑i) 1)))) 14) 1) 1) 1) 1) 1) 1))) <|
 ck (isI .u64 (nthD ax (xadd (xadd (xadd (xadd (xadd (xadd (xadd (xix 0 (xnat (asI (nthD ox (xix 0 (xnat ↑i) 1)))) 14) 1) 1) 1) 1) 1) 1) 1))) <|
 ck (isI .i64 (nthD ax (xadd (xadd (xadd (xadd (xadd (xadd (xadd (xadd (xix 0 (xnat (asI (nthD ox (xix 0 (xnat ↑i) 1)))) 14) 1) 1) 1) 1) 1) 1) 1) 1))) <|
 ck (isI .i64 (nthD ax (xadd (xadd (xadd (xadd (xadd (xadd (xadd (xadd (xadd (xix 0 (xnat (asI (nthD ox (xix 0 (xnat ↑i) 1)))) 14) 1) 1) 1) 1) 1) 1) 1) 1) 1))) <|
 ck (isV (nthD ax (xadd (xadd (xadd (xadd (xadd (xadd (xadd (xadd (xadd (xadd (xix 0 (xnat (asI (nthD ox (xix 0 (xnat ↑i) 1)))) 14) 1) 1) 1) 1) 1) 1) 1) 1) 1) 1))) <|
 ck (isV (nthD ax (xadd (xadd (xadd (xadd (xadd (xadd (xadd (xadd (xadd (xadd (xadd (xix 0 (xnat (asI (nthD ox (xix 0 (xnat ↑i) 1)))) 14) 1) 1) 1) 1) 1) 1) 1) 1) 1) 1) 1))) <|
 ck (isV (nthD ax (xadd (xadd (xadd (xadd (xadd (xadd (xadd (xadd (xadd (xadd (xadd (xadd (xix 0 (xnat (asI (nthD ox (xix 0 (xnat ↑i) 1)))) 14) 1) 1) 1) 1) 1) 1) 1) 1) 1) 1) 1) 1))) <|
 ck (isS (nthD ax (xadd (xadd (xadd (xadd (xadd (xadd (xadd (xadd (xadd (xadd (xadd (xadd (xadd (xix 0 (xnat (asI (nthD ox (xix 0 (xnat ↑i) 1)))) 14) 1) 1) 1) 1) 1) 1) 1) 1) 1) 1) 1) 1) 1))) <|
 ck (xcm .eql (asI (nthD ax (xix 0 (xnat (asI (nthD ox (xix 0 (xnat ↑i) 1)))) 14))) (asI (nthD ax (xix 0 (xnat (asI (nthD ox (xix 0 (xnat ↑i) 1)))) 14)))) <|
 ck (xcm .eql (asI (nthD ax (xadd (xix 0 (xnat (asI (nthD ox (xix 0 (xnat ↑i) 1)))) 14) 1))) (asI (nthD ax (xadd (xix 0 (xnat (asI (nthD ox (xix 0 (xnat ↑i) 1)))) 14) 1)))) <|
 ck (xcm .eql (asI (nthD ax (xadd (xadd (xix 0 (xnat (asI (nthD ox (xix 0 (xnat ↑i) 1)))) 14) 1) 1))) (asI (nthD ax (xadd (xadd (xix 0 (xnat (asI (nthD ox (xix 0 (xnat ↑i) 1)))) 14) 1) 1)))) <|
 ck (xbq (asB (nthD ax (xadd (xadd (xadd (xix 0 (xnat (asI (nthD ox (xix 0 (xnat ↑i) 1)))) 14) 1) 1) 1))) (asB (nthD ax (xadd (xadd (xadd (xix 0 (xnat (asI (nthD ox (xix 0 (xnat ↑i) 1)))) 14) 1) 1) 1)))) <|
 ck (xcm .eql (asI (nthD ax (xadd (xadd (xadd (xadd (xix 0 (xnat (asI (nthD ox (xix 0 (xnat ↑i) 1)))) 14) 1) 1) 1) 1))) (asI (nthD ax (xadd (xadd (xadd (xadd (xix 0 (xnat (asI (nthD ox (xix 0 (xnat ↑i) 1)))) 14) 1) 1) 1) 1)))) <|
 ck (xcm .eql (asI (nthD ax (xadd (xadd (xadd (xadd (xadd (xix 0 (xnat (asI (nthD ox (xix 0 (xnat ↑i) 1)))) 14) 1) 1) 1) 1) 1))) (asI (nthD ax (xadd (xadd (xadd (xadd (xadd (xix 0 (xnat (asI (nthD ox (xix 0 (xnat ↑i) 1)))) 14) 1) 1) 1) 1) 1)))) <|
 ck (xcm .eql (asI (nthD ax (xadd (xadd (xadd (xadd (xadd (xadd (xix 0 (xnat (asI (nthD ox (xix 0 (xnat ↑i) 1)))) 14) 1) 1) 1) 1) 1) 1))) (asI (nthD ax (xadd (xadd (xadd (xadd (xadd (xadd (xix 0 (xnat (asI (nthD ox (xix 0 (xnat ↑i) 1)))) 14) 1) 1) 1) 1) 1) 1)))) <|
 ck (xcm .eql (asI (nthD ax (xadd (xadd (xadd (xadd (xadd (xadd (xadd (xix 0 (xnat (asI (nthD ox (xix 0 (xnat ↑i) 1)))) 14) 1) 1) 1) 1) 1) 1) 1))) (asI (nthD ax (xadd (xadd (xadd (xadd (xadd (xadd (xadd (xix 0 (xnat (asI (nthD ox (xix 0 (xnat ↑i) 1)))) 14) 1) 1) 1) 1) 1) 1) 1)))) <|
 ck (xcm .eql (asI (nthD ax (xadd (xadd (xadd (xadd (xadd (xadd (xadd (xadd (xix 0 (xnat (asI (nthD ox (xix 0 (xnat ↑i) 1)))) 14) 1) 1) 1) 1) 1) 1) 1) 1))) (asI (nthD ax (xadd (xadd (xadd (xadd (xadd (xadd (xadd (xadd (xix 0 (xnat (asI (nthD ox (xix 0 (xnat ↑i) 1)))) 14) 1) 1) 1) 1) 1) 1) 1) 1)))) <|
 ck (xcm .eql (asI (nthD ax (xadd (xadd (xadd (xadd (xadd (xadd (xadd (xadd (xadd (xix 0 (xnat (asI (nthD ox (xix 0 (xnat ↑i) 1)))) 14) 1) 1) 1) 1) 1) 1) 1) 1) 1))) (asI (nthD ax (xadd (xadd (xadd (xadd (xadd (xadd (xadd (xadd (xadd (xix 0 (xnat (asI (nthD ox (xix 0 (xnat ↑i) 1)))) 14) 1) 1) 1) 1) 1) 1) 1) 1) 1)))) <|
 ck (xveq (asV (nthD ax (xadd (xadd (xadd (xadd (xadd (xadd (xadd (xadd (xadd (xadd (xix 0 (xnat (asI (nthD ox (xix 0 (xnat ↑i) 1)))) 14) 1) 1) 1) 1) 1) 1) 1) 1) 1) 1))) (asV (nthD ax (xadd (xadd (xadd (xadd (xadd (xadd (xadd (xadd (xadd (xadd (xix 0 (xnat (asI (nthD ox (xix 0 (xnat ↑i) 1)))) 14) 1) 1) 1) 1) 1) 1) 1) 1) 1) 1)))) <|
 ck (xveq (asV (nthD ax (xadd (xadd (xadd (xadd (xadd (xadd (xadd (xadd (xadd (xadd (xadd (xix 0 (xnat (asI (nthD ox (xix 0 (xnat ↑i) 1)))) 14) 1) 1) 1) 1) 1) 1) 1) 1) 1) 1) 1))) (asV (nthD ax (xadd (xadd (xadd (xadd (xadd (xadd (xadd (xadd (xadd (xadd (xadd (xix 0 (xnat (asI (nthD ox (xix 0 (xnat ↑i) 1)))) 14) 1) 1) 1) 1) 1) 1) 1) 1) 1) 1) 1)))) <|
 ck (xveq (asV (nthD ax (xadd (xadd (xadd (xadd (xadd (xadd (xadd (xadd (xadd (xadd (xadd (xadd (xix 0 (xnat (asI (nthD ox (xix 0 (xnat ↑i) 1)))) 14) 1) 1) 1) 1) 1) 1) 1) 1) 1) 1) 1) 1))) (asV (nthD ax (xadd (xadd (xadd (xadd (xadd (xadd (xadd (xadd (xadd (xadd (xadd (xadd (xix 0 (xnat (asI (nthD ox (xix 0 (xnat ↑i) 1)))) 14) 1) 1) 1) 1) 1) 1) 1) 1) 1) 1) 1) 1)))) <|
 ck (xstr .eql (asS (nthD ax (xadd (xadd (xadd (xadd (xadd (xadd (xadd (xadd (xadd (xadd (xadd (xadd (xadd (xix 0 (xnat (asI (nthD ox (xix 0 (xnat ↑i) 1)))) 14) 1) 1) 1) 1) 1) 1) 1) 1) 1) 1) 1) 1) 1))) (asS (nthD ax (xadd (xadd (xadd (xadd (xadd (xadd (xadd (xadd (xadd (xadd (xadd (xadd (xadd (xix 0 (xnat (asI (nthD ox (xix 0 (xnat ↑i) 1)))) 14) 1) 1) 1) 1) 1) 1) 1) 1) 1) 1) 1) 1) 1)))) <|
 ck (xle (xadd (xix 0 (xnat (asI (nthD ox (xix 0 (xnat ↑i) 1)))) 14) 14) (xln ax)) <|
 ck (isI .i64 (nthD ax (xix 0 (xnat (asI (nthD ox (xix 0 (xnat ↑i) 1)))) 14))) <|
 ck (isI .i64 (nthD ax (xadd (xix 0 (xnat (asI (nthD ox (xix 0 (xnat ↑i) 1)))) 14) 1))) <|
 ck (isI .i64 (nthD ax (xadd (xadd (xix 0 (xnat (asI (nthD ox (xix 0 (xnat ↑i) 1)))) 14) 1) 1))) <|
 ck (isB (nthD ax (xadd (xadd (xadd (xix 0 (xnat (asI (nthD ox (xix 0 (xnat ↑i) 1)))) 14) 1) 1) 1))) <|
 ck (isI .i64 (nthD ax (xadd (xadd (xadd (xadd (xix 0 (xnat (asI (nthD ox (xix 0 (xnat ↑i) 1)))) 14) 1) 1) 1) 1))) <|
 ck (isI .i64 (nthD ax (xadd (xadd (xadd (xadd (xadd (xix 0 (xnat (asI (nthD ox (xix 0 (xnat ↑i) 1)))) 14) 1) 1) 1) 1) 1))) <|
 ck (isI .u64 (nthD ax (xadd (xadd (xadd (xadd (xadd (xadd (xix 0 (xnat (asI (nthD ox (xix 0 (xnat ↑i) 1)))) 14) 1) 1) 1) 1) 1) 1))) <|
 ck (isI .u64 (nthD ax (xadd (xadd (xadd (xadd (xadd (xadd (xadd (xix 0 (xnat (asI (nthD ox (xix 0 (xnat ↑i) 1)))) 14) 1) 1) 1) 1) 1) 1) 1))) <|
 ck (isI .i64 (nthD ax (xadd (xadd (xadd (xadd (xadd (xadd (xadd (xadd (xix 0 (xnat (asI (nthD ox (xix 0 (xnat ↑i) 1)))) 14) 1) 1) 1) 1) 1) 1) 1) 1))) <|
 ck (isI .i64 (nthD ax (xadd (xadd (xadd (xadd (xadd (xadd (xadd (xadd (xadd (xix 0 (xnat (asI (nthD ox (xix 0 (xnat ↑i) 1)))) 14) 1) 1) 1) 1) 1) 1) 1) 1) 1))) <|
 ck (isV (nthD ax (xadd (xadd (xadd (xadd (xadd (xadd (xadd (xadd (xadd (xadd (xix 0 (xnat (asI (nthD ox (xix 0 (xnat ↑i) 1)))) 14) 1) 1) 1) 1) 1) 1) 1) 1) 1) 1))) <|
 ck (isV (nthD ax (xadd (xadd (xadd (xadd (xadd (xadd (xadd (xadd (xadd (xadd (xadd (xix 0 (xnat (asI (nthD ox (xix 0 (xnat ↑i) 1)))) 14) 1) 1) 1) 1) 1) 1) 1) 1) 1) 1) 1))) <|
 ck (isV (nthD ax (xadd (xadd (xadd (xadd (xadd (xadd (xadd (xadd (xadd (xadd (xadd (xadd (xix 0 (xnat (asI (nthD ox (xix 0 (xnat ↑i) 1)))) 14) 1) 1) 1) 1) 1) 1) 1) 1) 1) 1) 1) 1))) <|
 ck (isS (nthD ax (xadd (xadd (xadd (xadd (xadd (xadd (xadd (xadd (xadd (xadd (xadd (xadd (xadd (xix 0 (xnat (asI (nthD ox (xix 0 (xnat ↑i) 1)))) 14) 1) 1) 1) 1) 1) 1) 1) 1) 1) 1) 1) 1) 1))) <|
 ck (xcm .eql (asI (nthD ax (xix 0 (xnat (asI (nthD ox (xix 0 (xnat ↑i) 1)))) 14))) (asI (nthD ax (xix 0 (xnat (asI (nthD ox (xix 0 (xnat ↑i) 1)))) 14)))) <|
 ck (xcm .eql (asI (nthD ax (xadd (xix 0 (xnat (asI (nthD ox (xix 0 (xnat ↑i) 1)))) 14) 1))) (asI (nthD ax (xadd (xix 0 (xnat (asI (nthD ox (xix 0 (xnat ↑i) 1)))) 14) 1)))) <|
 ck (xcm .eql (asI (nthD ax (xadd (xadd (xix 0 (xnat (asI (nthD ox (xix 0 (xnat ↑i) 1)))) 14) 1) 1))) (asI (nthD ax (xadd (xadd (xix 0 (xnat (asI (nthD ox (xix 0 (xnat ↑i) 1)))) 14) 1) 1)))) <|
 ck (xbq (asB (nthD ax (xadd (xadd (xadd (xix 0 (xnat (asI (nthD ox (xix 0 (xnat ↑i) 1)))) 14) 1) 1) 1))) (asB (nthD ax (xadd (xadd (xadd (xix 0 (xnat (asI (nthD ox (xix 0 (xnat ↑i) 1)))) 14) 1) 1) 1)))) <|
 ck (xcm .eql (asI (nthD ax (xadd (xadd (xadd (xadd (xix 0 (xnat (asI (nthD ox (xix 0 (xnat ↑i) 1)))) 14) 1) 1) 1) 1))) (asI (nthD ax (xadd (xadd (xadd (xadd (xix 0 (xnat (asI (nthD ox (xix 0 (xnat ↑i) 1)))) 14) 1) 1) 1) 1)))) <|
 ck (xcm .eql (asI (nthD ax (xadd (xadd (xadd (xadd (xadd (xix 0 (xnat (asI (nthD ox (xix 0 (xnat ↑i) 1)))) 14) 1) 1) 1) 1) 1))) (asI (nthD ax (xadd (xadd (xadd (xadd (xadd (xix 0 (xnat (asI (nthD ox (xix 0 (xnat ↑i) 1)))) 14) 1) 1) 1) 1) 1)))) <|
 ck (xcm .eql (asI (nthD ax (xadd (xadd (xadd (xadd (xadd (xadd (xix 0 (xnat (asI (nthD ox (xix 0 (xnat ↑i) 1)))) 14) 1) 1) 1) 1) 1) 1))) (asI (nthD ax (xadd (xadd (xadd (xadd (xadd (xadd (xix 0 (xnat (asI (nthD ox (xix 0 (xnat ↑i) 1)))) 14) 1) 1) 1) 1) 1) 1)))) <|
 ck (xcm .eql (asI (nthD ax (xadd (xadd (xadd (xadd (xadd (xadd (xadd (xix 0 (xnat (asI (nthD ox (xix 0 (xnat ↑i) 1)))) 14) 1) 1) 1) 1) 1) 1) 1))) (asI (nthD ax (xadd (xadd (xadd (xadd (xadd (xadd (xadd (xix 0 (xnat (asI (nthD ox (xix 0 (xnat ↑i) 1)))) 14) 1) 1) 1) 1) 1) 1) 1)))) <|
 ck (xcm .eql (asI (nthD ax (xadd (xadd (xadd (xadd (xadd (xadd (xadd (xadd (xix 0 (xnat (asI (nthD ox (xix 0 (xnat ↑i) 1)))) 14) 1) 1) 1) 1) 1) 1) 1) 1))) (asI (nthD ax (xadd (xadd (xadd (xadd (xadd (xadd (xadd (xadd (xix 0 (xnat (asI (nthD ox (xix 0 (xnat ↑i) 1)))) 14) 1) 1) 1) 1) 1) 1) 1) 1)))) <|
 ck (xcm .eql (asI (nthD ax (xadd (xadd (xadd (xadd (xadd (xadd (xadd (xadd (xadd (xix 0 (xnat (asI (nthD ox (xix 0 (xnat ↑i) 1)))) 14) 1) 1) 1) 1) 1) 1) 1) 1) 1))) (asI (nthD ax (xadd (xadd (xadd (xadd (xadd (xadd (xadd (xadd (xadd (xix 0 (xnat (asI (nthD ox (xix 0 (xnat ↑i) 1)))) 14) 1) 1) 1) 1) 1) 1) 1) 1) 1)))) <|
 ck (xveq (asV (nthD ax (xadd (xadd (xadd (xadd (xadd (xadd (xadd (xadd (xadd (xadd (xix 0 (xnat (asI (nthD ox (xix 0 (xnat ↑i) 1)))) 14) 1) 1) 1) 1) 1) 1) 1) 1) 1) 1))) (asV (nthD ax (xadd (xadd (xadd (xadd (xadd (xadd (xadd (xadd (xadd (xadd (xix 0 (xnat (asI (nthD ox (xix 0 (xnat ↑i) 1)))) 14) 1) 1) 1) 1) 1) 1) 1) 1) 1) 1)))) <|
 ck (xveq (asV (nthD ax (xadd (xadd (xadd (xadd (xadd (xadd (xadd (xadd (xadd (xadd (xadd (xix 0 (xnat (asI (nthD ox (xix 0 (xnat ↑i) 1)))) 14) 1) 1) 1) 1) 1) 1) 1) 1) 1) 1) 1))) (asV (nthD ax (xadd (xadd (xadd (xadd (xadd (xadd (xadd (xadd (xadd (xadd (xadd (xix 0 (xnat (asI (nthD ox (xix 0 (xnat ↑i) 1)))) 14) 1) 1) 1) 1) 1) 1) 1) 1) 1) 1) 1)))) <|
 ck (xveq (asV (nthD ax (xadd (xadd (xadd (xadd (xadd (xadd (xadd (xadd (xadd (xadd (xadd (xadd (xix 0 (xnat (asI (nthD ox (xix 0 (xnat ↑i) 1)))) 14) 1) 1) 1) 1) 1) 1) 1) 1) 1) 1) 1) 1))) (asV (nthD ax (xadd (xadd (xadd (xadd (xadd (xadd (xadd (xadd (xadd (xadd (xadd (xadd (xix 0 (xnat (asI (nthD ox (xix 0 (xnat ↑i) 1)))) 14) 1) 1) 1) 1) 1) 1) 1) 1) 1) 1) 1) 1)))) <|
 ck (xstr .eql (asS (nthD ax (xadd (xadd (xadd (xadd (xadd (xadd (xadd (xadd (xadd (xadd (xadd (xadd (xadd (xix 0 (xnat (asI (nthD ox (xix 0 (xnat ↑i) 1)))) 14) 1) 1) 1) 1) 1) 1) 1) 1) 1) 1) 1) 1) 1))) (asS (nthD ax (xadd (xadd (xadd (xadd (xadd (xadd (xadd (xadd (xadd (xadd (xadd (xadd (xadd (xix 0 (xnat (asI (nthD ox (xix 0 (xnat ↑i) 1)))) 14) 1) 1) 1) 1) 1) 1) 1) 1) 1) 1) 1) 1) 1)))) <|
 ck (xle (xadd (xix 0 (xnat (asI (nthD ox (xix 0 (xnat ↑i) 1)))) 14) 14) (xln ax)) <|
 ck (isI .i64 (nthD ax (xix 0 (xnat (asI (nthD ox (xix 0 (xnat ↑i) 1)))) 14))) <|
 ck (isI .i64 (nthD ax (xadd (xix 0 (xnat (asI (nthD ox (xix 0 (xnat ↑i) 1)))) 14) 1))) <|
 ck (isI .i64 (nthD ax (xadd (xadd (xix 0 (xnat (asI (nthD ox (xix 0 (xnat ↑i) 1)))) 14) 1) 1))) <|
 ck (isB (nthD ax (xadd (xadd (xadd (xix 0 (xnat (asI (nthD ox (xix 0 (xnat ↑i) 1)))) 14) 1) 1) 1))) <|
 ck (isI .i64 (nthD ax (xadd (xadd (xadd (xadd (xix 0 (xnat (asI (nthD ox (xix 0 (xnat ↑i) 1)))) 14) 1) 1) 1) 1))) <|
 ck (isI .i64 (nthD ax (xadd (xadd (xadd (xadd (xadd (xix 0 (xnat (asI (nthD ox (xix 0 (xnat ↑i) 1)))) 14) 1) 1) 1) 1) 1))) <|
 ck (isI .u64 (nthD ax (xadd (xadd (xadd (xadd (xadd (xadd (xix 0 (xnat (asI (nthD ox (xix 0 (xnat ↑i) 1)))) 14) 1) 1) 1) 1) 1) 1))) <|
 ck (isI .u64 (nthD ax (xadd (xadd (xadd (xadd (xadd (xadd (xadd (xix 0 (xnat (asI (nthD ox (xix 0 (xnat ↑i) 1)))) 14) 1) 1) 1) 1) 1) 1) 1))) <|
 ck (isI .i64 (nthD ax (xadd (xadd (xadd (xadd (xadd (xadd (xadd (xadd (xix 0 (xnat (asI (nthD ox (xix 0 (xnat ↑i) 1)))) 14) 1) 1) 1) 1) 1) 1) 1) 1))) <|
 ck (isI .i64 (nthD ax (xadd (xadd (xadd (xadd (xadd (xadd (xadd (xadd (xadd (xix 0 (xnat (asI (nthD ox (xix 0 (xnat ↑i) 1)))) 14) 1) 1) 1) 1) 1) 1) 1) 1) 1))) <|
 ck (isV (nthD ax (xadd (xadd (xadd (xadd (xadd (xadd (xadd (xadd (xadd (xadd (xix 0 (xnat (asI (nthD ox (xix 0 (xnat ↑i) 1)))) 14) 1) 1) 1) 1) 1) 1) 1) 1) 1) 1))) <|
 ck (isV (nthD ax (xadd (xadd (xadd (xadd (xadd (xadd (xadd (xadd (xadd (xadd (xadd (xix 0 (xnat (asI (nthD ox (xix 0 (xnat ↑i) 1)))) 14) 1) 1) 1) 1) 1) 1) 1) 1) 1) 1) 1))) <|
 ck (isV (nthD ax (xadd (xadd (xadd (xadd (xadd (xadd (xadd (xadd (xadd (xadd (xadd (xadd (xix 0 (xnat (asI (nthD ox (xix 0 (xnat ↑i) 1)))) 14) 1) 1) 1) 1) 1) 1) 1) 1) 1) 1) 1) 1))) <|
 ck (isS (nthD ax (xadd (xadd (xadd (xadd (xadd (xadd (xadd (xadd (xadd (xadd (xadd (xadd (xadd (xix 0 (xnat (asI (nthD ox (xix 0 (xnat ↑i) 1)))) 14) 1) 1) 1) 1) 1) 1) 1) 1) 1) 1) 1) 1) 1))) <|
 ck (xcm .eql (asI (nthD ax (xix 0 (xnat (asI (nthD ox (xix 0 (xnat ↑i) 1)))) 14))) (asI (nthD ax (xix 0 (xnat (asI (nthD ox (xix 0 (xnat ↑i) 1)))) 14)))) <|
 ck (xcm .eql (asI (nthD ax (xadd (xix 0 (xnat (asI (nthD ox (xix 0 (xnat ↑i) 1)))) 14) 1))) (asI (nthD ax (xadd (xix 0 (xnat (asI (nthD ox (xix 0 (xnat ↑i) 1)))) 14) 1)))) <|
 ck (xcm .eql (asI (nthD ax (xadd (xadd (xix 0 (xnat (asI (nthD ox (xix 0 (xnat ↑i) 1)))) 14) 1) 1))) (asI (nthD ax (xadd (xadd (xix 0 (xnat (asI (nthD ox (xix 0 (xnat ↑i) 1)))) 14) 1) 1)))) <|
 ck (xbq (asB (nthD ax (xadd (xadd (xadd (xix 0 (xnat (asI (nthD ox (xix 0 (xnat ↑i) 1)))) 14) 1) 1) 1))) (asB (nthD ax (xadd (xadd (xadd (xix 0 (xnat (asI (nthD ox (xix 0 (xnat ↑i) 1)))) 14) 1) 1) 1)))) <|
 ck (xcm .eql (asI (nthD ax (xadd (xadd (xadd (xadd (xix 0 (xnat (asI (nthD ox (xix 0 (xnat ↑i) 1)))) 14) 1) 1) 1) 1))) (asI (nthD ax (xadd (xadd (xadd (xadd (xix 0 (xnat (asI (nthD ox (xix 0 (xnat ↑i) 1)))) 14) 1) 1) 1) 1)))) <|
 ck (xcm .eql (asI (nthD ax (xadd (xadd (xadd (xadd (xadd (xix 0 (xnat (asI (nthD ox (xix 0 (xnat ↑i) 1)))) 14) 1) 1) 1) 1) 1))) (asI (nthD ax (xadd (xadd (xadd (xadd (xadd (xix 0 (xnat (asI (nthD ox (xix 0 (xnat ↑i) 1)))) 14) 1) 1) 1) 1) 1)))) <|
 ck (xcm .eql (asI (nthD ax (xadd (xadd (xadd (xadd (xadd (xadd (xix 0 (xnat (asI (nthD ox (xix 0 (xnat ↑i) 1)))) 14) 1) 1) 1) 1) 1) 1))) (asI (nthD ax (xadd (xadd (xadd (xadd (xadd (xadd (xix 0 (xnat (asI (nthD ox (xix 0 (xnat ↑i) 1)))) 14) 1) 1) 1) 1) 1) 1)))) <|
 ck (xcm .eql (asI (nthD ax (xadd (xadd (xadd (xadd (xadd (xadd (xadd (xix 0 (xnat (asI (nthD ox (xix 0 (xnat ↑i) 1)))) 14) 1) 1) 1) 1) 1) 1) 1))) (asI (nthD ax (xadd (xadd (xadd (xadd (xadd (xadd (xadd (xix 0 (xnat (asI (nthD ox (xix 0 (xnat ↑i) 1)))) 14) 1) 1) 1) 1) 1) 1) 1)))) <|
 ck (xcm .eql (asI (nthD ax (xadd (xadd (xadd (xadd (xadd (xadd (xadd (xadd (xix 0 (xnat (asI (nthD ox (xix 0 (xnat ↑i) 1)))) 14) 1) 1) 1) 1) 1) 1) 1) 1))) (asI (nthD ax (xadd (xadd (xadd (xadd (xadd (xadd (xadd (xadd (xix 0 (xnat (asI (nthD ox (xix 0 (xnat ↑i) 1)))) 14) 1) 1) 1) 1) 1) 1) 1) 1)))) <|
 ck (xcm .eql (asI (nthD ax (xadd (xadd (xadd (xadd (xadd (xadd (xadd (xadd (xadd (xix 0 (xnat (asI (nthD ox (xix 0 (xnat ↑i) 1)))) 14) 1) 1) 1) 1) 1) 1) 1) 1) 1))) (asI (nthD ax (xadd (xadd (xadd (xadd (xadd (xadd (xadd (xadd (xadd (xix 0 (xnat (asI (nthD ox (xix 0 (xnat ↑i) 1)))) 14) 1) 1) 1) 1) 1) 1) 1) 1) 1)))) <|
 ck (xveq (asV (nthD ax (xadd (xadd (xadd (xadd (xadd (xadd (xadd (xadd (xadd (xadd (xix 0 (xnat (asI (nthD ox (xix 0 (xnat ↑i) 1)))) 14) 1) 1) 1) 1) 1) 1) 1) 1) 1) 1))) (asV (nthD ax (xadd (xadd (xadd (xadd (xadd (xadd (xadd (xadd (xadd (xadd (xix 0 (xnat (asI (nthD ox (xix 0 (xnat ↑i) 1)))) 14) 1) 1) 1) 1) 1) 1) 1) 1) 1) 1)))) <|
 ck (xveq (asV (nthD ax (xadd (xadd (xadd (xadd (xadd (xadd (xadd (xadd (xadd (xadd (xadd (xix 0 (xnat (asI (nthD ox (xix 0 (xnat ↑i) 1)))) 14) 1) 1) 1) 1) 1) 1) 1) 1) 1) 1) 1))) (asV (nthD ax (xadd (xadd (xadd (xadd (xadd (xadd (xadd (xadd (xadd (xadd (xadd (xix 0 (xnat (asI (nthD ox (xix 0 (xnat ↑i) 1)))) 14) 1) 1) 1) 1) 1) 1) 1) 1) 1) 1) 1)))) <|
 ck (xveq (asV (nthD ax (xadd (xadd (xadd (xadd (xadd (xadd (xadd (xadd (xadd (xadd (xadd (xadd (xix 0 (xnat (asI (nthD ox (xix 0 (xnat ↑i) 1)))) 14) 1) 1) 1) 1) 1) 1) 1) 1) 1) 1) 1) 1))) (asV (nthD ax (xadd (xadd (xadd (xadd (xadd (xadd (xadd (xadd (xadd (xadd (xadd (xadd (xix 0 (xnat (asI (nthD ox (xix 0 (xnat ↑i) 1)))) 14) 1) 1) 1) 1) 1) 1) 1) 1) 1) 1) 1) 1)))) <|
 ck (xstr .eql (asS (nthD ax (xadd (xadd (xadd (xadd (xadd (xadd (xadd (xadd (xadd (xadd (xadd (xadd (xadd (xix 0 (xnat (asI (nthD ox (xix 0 (xnat ↑i) 1)))) 14) 1) 1) 1) 1) 1) 1) 1) 1) 1) 1) 1) 1) 1))) (asS (nthD ax (xadd (xadd (xadd (xadd (xadd (xadd (xadd (xadd (xadd (xadd (xadd (xadd (xadd (xix 0 (xnat (asI (nthD ox (xix 0 (xnat ↑i) 1)))) 14) 1) 1) 1) 1) 1) 1) 1) 1) 1) 1) 1) 1) 1)))) <|
 ck (xle (xadd (xix 0 (xnat (asI (nthD ox (xix 0 (xnat ↑i) 1)))) 14) 14) (xln ax)) <|
 ck (isI .i64 (nthD ax (xix 0 (xnat (asI (nthD ox (xix 0 (xnat ↑i) 1)))) 14))) <|
 ck (isI .i64 (nthD ax (xadd (xix 0 (xnat (asI (nthD ox (xix 0 (xnat ↑i) 1)))) 14) 1))) <|
 ck (isI .i64 (nthD ax (xadd (xadd (xix 0 (xnat (asI (nthD ox (xix 0 (xnat ↑i) 1)))) 14) 1) 1))) <|
 ck (isB (nthD ax (xadd (xadd (xadd (xix 0 (xnat (asI (nthD ox (xix 0 (xnat ↑i) 1)))) 14) 1) 1) 1))) <|
 ck (isI .i64 (nthD ax (xadd (xadd (xadd (xadd (xix 0 (xnat (asI (nthD ox (xix 0 (xnat ↑i) 1)))) 14) 1) 1) 1) 1))) <|
 ck (isI .i64 (nthD ax (xadd (xadd (xadd (xadd (xadd (xix 0 (xnat (asI (nthD ox (xix 0 (xnat ↑i) 1)))) 14) 1) 1) 1) 1) 1))) <|
 ck (isI .u64 (nthD ax (xadd (xadd (xadd (xadd (xadd (xadd (xix 0 (xnat (asI (nthD ox (xix 0 (xnat ↑i) 1)))) 14) 1) 1) 1) 1) 1) 1))) <|
 ck (isI .u64 (nthD ax (xadd (xadd (xadd (xadd (xadd (xadd (xadd (xix 0 (xnat (asI (nthD ox (xix 0 (xnat ↑i) 1)))) 14) 1) 1) 1) 1) 1) 1) 1))) <|
 ck (isI .i64 (nthD ax (xadd (xadd (xadd (xadd (xadd (xadd (xadd (xadd (xix 0 (xnat (asI (nthD ox (xix 0 (xnat ↑i) 1)))) 14) 1) 1) 1) 1) 1) 1) 1) 1))) <|
 ck (isI .i64 (nthD ax (xadd (xadd (xadd (xadd (xadd (xadd (xadd (xadd (xadd (xix 0 (xnat (asI (nthD ox (xix 0 (xnat ↑i) 1)))) 14) 1) 1) 1) 1) 1) 1) 1) 1) 1))) <|
 ck (isV (nthD ax (xadd (xadd (xadd (xadd (xadd (xadd (xadd (xadd (xadd (xadd (xix 0 (xnat (asI (nthD ox (xix 0 (xnat ↑i) 1)))) 14) 1) 1) 1) 1) 1) 1) 1) 1) 1) 1))) <|
 ck (isV (nthD ax (xadd (xadd (xadd (xadd (xadd (xadd (xadd (xadd (xadd (xadd (xadd (xix 0 (xnat (asI (nthD ox (xix 0 (xnat ↑i) 1)))) 14) 1) 1) 1) 1) 1) 1) 1) 1) 1) 1) 1))) <|
 ck (isV (nthD ax (xadd (xadd (xadd (xadd (xadd (xadd (xadd (xadd (xadd (xadd (xadd (xadd (xix 0 (xnat (asI (nthD ox (xix 0 (xnat ↑i) 1)))) 14) 1) 1) 1) 1) 1) 1) 1) 1) 1) 1) 1) 1))) <|
 ck (isS (nthD ax (xadd (xadd (xadd (xadd (xadd (xadd (xadd (xadd (xadd (xadd (xadd (xadd (xadd (xix 0 (xnat (asI (nthD ox (xix 0 (xnat ↑i) 1)))) 14) 1) 1) 1) 1) 1) 1) 1) 1) 1) 1) 1) 1) 1))) <|
 ck (xcm .eql (asI (nthD ax (xix 0 (xnat (asI (nthD ox (xix 0 (xnat ↑i) 1)))) 14))) (asI (nthD ax (xix 0 (xnat (asI (nthD ox (xix 0 (xnat ↑i) 1)))) 14)))) <|
 ck (xcm .eql (asI (nthD ax (xadd (xix 0 (xnat (asI (nthD ox (xix 0 (xnat ↑i) 1)))) 14) 1))) (asI (nthD ax (xadd (xix 0 (xnat (asI (nthD ox (xix 0 (xnat ↑i) 1)))) 14) 1)))) <|
 ck (xcm .eql (asI (nthD ax (xadd (xadd (xix 0 (xnat (asI (nthD ox (xix 0 (xnat ↑i) 1)))) 14) 1) 1))) (asI (nthD ax (xadd (xadd (xix 0 (xnat (asI (nthD ox (xix 0 (xnat ↑i) 1)))) 14) 1) 1)))) <|
 ck (xbq (asB (nthD ax (xadd (xadd (xadd (xix 0 (xnat (asI (nthD ox (xix 0 (xnat ↑i) 1)))) 14) 1) 1) 1))) (asB (nthD ax (xadd (xadd (xadd (xix 0 (xnat (asI (nthD ox (xix 0 (xnat ↑i) 1)))) 14) 1) 1) 1)))) <|
 ck (xcm .eql (asI (nthD ax (xadd (xadd (xadd (xadd (xix 0 (xnat (asI (nthD ox (xix 0 (xnat ↑i) 1)))) 14) 1) 1) 1) 1))) (asI (nthD ax (xadd (xadd (xadd (xadd (xix 0 (xnat (asI (nthD ox (xix 0 (xnat ↑i) 1)))) 14) 1) 1) 1) 1)))) <|
 ck (xcm .eql (asI (nthD ax (xadd (xadd (xadd (xadd (xadd (xix 0 (xnat (asI (nthD ox (xix 0 (xnat ↑i) 1)))) 14) 1) 1) 1) 1) 1))) (asI (nthD ax (xadd (xadd (xadd (xadd (xadd (xix 0 (xnat (asI (nthD ox (xix 0 (xnat ↑i) 1)))) 14) 1) 1) 1) 1) 1)))) <|
 ck (xcm .eql (asI (nthD ax (xadd (xadd (xadd (xadd (xadd (xadd (xix 0 (xnat (asI (nthD ox (xix 0 (xnat ↑i) 1)))) 14) 1) 1) 1) 1) 1) 1))) (asI (nthD ax (xadd (xadd (xadd (xadd (xadd (xadd (xix 0 (xnat (asI (nthD ox (xix 0 (xnat ↑i) 1)))) 14) 1) 1) 1) 1) 1) 1)))) <|
 ck (xcm .eql (asI (nthD ax (xadd (xadd (xadd (xadd (xadd (xadd (xadd (xix 0 (xnat (asI (nthD ox (xix 0 (xnat ↑i) 1)))) 14) 1) 1) 1) 1) 1) 1) 1))) (asI (nthD ax (xadd (xadd (xadd (xadd (xadd (xadd (xadd (xix 0 (xnat (asI (nthD ox (xix 0 (xnat ↑i) 1)))) 14) 1) 1) 1) 1) 1) 1) 1)))) <|
 ck (xcm .eql (asI (nthD ax (xadd (xadd (xadd (xadd (xadd (xadd (xadd (xadd (xix 0 (xnat (asI (nthD ox (xix 0 (xnat ↑i) 1)))) 14) 1) 1) 1) 1) 1) 1) 1) 1))) (asI (nthD ax (xadd (xadd (xadd (xadd (xadd (xadd (xadd (xadd (xix 0 (xnat (asI (nthD ox (xix 0 (xnat ↑i) 1)))) 14) 1) 1) 1) 1) 1) 1) 1) 1)))) <|
 ck (xcm .eql (asI (nthD ax (xadd (xadd (xadd (xadd (xadd (xadd (xadd (xadd (xadd (xix 0 (xnat (asI (nthD ox (xix 0 (xnat ↑i) 1)))) 14) 1) 1) 1) 1) 1) 1) 1) 1) 1))) (asI (nthD ax (xadd (xadd (xadd (xadd (xadd (xadd (xadd (xadd (xadd (xix 0 (xnat (asI (nthD ox (xix 0 (xnat ↑i) 1)))) 14) 1) 1) 1) 1) 1) 1) 1) 1) 1)))) <|
 ck (xveq (asV (nthD ax (xadd (xadd (xadd (xadd (xadd (xadd (xadd (xadd (xadd (xadd (xix 0 (xnat (asI (nthD ox (xix 0 (xnat ↑i) 1)))) 14) 1) 1) 1) 1) 1) 1) 1) 1) 1) 1))) (asV (nthD ax (xadd (xadd (xadd (xadd (xadd (xadd (xadd (xadd (xadd (xadd (xix 0 (xnat (asI (nthD ox (xix 0 (xnat ↑i) 1)))) 14) 1) 1) 1) 1) 1) 1) 1) 1) 1) 1)))) <|
 ck (xveq (asV (nthD ax (xadd (xadd (xadd (xadd (xadd (xadd (xadd (xadd (xadd (xadd (xadd (xix 0 (xnat (asI (nthD ox (xix 0 (xnat ↑i) 1)))) 14) 1) 1) 1) 1) 1) 1) 1) 1) 1) 1) 1))) (asV (nthD ax (xadd (xadd (xadd (xadd (xadd (xadd (xadd (xadd (xadd (xadd (xadd (xix 0 (xnat (asI (nthD ox (xix 0 (xnat ↑i) 1)))) 14) 1) 1) 1) 1) 1) 1) 1) 1) 1) 1) 1)))) <|
 ck (xveq (asV (nthD ax (xadd (xadd (xadd (xadd (xadd (xadd (xadd (xadd (xadd (xadd (xadd (xadd (xix 0 (xnat (asI (nthD ox (xix 0 (xnat ↑i) 1)))) 14) 1) 1) 1) 1) 1) 1) 1) 1) 1) 1) 1) 1))) (asV (nthD ax (xadd (xadd (xadd (xadd (xadd (xadd (xadd (xadd (xadd (xadd (xadd (xadd (xix 0 (xnat (asI (nthD ox (xix 0 (xnat ↑i) 1)))) 14) 1) 1) 1) 1) 1) 1) 1) 1) 1) 1) 1) 1)))) <|
 ck (xstr .eql (asS (nthD ax (xadd (xadd (xadd (xadd (xadd (xadd (xadd (xadd (xadd (xadd (xadd (xadd (xadd (xix 0 (xnat (asI (nthD ox (xix 0 (xnat ↑i) 1)))) 14) 1) 1) 1) 1) 1) 1) 1) 1) 1) 1) 1) 1) 1))) (asS (nthD ax (xadd (xadd (xadd (xadd (xadd (xadd (xadd (xadd (xadd (xadd (xadd (xadd (xadd (xix 0 (xnat (asI (nthD ox (xix 0 (xnat ↑i) 1)))) 14) 1) 1) 1) 1) 1) 1) 1) 1) 1) 1) 1) 1) 1)))) <|
 ck (xle (xadd (xix 0 (xnat (asI (nthD ox (xix 0 (xnat ↑i) 1)))) 14) 14) (xln ax)) <|
 ck (isI .i64 (nthD ax (xix 0 (xnat (asI (nthD ox (xix 0 (xnat ↑i) 1)))) 14))) <|
 ck (isI .i64 (nthD ax (xadd (xix 0 (xnat (asI (nthD ox (xix 0 (xnat ↑i) 1)))) 14) 1))) <|
 ck (isI .i64 (nthD ax (xadd (xadd (xix 0 (xnat (asI (nthD ox (xix 0 (xnat ↑i) 1)))) 14) 1) 1))) <|
 ck (isB (nthD ax (xadd (xadd (xadd (xix 0 (xnat (asI (nthD ox (xix 0 (xnat ↑i) 1)))) 14) 1) 1) 1))) <|
 ck (isI .i64 (nthD ax (xadd (xadd (xadd (xadd (xix 0 (xnat (asI (nthD ox (xix 0 (xnat ↑i) 1)))) 14) 1) 1) 1) 1))) <|
 ck (isI .i64 (nthD ax (xadd (xadd (xadd (xadd (xadd (xix 0 (xnat (asI (nthD ox (xix 0 (xnat ↑i) 1)))) 14) 1) 1) 1) 1) 1))) <|
 ck (isI .u64 (nthD ax (xadd (xadd (xadd (xadd (xadd (xadd (xix 0 (xnat (asI (nthD ox (xix 0 (xnat ↑i) 1)))) 14) 1) 1) 1) 1) 1) 1))) <|
 ck (isI .u64 (nthD ax (xadd (xadd (xadd (xadd (xadd (xadd (xadd (xix 0 (xnat (asI (nthD ox (xix 0 (xnat ↑i) 1)))) 14) 1) 1) 1) 1) 1) 1) 1))) <|
 ck (isI .i64 (nthD ax (xadd (xadd (xadd (xadd (xadd (xadd (xadd (xadd (xix 0 (xnat (asI (nthD ox (xix 0 (xnat ↑i) 1)))) 14) 1) 1) 1) 1) 1) 1) 1) 1))) <|
 ck (isI .i64 (nthD ax (xadd (xadd (xadd (xadd (xadd (xadd (xadd (xadd (xadd (xix 0 (xnat (asI (nthD ox (xix 0 (xnat ↑i) 1)))) 14) 1) 1) 1) 1) 1) 1) 1) 1) 1))) <|
 ck (isV (nthD ax (xadd (xadd (xadd (xadd (xadd (xadd (xadd (xadd (xadd (xadd (xix 0 (xnat (asI (nthD ox (xix 0 (xnat ↑i) 1)))) 14) 1) 1) 1) 1) 1) 1) 1) 1) 1) 1))) <|
 ck (isV (nthD ax (xadd (xadd (xadd (xadd (xadd (xadd (xadd (xadd (xadd (xadd (xadd (xix 0 (xnat (asI (nthD ox (xix 0 (xnat ↑i) 1)))) 14) 1) 1) 1) 1) 1) 1) 1) 1) 1) 1) 1))) <|
 ck (isV (nthD ax (xadd (xadd (xadd (xadd (xadd (xadd (xadd (xadd (xadd (xadd (xadd (xadd (xix 0 (xnat (asI (nthD ox (xix 0 (xnat ↑i) 1)))) 14) 1) 1) 1) 1) 1) 1) 1) 1) 1) 1) 1) 1))) <|
 ck (isS (nthD ax (xadd (xadd (xadd (xadd (xadd (xadd (xadd (xadd (xadd (xadd (xadd (xadd (xadd (xix 0 (xnat (asI (nthD ox (xix 0 (xnat ↑i) 1)))) 14) 1) 1) 1) 1) 1) 1) 1) 1) 1) 1) 1) 1) 1))) <|
 ck (xcm .eql (asI (nthD ax (xix 0 (xnat (asI (nthD ox (xix 0 (xnat ↑i) 1)))) 14))) (asI (nthD ax (xix 0 (xnat (asI (nthD ox (xix 0 (xnat ↑i) 1)))) 14)))) <|
 ck (xcm .eql (asI (nthD ax (xadd (xix 0 (xnat (asI (nthD ox (xix 0 (xnat ↑i) 1)))) 14) 1))) (asI (nthD ax (xadd (xix 0 (xnat (asI (nthD ox (xix 0 (xnat ↑i) 1)))) 14) 1)))) <|
 ck (xcm .eql (asI (nthD ax (xadd (xadd (xix 0 (xnat (asI (nthD ox (xix 0 (xnat ↑i) 1)))) 14) 1) 1))) (asI (nthD ax (xadd (xadd (xix 0 (xnat (asI (nthD ox (xix 0 (xnat ↑i) 1)))) 14) 1) 1)))) <|
 ck (xbq (asB (nthD ax (xadd (xadd (xadd (xix 0 (xnat (asI (nthD ox (xix 0 (xnat ↑i) 1)))) 14) 1) 1) 1))) (asB (nthD ax (xadd (xadd (xadd (xix 0 (xnat (asI (nthD ox (xix 0 (xnat ↑i) 1)))) 14) 1) 1) 1)))) <|
 ck (xcm .eql (asI (nthD ax (xadd (xadd (xadd (xadd (xix 0 (xnat (asI (nthD ox (xix 0 (xnat ↑i) 1)))) 14) 1) 1) 1) 1))) (asI (nthD ax (xadd (xadd (xadd (xadd (xix 0 (xnat (asI (nthD ox (xix 0 (xnat ↑i) 1)))) 14) 1) 1) 1) 1)))) <|
 ck (xcm .eql (asI (nthD ax (xadd (xadd (xadd (xadd (xadd (xix 0 (xnat (asI (nthD ox (xix 0 (xnat ↑i) 1)))) 14) 1) 1) 1) 1) 1))) (asI (nthD ax (xadd (xadd (xadd (xadd (xadd (xix 0 (xnat (asI (nthD ox (xix 0 (xnat ↑i) 1)))) 14) 1) 1) 1) 1) 1)))) <|
 ck (xcm .eql (asI (nthD ax (xadd (xadd (xadd (xadd (xadd (xadd (xix 0 (xnat (asI (nthD ox (xix 0 (xnat ↑i) 1)))) 14) 1) 1) 1) 1) 1) 1))) (asI (nthD ax (xadd (xadd (xadd (xadd (xadd (xadd (xix 0 (xnat (asI (nthD ox (xix 0 (xnat ↑i) 1)))) 14) 1) 1) 1) 1) 1) 1)))) <|
 ck (xcm .eql (asI (nthD ax (xadd (xadd (xadd (xadd (xadd (xadd (xadd (xix 0 (xnat (asI (nthD ox (xix 0 (xnat ↑i) 1)))) 14) 1) 1) 1) 1) 1) 1) 1))) (asI (nthD ax (xadd (xadd (xadd (xadd (xadd (xadd (xadd (xix 0 (xnat (asI (nthD ox (xix 0 (xnat ↑i) 1)))) 14) 1) 1) 1) 1) 1) 1) 1)))) <|
 ck (xcm .eql (asI (nthD ax (xadd (xadd (xadd (xadd (xadd (xadd (xadd (xadd (xix 0 (xnat (asI (nthD ox (xix 0 (xnat ↑i) 1)))) 14) 1) 1) 1) 1) 1) 1) 1) 1))) (asI (nthD ax (xadd (xadd (xadd (xadd (xadd (xadd (xadd (xadd (xix 0 (xnat (asI (nthD ox (xix 0 (xnat ↑i) 1)))) 14) 1) 1) 1) 1) 1) 1) 1) 1)))) <|
 ck (xcm .eql (asI (nthD ax (xadd (xadd (xadd (xadd (xadd (xadd (xadd (xadd (xadd (xix 0 (xnat (asI (nthD ox (xix 0 (xnat ↑i) 1)))) 14) 1) 1) 1) 1) 1) 1) 1) 1) 1))) (asI (nthD ax (xadd (xadd (xadd (xadd (xadd (xadd (xadd (xadd (xadd (xix 0 (xnat (asI (nthD ox (xix 0 (xnat ↑i) 1)))) 14) 1) 1) 1) 1) 1) 1) 1) 1) 1)))) <|
 ck (xveq (asV (nthD ax (xadd (xadd (xadd (xadd (xadd (xadd (xadd (xadd (xadd (xadd (xix 0 (xnat (asI (nthD ox (xix 0 (xnat ↑i) 1)))) 14) 1) 1) 1) 1) 1) 1) 1) 1) 1) 1))) (asV (nthD ax (xadd (xadd (xadd (xadd (xadd (xadd (xadd (xadd (xadd (xadd (xix 0 (xnat (asI (nthD ox (xix 0 (xnat ↑i) 1)))) 14) 1) 1) 1) 1) 1) 1) 1) 1) 1) 1)))) <|
 ck (xveq (asV (nthD ax (xadd (xadd (xadd (xadd (xadd (xadd (xadd (xadd (xadd (xadd (xadd (xix 0 (xnat (asI (nthD ox (xix 0 (xnat ↑i) 1)))) 14) 1) 1) 1) 1) 1) 1) 1) 1) 1) 1) 1))) (asV (nthD ax (xadd (xadd (xadd (xadd (xadd (xadd (xadd (xadd (xadd (xadd (xadd (xix 0 (xnat (asI (nthD ox (xix 0 (xnat ↑i) 1)))) 14) 1) 1) 1) 1) 1) 1) 1) 1) 1) 1) 1)))) <|
 ck (xveq (asV (nthD ax (xadd (xadd (xadd (xadd (xadd (xadd (xadd (xadd (xadd (xadd (xadd (xadd (xix 0 (xnat (asI (nthD ox (xix 0 (xnat ↑i) 1)))) 14) 1) 1) 1) 1) 1) 1) 1) 1) 1) 1) 1) 1))) (asV (nthD ax (xadd (xadd (xadd (xadd (xadd (xadd (xadd (xadd (xadd (xadd (xadd (xadd (xix 0 (xnat (asI (nthD ox (xix 0 (xnat ↑i) 1)))) 14) 1) 1) 1) 1) 1) 1) 1) 1) 1) 1) 1) 1)))) <|
 ck (xstr .eql (asS (nthD ax (xadd (xadd (xadd (xadd (xadd (xadd (xadd (xadd (xadd (xadd (xadd (xadd (xadd (xix 0 (xnat (asI (nthD ox (xix 0 (xnat ↑i) 1)))) 14) 1) 1) 1) 1) 1) 1) 1) 1) 1) 1) 1) 1) 1))) (asS (nthD ax (xadd (xadd (xadd (xadd (xadd (xadd (xadd (xadd (xadd (xadd (xadd (xadd (xadd (xix 0 (xnat (asI (nthD ox (xix 0 (xnat ↑i) 1)))) 14) 1) 1) 1) 1) 1) 1) 1) 1) 1) 1) 1) 1) 1)))) <|
 bif leW (asI (nthD ax (xadd (xadd (xadd (xadd (xix 0 (xnat (asI (nthD ox (xix 0 (xnat ↑i) 1)))) 14) 1) 1) 1) 1))) (asI (nthD ax (xadd (xadd (xadd (xadd (xadd (xadd (xadd (xix 0 (xnat (asI (nthD ox (xix 0 (xnat ↑i) 1)))) 14) 1) 1) 1) 1) 1) 1) 1))) (asI (nthD ax (xadd (xadd (xadd (xadd (xadd (xadd (xadd (xadd (xix 0 (xnat (asI (nthD ox (xix 0 (xnat ↑i) 1)))) 14) 1) 1) 1) 1) 1) 1) 1) 1))) (asV (nthD ax (xadd (xadd (xadd (xadd (xadd (xadd (xadd (xadd (xadd (xadd (xadd (xix 0 (xnat (asI (nthD ox (xix 0 (xnat ↑i) 1)))) 14) 1) 1) 1) 1) 1) 1) 1) 1) 1) 1) 1))) (asI (nthD ax (xadd (xadd (xadd (xadd (xix 0 (xnat (asI (nthD ox (xix 0 (xnat (xar .sub .i64 (↑i) 1)) 1)))) 14) 1) 1) 1) 1))) (asI (nthD ax (xadd (xadd (xadd (xadd (xadd (xadd (xadd (xix 0 (xnat (asI (nthD ox (xix 0 (xnat (xar .sub .i64 (↑i) 1)) 1)))) 14) 1) 1) 1) 1) 1) 1) 1))) (asI (nthD ax (xadd (xadd (xadd (xadd (xadd (xadd (xadd (xadd (xix 0 (xnat (asI (nthD ox (xix 0 (xnat (xar .sub .i64 (↑i) 1)) 1)))) 14) 1) 1) 1) 1) 1) 1) 1) 1))) (asV (nthD ax (xadd (xadd (xadd (xadd (xadd (xadd (xadd (xadd (xadd (xadd (xadd (xix 0 (xnat (asI (nthD ox (xix 0 (xnat (xar .sub .i64 (↑i) 1)) 1)))) 14) 1) 1) 1) 1) 1) 1) 1) 1) 1) 1) 1))) then(
 K .ret [.any,.bool false,.slo 0 0 m 0,.slo 1 0 m 0,.slo 2 0 m 0,.int .i64 ↑i] (la_c_b1 i ax ox bx) (factG F))
 else(
 bif xcm .lss (asI (nthD ax (xadd (xadd (xadd (xadd (xadd (xadd (xadd (xix 0 (xnat (asI (nthD ox (xix 0 (xnat ↑i) 1)))) 14) 1) 1) 1) 1) 1) 1) 1))) (asI (nthD ax (xadd (xadd (xadd (xadd (xadd (xadd (xadd (xix 0 (xnat (asI (nthD ox (xix 0 (xnat (xar .sub .i64 (↑i) 1)) 1)))) 14) 1) 1) 1) 1) 1) 1) 1))) then(
 K .ret [.any,.bool false,.slo 0 0 m 0,.slo 1 0 m 0,.slo 2 0 m 0,.int .i64 ↑i] (la_c_b1 i ax ox bx) (factG F))
 else(
 bif xcm .eql (asI (nthD ax (xadd (xadd (xadd (xadd (xadd (xadd (xadd (xix 0 (xnat (asI (nthD ox (xix 0 (xnat (xar .sub .i64 (↑i) 1)) 1)))) 14) 1) 1) 1) 1) 1) 1) 1))) (asI (nthD ax (xadd (xadd (xadd (xadd (xadd (xadd (xadd (xix 0 (xnat (asI (nthD ox (xix 0 (xnat ↑i) 1)))) 14) 1) 1) 1) 1) 1) 1) 1))) then(
 bif xcm .eql (asI (nthD ax (xadd (xadd (xadd (xadd (xix 0 (xnat (asI (nthD ox (xix 0 (xnat ↑i) 1)))) 14) 1) 1) 1) 1))) 2 then(
 bif xcm .gtr (↑(xvl (asV (nthD ax (xadd (xadd (xadd (xadd (xadd (xadd (xadd (xadd (xadd (xadd (xadd (xix 0 (xnat (asI (nthD ox (xix 0 (xnat ↑i) 1)))) 14) 1) 1) 1) 1) 1) 1) 1) 1) 1) 1) 1))))) 0 then(
 bif xcm .eql (asI (nthD ax (xadd (xadd (xadd (xadd (xix 0 (xnat (asI (nthD ox (xix 0 (xnat (xar .sub .i64 (↑i) 1)) 1)))) 14) 1) 1) 1) 1))) 2 then(
 bif xnot (xcm .gtr (↑(xvl (asV (nthD ax (xadd (xadd (xadd (xadd (xadd (xadd (xadd (xadd (xadd (xadd (xadd (xix 0 (xnat (asI (nthD ox (xix 0 (xnat (xar .sub .i64 (↑i) 1)) 1)))) 14) 1) 1) 1) 1) 1) 1) 1) 1) 1) 1) 1))))) 0) then(
 K .ret [.any,.bool false,.slo 0 0 m 0,.slo 1 0 m 0,.slo 2 0 m 0,.int .i64 ↑i] (la_c_b1 i ax ox bx) (factG F))
 else(
 K .normal [.any,.any,.slo 0 0 m 0,.slo 1 0 m 0,.slo 2 0 m 0,.int .i64 (xar .add .i64 (↑i) 1)] (la_c_b1 i ax ox bx) (factG F)))
 else(
 K .ret [.any,.bool false,.slo 0 0 m 0,.slo 1 0 m 0,.slo 2 0 m 0,.int .i64 ↑i] (la_c_b1 i ax ox bx) (factG F)))
 else(
 K .normal [.any,.any,.slo 0 0 m 0,.slo 1 0 m 0,.slo 2 0 m 0,.int .i64 (xar .add .i64 (↑i) 1)] (la_c_b1 i ax ox bx) (factG F)))
 else(
 K .normal [.any,.any,.slo 0 0 m 0,.slo 1 0 m 0,.slo 2 0 m 0,.int .i64 (xar .add .i64 (↑i) 1)] (la_c_b1 i ax ox bx) (factG F)))
 else(
 K .normal [.any,.any,.slo 0 0 m 0,.slo 1 0 m 0,.slo 2 0 m 0,.int .i64 (xar .add .i64 (↑i) 1)] (la_c_b1 i ax ox bx) (factG F)))))))))
 else(
 K (.exit 0) [.any,.any,.slo 0 0 m 0,.slo 1 0 m 0,.slo 2 0 m 0,.int .i64 ↑i] [some (.ro ax),sC ox 1,sC bx 1] (factG F))):=by kernel_rfl
theorem la_z (m i:Nat) (ax ox bx:List LV) (F:World→Prop) (K:Pk):(xsp prog cxl2 60 115 (lS.drop 10) (mkTm 115 (lT m i)) (mkS (lH ax ox bx) (factG F)) (vK lL K))=(
 K .ret [.any,.bool true,.slo 0 0 m 0,.slo 1 0 m 0,.slo 2 0 m 0,.int .i64 ↑i] [some (.ro ax),sC ox 1,sC bx 1] (factG F)):=by kernel_rfl
end
end Go.Lev
