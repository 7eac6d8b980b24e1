/- chapter 29: Order as a contract; trees of the law -/
import Derived.Test.YtagmiaajpkpmjaaCJ9
import Derived.Test.YtagmiaajpkpmjaaLc
import Derived.Test.YtagmiaajpkpmjaaChecked
import Derived.KernelRfl
namespace Go.Lev
set_option linter.unusedSimpArgs false
set_option linter.unusedVariables false
open Go.RowKit
open Go.Proofs.Try (prog)
set_option maxRecDepth 100000
noncomputable section
theorem fl_set {n i:Nat} (h:i < n):(List.range i++List.replicate (n - i) 0).set i i=List.range (i+1)++List.replicate (n - (i+1)) 0:=by
 obtain⟨k,hk⟩:∃ k,n - i=k+1:=⟨n - i - 1,by omega⟩
 rw [hk,show n - (i+1)=k by omega,List.set_append_right _ _ (by simp),List.length_range,Nat.sub_self,List.replicate_succ,List.set_cons_zero,List.range_succ,List.append_assoc]; rfl
theorem od_ok (n:Nat) (c:List LV) (F:World→Prop) (k1:okAt c n=true):SFun prog 7 [.slo 0 0 n 0] (mkS [.ro c] (factG F)) fun l s=>l=.slo 1 0 n 0∧s=mkS [.ro c,.cells (orW c n) (some 1)] (factG F):=by
 refine SFun.mono (SFun.pieces (Q:=fun l b=>l=.slo 1 0 n 0∧b=[.ro c,.cells (orW c n) (some 1)]) 22 1 oL [2] (by kernel_rfl) rfl rfl rfl ?_) fun l s' ⟨b0,⟨h1,h2⟩,h3⟩=>⟨h1,by rw [h3,h2]⟩
 have na:noIds c=true:=okAt_nd k1
 have h2:n≤20:=by obtain⟨ats,_,_,q⟩:=okAt_iff.1 k1; exact q
 have kr:okRg (encL nI (List.range n)) n=true:=okRg_iff.2 rfl
 have nr:=noids_nI (List.range n)
 have no:noIds (orW c n)=true:=noids_nI _
 have z0:xle n n=true:=t_le (Nat.le_refl _)
 have e3:xcm .eql ((n:Nat):Int) (Int.ofNat n)=true:=t_eql rfl
 refine SSp.to cxo_ok (n:=60) (g:=factG F) 3 3 rfl (σ:=Unit) (fun _=>oT n 0) (fun _=>oH n c (encL nI (List.range 0++List.replicate (n - 0) 0))) (mkS_le (Nat.le_of_ble_eq_true rfl)) (by kernel_rfl) ?_ fun _=>?_
 ·have z1:xle n 100000=true:=t_le (by omega)
  have eR:xrep n [.int .i64 0]=encL nI (List.range 0++List.replicate (n - 0) 0):=by
   show xrep n [.int .i64 0]=encL nI (List.replicate n 0)
   exact encL_rep (f:=nI) (0:Nat) n
  have nR:=noids_nI (List.range 0++List.replicate (n - 0) 0)
  have lR:(encL nI (List.range 0++List.replicate (n - 0) 0)).length=n * 1:=by rw [nI_n]; simp
  rw [oq_a]
  simp only [wd_nat,z0,z1,cond_true]
  rw [eR]
  exact⟨rfl,(),[.id 0,.id 1,.cap 2 0 n],by(exact zC)⟩
 try dsimp only
 refine SSp.code_to (g:=factG F) 4 rfl (σ:=Unit) (fun _=>oT n n) (fun _=>oH n c (encL nI (List.range n))) (by kernel_rfl) ?_ fun _=>?_
 ·refine SCode.loop_vc cxo_ok (n:=60) (n0:=1) 0 (by kernel_rfl) (σ:={i:Nat // i≤n}) (fun i=>oT n i.1) (fun i=>oH n c (encL nI (List.range i.1++List.replicate (n - i.1) 0))) (fun i=>n - i.1) (fun _=>Nat.le_of_ble_eq_true rfl) (fun⟨i,hi⟩=>?_) ⟨0,Nat.zero_le _⟩
  dsimp only
  rw [oq_b]
  have nf:=noids_nI (List.range i++List.replicate (n - i) 0)
  by_cases h0:i < n
  ·have y0:xcm .lss ((i:Nat):Int) ((n:Nat):Int)=true:=t_lss (by omega)
   have y1:xle (i+1) n=true:=t_le (by omega)
   have e1:xar .add .i64 (i:Int) 1=((i+1:Nat):Int):=inc_i64 h0 (by omega)
   have lf:=nI_n (List.range i++List.replicate (n - i) 0)
   have ln:(List.range i++List.replicate (n - i) 0).length=n:=by simp; omega
   have s1:=nI_set (xs:=List.range i++List.replicate (n - i) 0) (i:=i) (by rw [ln]; exact h0) i
   rw [fl_set h0] at s1
   have nf1:=noids_nI (List.range (i+1)++List.replicate (n - (i+1)) 0)
   simp only [y0,y1,e1,lf,ln,s1,wd_nat,wd_ix,wd_mul,wd_add,wd_ln,Nat.zero_add,Nat.mul_one,cond_true]
   exact⟨rfl,⟨i+1,h0⟩,by dsimp only; omega,[.id 0,.id 1,.id 2],by(exact zC)⟩
  ·obtain rfl:i=n:=by omega
   have y0:xcm .lss ((i:Nat):Int) ((i:Nat):Int)=false:=f_lss (by omega)
   have ef:List.range i++List.replicate (i - i) 0=List.range i:=by simp
   rw [ef]
   simp only [y0,cond_false]
   exact⟨rfl,(),[.id 0,.id 1,.id 2],by(exact zC)⟩
 try dsimp only
 refine SSp.to cxo_ok (n:=60) (g:=factG F) 1 5 rfl (σ:=Unit) (fun _=>oT2 n) (fun _=>oH n c (orW c n)) (mkS_le (Nat.le_of_ble_eq_true rfl)) (by kernel_rfl) ?_ fun _=>?_
 ·rw [oq_c]
  simp only [k1,kr,e3,z0,cond_true]
  exact⟨rfl,(),[.id 0,.id 1,.id 2],by(exact zC)⟩
 try dsimp only
 refine zE cxo_ok ?_
 rw [oq_z]
 exact⟨trivial,rfl,_,_,[.id 0,.id 2],⟨rfl,rfl⟩,by(exact zC)⟩
def odG:Gc:=fun args s=>match args,s.g with
 | [.slo a 0 n 0],[(0,[.fact F])]=>(match s.h.get a with
   | some (.ro c)=>(match s.lay [a] [.ro c] [.cells (orW c n) (some 1)] with
     | some s'=>some ([okAt c n],.slo s.n 0 n 0,s')
     | none=>none)
   | _=>none)
 | _,_=>none
theorem odG_ok:GOk prog 7 odG:=by
 intro args s bs l s' hg hb hfr
 unfold odG at hg
 split at hg
 ·rename_i a n F hgl
  split at hg
  ·rename_i c hb0
   split at hg
   ·rename_i s1 hs1
    simp only [Option.some.injEq,Prod.mk.injEq] at hg
    obtain⟨rfl,rfl,rfl⟩:=hg
    simp only [allT_cons] at hb
    obtain⟨k1,_⟩:=hb
    have nc:noIds c=true:=okAt_nd k1
    refine SFun.lay (bs:=[.ro c]) (args0:=[.slo 0 0 n 0]) (bs':=[.ro c,.cells (orW c n) (some 1)]) (v0:=.slo 1 0 n 0) hfr hs1 (by simp)
     ⟨⟨there hfr hb0,_,hb0,lb_ro (by(exact zId)),fun κ hκ=>lb_ro (by(exact zId))⟩,trivial⟩ (by(exact zTl)) ?_
     fun κ h1 h2=>⟨⟨lb_ro (by(exact zId)),lb_same (noids_nI _),trivial⟩,lw_slo (h2 0 (by simp))⟩
    rw [hgl]; exact(od_ok n c F k1)
   ·cases hg
  ·cases hg
 ·cases hg
def okN0 (c:List LV):Bool:=noIds c
theorem at0_ok (n:Nat) (c:List LV) (F:World→Prop) (k1:okN0 c=true) (k2:xle n 0=true):SFun prog 6 [.slo 0 0 n 0,.bool false] (mkS [.ro c] (factG F)) fun l s=>l=.slo 1 0 0 0∧s=mkS [.ro c,.cells [] (some 14),.dead,.dead,.dead] (factG F):=by
 refine SFun.mono (SFun.pieces (Q:=fun l b=>l=.slo 1 0 0 0∧b=[.ro c,.cells [] (some 14),.dead,.dead,.dead]) 140 1 dL [4] (by kernel_rfl) rfl rfl rfl ?_) fun l s' ⟨b0,⟨h1,h2⟩,h3⟩=>⟨h1,by rw [h3,h2]⟩
 have nc:noIds c=true:=k1
 rw [wd_le,decide_eq_true_eq] at k2
 obtain rfl:n=0:=by omega
 refine SSp.to cxd_ok (n:=60) (g:=factG F) 3 3 rfl (σ:=Unit) (fun _=>dT0 0 0) (fun _=>dH0 c [] .dead) (mkS_le (Nat.le_of_ble_eq_true rfl)) (by kernel_rfl) ?_ fun _=>?_
 ·rw [at_0]; exact⟨rfl,(),[.id 0,.none,.none,.none],by(exact zC)⟩
 try dsimp only
 refine SSp.code_to (g:=factG F) 4 rfl (σ:=Unit) (fun _=>dT0 0 0) (fun _=>dH0 c [] .dead) (by kernel_rfl) ?_ fun _=>?_
 ·refine SCode.loop_sp 0 (by kernel_rfl) (σ:=Unit) (fun p=>dT0 0 0) (fun p=>dH0 c [] .dead) (fun p=>0) (fun _=>Nat.le_of_ble_eq_true rfl) (fun _=>?_) ()
  refine SSp.to cxd_ok (n:=60) (g:=factG F) 2 2 rfl (σ:=Empty) (fun _=>[]) (fun _=>[]) (mkS_le (Nat.le_of_ble_eq_true rfl)) (by kernel_rfl) ?_ fun z=>nomatch z
  rw [at_a]
  have y0:xcm .lss ((0:Nat):Int) ((0:Nat):Int)=false:=f_lss (by omega)
  simp only [y0,cond_false]
  exact⟨rfl,(),[.id 0,.id 1,.none,.none],by(exact zC)⟩
 try dsimp only
 refine zE cxd_ok ?_
 rw [at_z]
 exact⟨trivial,rfl,_,_,[.id 0,.id 1,.none,.none,.none],⟨rfl,rfl⟩,by(exact zC)⟩
def at0G:Gc:=fun args s=>match args,s.g with
 | [.slo d 0 n 0,.bool false],[(0,[.fact F])]=>(match s.h.get d with
   | some (.ro c)=>(match s.lay [d] [.ro c] [.cells [] (some 14),.dead,.dead,.dead] with
     | some s'=>some ([okN0 c,xle n 0],.slo s.n 0 0 0,s')
     | none=>none)
   | _=>none)
 | _,_=>none
theorem at0G_ok:GOk prog 6 at0G:=by
 intro args s bs l s' hg hb hfr
 unfold at0G at hg
 split at hg
 ·rename_i d n F hgl
  split at hg
  ·rename_i c hb0
   split at hg
   ·rename_i s1 hs1
    simp only [Option.some.injEq,Prod.mk.injEq] at hg
    obtain⟨rfl,rfl,rfl⟩:=hg
    simp only [allT_cons] at hb
    obtain⟨k1,k2,_⟩:=hb
    have nc:noIds c=true:=k1
    refine SFun.lay (bs:=[.ro c]) (args0:=[.slo 0 0 n 0,.bool false]) (bs':=[.ro c,.cells [] (some 14),.dead,.dead,.dead]) (v0:=.slo 1 0 0 0) hfr hs1 (by simp)
     ⟨⟨there hfr hb0,_,hb0,lb_ro (by(exact zId)),fun κ hκ=>lb_ro (by(exact zId))⟩,trivial⟩ (by(exact zTl)) ?_
     fun κ h1 h2=>⟨⟨lb_ro (by(exact zId)),lb_cells lws_nil (by simp),lb_dead,lb_dead,lb_dead,trivial⟩,lw_slo (h2 0 (by simp))⟩
    rw [hgl]; exact(at0_ok n c F k1 k2)
   ·cases hg
  ·cases hg
 ·cases hg
theorem runs29:isTrue (lrun prog 20000 5 [])=true:=by kernel_rfl
def rnG:Gc:=fun args s=>match args with
 | []=>some ([],.bool true,s)
 | _=>none
def cxl1:Cx:=cxl [(5,rnG),(6,atG)]
def cxl0:Cx:=cxl [(5,rnG),(6,at0G)]
theorem rnG_ok:GOk prog 5 rnG:=by
 intro args s bs l s' hg hb hfr
 unfold rnG at hg
 split at hg
 ·simp only [Option.some.injEq,Prod.mk.injEq] at hg
  obtain⟨rfl,rfl,rfl⟩:=hg
  refine SFun.still fun W0 r w us hI hu=>?_
  simp only [VRs] at hu
  subst hu
  refine(run_true_of (P:=prog) (f:=5) (g:=[]) runs29 w (fun x hx=>by cases hx)).mono fun e w' h=>?_
  exact⟨_,h.1,by simp only [VR],h.2⟩
 ·cases hg
theorem cxl1_ok:CtrOk prog (ctrOf cxl1):=cxl_ok ⟨rnG_ok,atG_ok,trivial⟩
theorem cxl0_ok:CtrOk prog (ctrOf cxl0):=cxl_ok ⟨rnG_ok,at0G_ok,trivial⟩
end
end Go.Lev
