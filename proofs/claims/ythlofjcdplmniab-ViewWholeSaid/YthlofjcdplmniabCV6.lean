/- ViewPlays: what an ask does, on both -/
import Derived.Test.YthlofjcdplmniabCV5
import Derived.Test.YthlofjcdplmniabLc
import Derived.Test.YthlofjcdplmniabChecked
import Derived.KernelRfl
namespace Go.Lev
set_option linter.unusedSimpArgs false
set_option linter.unusedVariables false
open Go.RowKit
open Go.Proofs.Try (prog)
set_option maxRecDepth 100000
noncomputable section
theorem cxd_ok:CtrOk prog (ctrOf cxd):=cxl_ok ⟨wrapG_ok withinG_ok,wrapG_ok plaG_ok,wrapG_ok lopenG_ok,wrapG_ok oopenG_ok,wrapG_ok lkeepG_ok,wrapG_ok okeepG_ok,wrapG_ok ldropG_ok,wrapG_ok odropG_ok,wrapG_ok lfreeG_ok,wrapG_ok ofreeG_ok,wrapG_ok lputG_ok,wrapG_ok oputlG_ok,wrapG_ok knG_ok,wrapG_ok oknG_ok,wrapG_ok rdG_ok,wrapG_ok ordG_ok,orG_ok (wrapG_ok vtkG_ok) (wrapG_ok vtk0G_ok),orG_ok (wrapG_ok wtkG_ok) (wrapG_ok wtk0G_ok),trivial⟩
theorem cm_self (x:Int):xcm .eql x x=true:=t_eql rfl
def rowC (qs:List LV) (i:Int):Nat→CL
 | 0=>[]
 | j+1=>rowC qs i j++[(plV (asI (nthD qs (2 * j))) (xar .add .i64 i j),asI (nthD qs (2 * j+1)))]
theorem rowC_len (qs:List LV) (i:Int):∀ j,(rowC qs i j).length=j
 | 0=>rfl
 | j+1=>by simp only [rowC,List.length_append,rowC_len qs i j,List.length_singleton]
structure VS where
 ks:CL
 nd:Int
 ls:List Lv
def doS (sz:Nat) (most:Int) (s:VS) (k a w:Int) (qs:CL) (i:Int):VS :=
 if wthV k 0 12=0∨wthV k 0 12=7 then⟨knC sz s.ks (plV a i) (xar .rem .u64 w 3),s.nd,s.ls⟩
 else if wthV k 0 12=1 then⟨s.ks,s.nd,if inV sz (plV a i) then tkC most s.ls [(plV a i,w)] else s.ls⟩
 else if wthV k 0 12=2 then⟨s.ks,s.nd,opL s.ls⟩
 else if wthV k 0 12=3 then⟨s.ks,s.nd,kpL s.ls⟩
 else if wthV k 0 12=4 then⟨s.ks,s.nd,drL s.ls⟩
 else if wthV k 0 12=5 then⟨s.ks,s.nd,frC s.ls a⟩
 else if wthV k 0 12=6 then⟨s.ks,s.nd,vtC sz most s.ls (rowC (encL cell qs) i (min qs.length 5))⟩
 else⟨s.ks,rdD sz s.ks s.ls (plV a i) s.nd,s.ls⟩
abbrev doO (sz n:Nat) (kc sc:List LV) (nd most:Int) (d:Nat) (cs:List LV):List LB:=[.cells [.slo 11 0 n 0,.slo 2 0 sz 0,.int .i64 nd,.ptr 3 0] none,.dead,.cells sc (some 1),.cells [.int .i64 most,.slo 12 0 d 0] none,.dead,.dead,.cells [.int .i64 sz,.slo 14 0 n 0,.ptr 8 0,.int .i64 nd] none,.dead,.cells [.int .i64 most,.slo 15 0 d 0] none,.dead,.dead,.cells kc (some 2),.obj lvF cs 13,.dead,.cells kc (some 2),.obj orF cs 16,.dead]
abbrev doP (sz:Nat) (most:Int) (s:VS):List LB:=doO sz s.ks.length (encL cell s.ks) (encL (cI .i64) (spL sz s.ks)) s.nd most s.ls.length (encLs s.ls)
abbrev doQ (sz:Nat) (most:Int) (s:VS):LV→List LB→Prop:=fun l b=>l=.bool true∧b=doP sz most s
structure OkS (sz:Nat) (most:Int) (s:VS):Prop where
 k:OkK sz s.ks
 l:OkLs s.ls
 m:(totC s.ls:Int)≤most
 m2:most≤96
theorem spW_enc (sz:Nat) (ks:CL):spW sz (encL cell ks)=encL (cI .i64) (spL sz ks):=by rw [spW,decC_enc]
set_option maxHeartbeats 4000000 in
theorem do_take {F:World→Prop} (sz:Nat) (most:Int) (s:VS) (k a w p:Int) (qs:CL) (i:Int) (hn:qs.length≤9223372036854775807) (h:OkS sz most s):SSp prog 163 ((sp prog 8).drop 3) 11 (mkTm 163 (doT i p 6)) (mkS (doR sz s.ks.length (encL cell s.ks) (encL (cI .i64) (spL sz s.ks)) s.nd most s.ls.length (encLs s.ls) k a w qs.length (encL cell qs)) (factG F)) (vK doL (endK 11 [8] doL (factG F) (doQ sz most ⟨s.ks,s.nd,vtC sz most s.ls (rowC (encL cell qs) i (min qs.length 5))⟩))):=by
 have nk:=noids_c s.ks; have ns:=noIds_Ii64 (spL sz s.ks)
 have f1:=isF_self lvF; have f2:=isF_self orF
 have ok0:=okR_enc h.l h.m h.m2
 have okk:=okK_enc h.k
 have es:=spW_enc sz s.ks
 have hs:=h.k.s
 have nq:=noids_c qs; have lq:=cell_n qs
 refine zE cxd_ok ?_
 rw [do_6]; simp only [do_6_b1]
 have hj:qs.length=0∨qs.length=1∨qs.length=2∨qs.length=3∨qs.length=4∨5≤qs.length:=by omega
 rcases hj with hj | hj | hj | hj | hj | hj
 ·rw [show min qs.length 5=0 by omega]
  have eE:vtEW sz most (encLs s.ls) []=vtE sz most s.ls (rowC (encL cell qs) i 0):=by show vtEW sz most (encLs s.ls) (encL cell (rowC (encL cell qs) i 0))=_; rw [vtEW,decLs_enc,decC_enc]
  have eD:vtDW sz most (encLs s.ls) []=(vtC sz most s.ls (rowC (encL cell qs) i 0)).length:=by show vtDW sz most (encLs s.ls) (encL cell (rowC (encL cell qs) i 0))=_; rw [vtDW,decLs_enc,decC_enc]
  have eC:vtCW sz most (encLs s.ls) []=encLs (vtC sz most s.ls (rowC (encL cell qs) i 0)):=by show vtCW sz most (encLs s.ls) (encL cell (rowC (encL cell qs) i 0))=_; rw [vtCW,decLs_enc,decC_enc]
  generalize rowC (encL cell qs) i 0=rw at eE eD eC ⊢
  simp only [ok0,okk,es,eqL_self,f1,f2,eE,eD,eC,cm_self,lq,cond_true]
  clear eE eD eC
  (refine zR ?_)
  exact⟨trivial,rfl,.bool true,doP sz most ⟨s.ks,s.nd,vtC sz most s.ls rw⟩,[.id 0,.id 1,.id 2,.id 3,.id 4,.id 5,.id 6,.id 7,.id 8,.id 9,.id 10,.id 1,.id 4,.id 14,.id 7,.id 16,.id 17],⟨rfl,rfl⟩,by(exact zC)⟩
 ·rw [show min qs.length 5=1 by omega]
  have a0:nthD (encL cell qs) 0=.int .i64 (qs[0]'(by omega)).1:=cell_0 (xs:=qs) (i:=0) (by omega)
  have b0:nthD (encL cell qs) 1=.int .u64 (qs[0]'(by omega)).2:=cell_1 (xs:=qs) (i:=0) (by omega)
  have oc:okC (encL cell (rowC (encL cell qs) i 1)) 1=true:=by have:=okC_enc (xs:=rowC (encL cell qs) i 1) (by rw [rowC_len]; omega); rwa [rowC_len] at this
  change okC (do_6_r1_0 (encL cell qs) i) 1=true at oc
  have eE:vtEW sz most (encLs s.ls) (do_6_r1_0 (encL cell qs) i)=vtE sz most s.ls (rowC (encL cell qs) i 1):=by show vtEW sz most (encLs s.ls) (encL cell (rowC (encL cell qs) i 1))=_; rw [vtEW,decLs_enc,decC_enc]
  have eD:vtDW sz most (encLs s.ls) (do_6_r1_0 (encL cell qs) i)=(vtC sz most s.ls (rowC (encL cell qs) i 1)).length:=by show vtDW sz most (encLs s.ls) (encL cell (rowC (encL cell qs) i 1))=_; rw [vtDW,decLs_enc,decC_enc]
  have eC:vtCW sz most (encLs s.ls) (do_6_r1_0 (encL cell qs) i)=encLs (vtC sz most s.ls (rowC (encL cell qs) i 1)):=by show vtCW sz most (encLs s.ls) (encL cell (rowC (encL cell qs) i 1))=_; rw [vtCW,decLs_enc,decC_enc]
  generalize rowC (encL cell qs) i 1=rw at eE eD eC ⊢
  simp only [ok0,okk,es,eqL_self,f1,f2,oc,eE,eD,eC,cm_self,lq,cond_true]
  clear eE eD eC oc
  (refine zN4 @cm_self @lq @a0 @b0 ?_)
  (refine zR ?_)
  exact⟨trivial,rfl,.bool true,doP sz most ⟨s.ks,s.nd,vtC sz most s.ls rw⟩,[.id 0,.id 1,.id 2,.id 3,.id 4,.id 5,.id 6,.id 7,.id 8,.id 9,.id 10,.id 1,.id 4,.id 15,.id 7,.id 16,.id 17],⟨rfl,rfl⟩,by(exact zC)⟩
 ·rw [show min qs.length 5=2 by omega]
  have a0:nthD (encL cell qs) 0=.int .i64 (qs[0]'(by omega)).1:=cell_0 (xs:=qs) (i:=0) (by omega)
  have b0:nthD (encL cell qs) 1=.int .u64 (qs[0]'(by omega)).2:=cell_1 (xs:=qs) (i:=0) (by omega)
  have a1:nthD (encL cell qs) 2=.int .i64 (qs[1]'(by omega)).1:=cell_0 (xs:=qs) (i:=1) (by omega)
  have b1:nthD (encL cell qs) 3=.int .u64 (qs[1]'(by omega)).2:=cell_1 (xs:=qs) (i:=1) (by omega)
  have oc:okC (encL cell (rowC (encL cell qs) i 2)) 2=true:=by have:=okC_enc (xs:=rowC (encL cell qs) i 2) (by rw [rowC_len]; omega); rwa [rowC_len] at this
  change okC (do_6_r2_0 (encL cell qs) i) 2=true at oc
  have eE:vtEW sz most (encLs s.ls) (do_6_r2_0 (encL cell qs) i)=vtE sz most s.ls (rowC (encL cell qs) i 2):=by show vtEW sz most (encLs s.ls) (encL cell (rowC (encL cell qs) i 2))=_; rw [vtEW,decLs_enc,decC_enc]
  have eD:vtDW sz most (encLs s.ls) (do_6_r2_0 (encL cell qs) i)=(vtC sz most s.ls (rowC (encL cell qs) i 2)).length:=by show vtDW sz most (encLs s.ls) (encL cell (rowC (encL cell qs) i 2))=_; rw [vtDW,decLs_enc,decC_enc]
  have eC:vtCW sz most (encLs s.ls) (do_6_r2_0 (encL cell qs) i)=encLs (vtC sz most s.ls (rowC (encL cell qs) i 2)):=by show vtCW sz most (encLs s.ls) (encL cell (rowC (encL cell qs) i 2))=_; rw [vtCW,decLs_enc,decC_enc]
  generalize rowC (encL cell qs) i 2=rw at eE eD eC ⊢
  simp only [ok0,okk,es,eqL_self,f1,f2,oc,eE,eD,eC,cm_self,lq,cond_true]
  clear eE eD eC oc
  (refine zN6 @cm_self @lq @a0 @b0 @a1 @b1 ?_)
  (refine zR ?_)
  exact⟨trivial,rfl,.bool true,doP sz most ⟨s.ks,s.nd,vtC sz most s.ls rw⟩,[.id 0,.id 1,.id 2,.id 3,.id 4,.id 5,.id 6,.id 7,.id 8,.id 9,.id 10,.id 1,.id 4,.id 17,.id 7,.id 18,.id 19],⟨rfl,rfl⟩,by(exact zC)⟩
 ·rw [show min qs.length 5=3 by omega]
  have a0:nthD (encL cell qs) 0=.int .i64 (qs[0]'(by omega)).1:=cell_0 (xs:=qs) (i:=0) (by omega)
  have b0:nthD (encL cell qs) 1=.int .u64 (qs[0]'(by omega)).2:=cell_1 (xs:=qs) (i:=0) (by omega)
  have a1:nthD (encL cell qs) 2=.int .i64 (qs[1]'(by omega)).1:=cell_0 (xs:=qs) (i:=1) (by omega)
  have b1:nthD (encL cell qs) 3=.int .u64 (qs[1]'(by omega)).2:=cell_1 (xs:=qs) (i:=1) (by omega)
  have a2:nthD (encL cell qs) 4=.int .i64 (qs[2]'(by omega)).1:=cell_0 (xs:=qs) (i:=2) (by omega)
  have b2:nthD (encL cell qs) 5=.int .u64 (qs[2]'(by omega)).2:=cell_1 (xs:=qs) (i:=2) (by omega)
  have oc:okC (encL cell (rowC (encL cell qs) i 3)) 3=true:=by have:=okC_enc (xs:=rowC (encL cell qs) i 3) (by rw [rowC_len]; omega); rwa [rowC_len] at this
  change okC (do_6_r3_0 (encL cell qs) i) 3=true at oc
  have eE:vtEW sz most (encLs s.ls) (do_6_r3_0 (encL cell qs) i)=vtE sz most s.ls (rowC (encL cell qs) i 3):=by show vtEW sz most (encLs s.ls) (encL cell (rowC (encL cell qs) i 3))=_; rw [vtEW,decLs_enc,decC_enc]
  have eD:vtDW sz most (encLs s.ls) (do_6_r3_0 (encL cell qs) i)=(vtC sz most s.ls (rowC (encL cell qs) i 3)).length:=by show vtDW sz most (encLs s.ls) (encL cell (rowC (encL cell qs) i 3))=_; rw [vtDW,decLs_enc,decC_enc]
  have eC:vtCW sz most (encLs s.ls) (do_6_r3_0 (encL cell qs) i)=encLs (vtC sz most s.ls (rowC (encL cell qs) i 3)):=by show vtCW sz most (encLs s.ls) (encL cell (rowC (encL cell qs) i 3))=_; rw [vtCW,decLs_enc,decC_enc]
  generalize rowC (encL cell qs) i 3=rw at eE eD eC ⊢
  simp only [ok0,okk,es,eqL_self,f1,f2,oc,eE,eD,eC,cm_self,lq,cond_true]
  clear eE eD eC oc
  (refine zN8 @cm_self @lq @a0 @b0 @a1 @b1 @a2 @b2 ?_)
  (refine zR ?_)
  exact⟨trivial,rfl,.bool true,doP sz most ⟨s.ks,s.nd,vtC sz most s.ls rw⟩,[.id 0,.id 1,.id 2,.id 3,.id 4,.id 5,.id 6,.id 7,.id 8,.id 9,.id 10,.id 1,.id 4,.id 19,.id 7,.id 20,.id 21],⟨rfl,rfl⟩,by(exact zC)⟩
 ·rw [show min qs.length 5=4 by omega]
  have a0:nthD (encL cell qs) 0=.int .i64 (qs[0]'(by omega)).1:=cell_0 (xs:=qs) (i:=0) (by omega)
  have b0:nthD (encL cell qs) 1=.int .u64 (qs[0]'(by omega)).2:=cell_1 (xs:=qs) (i:=0) (by omega)
  have a1:nthD (encL cell qs) 2=.int .i64 (qs[1]'(by omega)).1:=cell_0 (xs:=qs) (i:=1) (by omega)
  have b1:nthD (encL cell qs) 3=.int .u64 (qs[1]'(by omega)).2:=cell_1 (xs:=qs) (i:=1) (by omega)
  have a2:nthD (encL cell qs) 4=.int .i64 (qs[2]'(by omega)).1:=cell_0 (xs:=qs) (i:=2) (by omega)
  have b2:nthD (encL cell qs) 5=.int .u64 (qs[2]'(by omega)).2:=cell_1 (xs:=qs) (i:=2) (by omega)
  have a3:nthD (encL cell qs) 6=.int .i64 (qs[3]'(by omega)).1:=cell_0 (xs:=qs) (i:=3) (by omega)
  have b3:nthD (encL cell qs) 7=.int .u64 (qs[3]'(by omega)).2:=cell_1 (xs:=qs) (i:=3) (by omega)
  have oc:okC (encL cell (rowC (encL cell qs) i 4)) 4=true:=by have:=okC_enc (xs:=rowC (encL cell qs) i 4) (by rw [rowC_len]; omega); rwa [rowC_len] at this
  change okC (do_6_r4_0 (encL cell qs) i) 4=true at oc
  have eE:vtEW sz most (encLs s.ls) (do_6_r4_0 (encL cell qs) i)=vtE sz most s.ls (rowC (encL cell qs) i 4):=by show vtEW sz most (encLs s.ls) (encL cell (rowC (encL cell qs) i 4))=_; rw [vtEW,decLs_enc,decC_enc]
  have eD:vtDW sz most (encLs s.ls) (do_6_r4_0 (encL cell qs) i)=(vtC sz most s.ls (rowC (encL cell qs) i 4)).length:=by show vtDW sz most (encLs s.ls) (encL cell (rowC (encL cell qs) i 4))=_; rw [vtDW,decLs_enc,decC_enc]
  have eC:vtCW sz most (encLs s.ls) (do_6_r4_0 (encL cell qs) i)=encLs (vtC sz most s.ls (rowC (encL cell qs) i 4)):=by show vtCW sz most (encLs s.ls) (encL cell (rowC (encL cell qs) i 4))=_; rw [vtCW,decLs_enc,decC_enc]
  generalize rowC (encL cell qs) i 4=rw at eE eD eC ⊢
  simp only [ok0,okk,es,eqL_self,f1,f2,oc,eE,eD,eC,cm_self,lq,cond_true]
  clear eE eD eC oc
  simp only [wd_nat,wd_asV,wd_isV,wd_ix,wd_add,wd_mul,wd_ln,Nat.zero_add,Nat.mul_one,wd_isI,wd_asI,wd_isB,wd_asB,wd_nn,cI_tlen,cB_tlen,cII_tlen,decide_true,cond_true,wd_not_t,wd_not_f,wd_and_t,wd_and_f,cm_self,lq,a0,b0,a1,b1,a2,b2,a3,b3]
  (refine zR ?_)
  exact⟨trivial,rfl,.bool true,doP sz most ⟨s.ks,s.nd,vtC sz most s.ls rw⟩,[.id 0,.id 1,.id 2,.id 3,.id 4,.id 5,.id 6,.id 7,.id 8,.id 9,.id 10,.id 1,.id 4,.id 21,.id 7,.id 22,.id 23],⟨rfl,rfl⟩,by(exact zC)⟩
 ·rw [show min qs.length 5=5 by omega]
  have a0:nthD (encL cell qs) 0=.int .i64 (qs[0]'(by omega)).1:=cell_0 (xs:=qs) (i:=0) (by omega)
  have b0:nthD (encL cell qs) 1=.int .u64 (qs[0]'(by omega)).2:=cell_1 (xs:=qs) (i:=0) (by omega)
  have a1:nthD (encL cell qs) 2=.int .i64 (qs[1]'(by omega)).1:=cell_0 (xs:=qs) (i:=1) (by omega)
  have b1:nthD (encL cell qs) 3=.int .u64 (qs[1]'(by omega)).2:=cell_1 (xs:=qs) (i:=1) (by omega)
  have a2:nthD (encL cell qs) 4=.int .i64 (qs[2]'(by omega)).1:=cell_0 (xs:=qs) (i:=2) (by omega)
  have b2:nthD (encL cell qs) 5=.int .u64 (qs[2]'(by omega)).2:=cell_1 (xs:=qs) (i:=2) (by omega)
  have a3:nthD (encL cell qs) 6=.int .i64 (qs[3]'(by omega)).1:=cell_0 (xs:=qs) (i:=3) (by omega)
  have b3:nthD (encL cell qs) 7=.int .u64 (qs[3]'(by omega)).2:=cell_1 (xs:=qs) (i:=3) (by omega)
  have a4:nthD (encL cell qs) 8=.int .i64 (qs[4]'(by omega)).1:=cell_0 (xs:=qs) (i:=4) (by omega)
  have b4:nthD (encL cell qs) 9=.int .u64 (qs[4]'(by omega)).2:=cell_1 (xs:=qs) (i:=4) (by omega)
  have oc:okC (encL cell (rowC (encL cell qs) i 5)) 5=true:=by have:=okC_enc (xs:=rowC (encL cell qs) i 5) (by rw [rowC_len]; omega); rwa [rowC_len] at this
  change okC (do_6_r5_0 (encL cell qs) i) 5=true at oc
  have eE:vtEW sz most (encLs s.ls) (do_6_r5_0 (encL cell qs) i)=vtE sz most s.ls (rowC (encL cell qs) i 5):=by show vtEW sz most (encLs s.ls) (encL cell (rowC (encL cell qs) i 5))=_; rw [vtEW,decLs_enc,decC_enc]
  have eD:vtDW sz most (encLs s.ls) (do_6_r5_0 (encL cell qs) i)=(vtC sz most s.ls (rowC (encL cell qs) i 5)).length:=by show vtDW sz most (encLs s.ls) (encL cell (rowC (encL cell qs) i 5))=_; rw [vtDW,decLs_enc,decC_enc]
  have eC:vtCW sz most (encLs s.ls) (do_6_r5_0 (encL cell qs) i)=encLs (vtC sz most s.ls (rowC (encL cell qs) i 5)):=by show vtCW sz most (encLs s.ls) (encL cell (rowC (encL cell qs) i 5))=_; rw [vtCW,decLs_enc,decC_enc]
  generalize rowC (encL cell qs) i 5=rw at eE eD eC ⊢
  simp only [ok0,okk,es,eqL_self,f1,f2,oc,eE,eD,eC,cm_self,lq,cond_true]
  clear eE eD eC oc
  simp only [wd_nat,wd_asV,wd_isV,wd_ix,wd_add,wd_mul,wd_ln,Nat.zero_add,Nat.mul_one,wd_isI,wd_asI,wd_isB,wd_asB,wd_nn,cI_tlen,cB_tlen,cII_tlen,decide_true,cond_true,wd_not_t,wd_not_f,wd_and_t,wd_and_f,cm_self,lq,a0,b0,a1,b1,a2,b2,a3,b3,a4,b4]
  by_cases z:5 < qs.length <;> ((refine zR ?_))
  all_goals exact⟨trivial,rfl,.bool true,doP sz most ⟨s.ks,s.nd,vtC sz most s.ls rw⟩,[.id 0,.id 1,.id 2,.id 3,.id 4,.id 5,.id 6,.id 7,.id 8,.id 9,.id 10,.id 1,.id 4,.id 23,.id 7,.id 24,.id 25],⟨rfl,rfl⟩,by(exact zC)⟩
theorem do_read {F:World→Prop} (sz:Nat) (most:Int) (s:VS) (p:Int) (h:OkS sz most s):SSp prog 163 ((sp prog 8).drop 4) 11 (mkTm 163 [(0,.ptr 0 0),(1,.ptr 6 0),(8,.bool false),(9,.int .i64 p)]) (mkS (doI sz s.ks.length (encL cell s.ks) (encL (cI .i64) (spL sz s.ks)) s.nd most s.ls.length (encLs s.ls)) (factG F)) (vK doL (endK 11 [8] doL (factG F) (doQ sz most ⟨s.ks,rdD sz s.ks s.ls p s.nd,s.ls⟩))):=by
 have nk:=noids_c s.ks; have ns:=noIds_Ii64 (spL sz s.ks)
 have f1:=isF_self lvF; have f2:=isF_self orF
 have ok0:=okR_enc h.l h.m h.m2
 have okk:=okK_enc h.k
 have es:=spW_enc sz s.ks
 have hs:=h.k.s
 refine zE cxd_ok ?_
 rw [do_z]
 simp only [do_z_b1,ok0,okk,es,eqL_self,f1,f2,cm_self,rdDW,decC_enc,decLs_enc,cond_true]
 exact⟨trivial,rfl,.bool true,doP sz most ⟨s.ks,rdD sz s.ks s.ls p s.nd,s.ls⟩,[.id 0,.id 1,.id 2,.id 3,.id 4,.id 5,.id 6,.id 7,.id 8,.id 9,.id 10,.id 1,.id 4,.id 11,.id 7,.id 9,.id 12],⟨rfl,rfl⟩,by(exact zC)⟩
end
end Go.Lev
