/- LevelsPlays: what an ask does, on both -/
import Derived.Test.YtciccbphopgmaaaCW24
import Derived.Test.YtciccbphopgmaaaLc
import Derived.Test.YtciccbphopgmaaaChecked
import Derived.KernelRfl
namespace Go.Lev
set_option linter.unusedSimpArgs false
set_option linter.unusedVariables false
open Go.RowKit
open Go.Proofs.Try (prog)
set_option maxRecDepth 100000
noncomputable section
theorem cxd_ok:CtrOk prog (ctrOf cxd):=cxl_ok ⟨wrapG_ok withinG_ok,wrapG_ok plaG_ok,wrapG_ok lopenG_ok,wrapG_ok oopenG_ok,wrapG_ok lkeepG_ok,wrapG_ok okeepG_ok,wrapG_ok ldropG_ok,wrapG_ok odropG_ok,wrapG_ok lfreeG_ok,wrapG_ok ofreeG_ok,wrapG_ok lputG_ok,wrapG_ok oputlG_ok,orG_ok (wrapG_ok ltakeG_ok) (wrapG_ok ltake0G_ok),orG_ok (wrapG_ok otakeG_ok) (wrapG_ok otake0G_ok),trivial⟩
theorem cm_self (x:Int):xcm .eql x x=true:=t_eql rfl
def rowC (qs:List LV) (i:Int):Nat→CL
 | 0=>[]
 | j+1=>rowC qs i j++[(plV (asI (nthD qs (2 * j))) (xar .add .i64 i j),asI (nthD qs (2 * j+1)))]
theorem rowC_len (qs:List LV) (i:Int):∀ j,(rowC qs i j).length=j
 | 0=>rfl
 | j+1=>by simp only [rowC,List.length_append,rowC_len qs i j,List.length_singleton]
def doS (most:Int) (ls:List Lv) (k a w:Int) (qs:CL) (i:Int):List Lv :=
 if wthV k 0 9=0 then opL ls else if wthV k 0 9=1 then kpL ls else if wthV k 0 9=2 then drL ls else if wthV k 0 9=3 then frC ls a
 else if wthV k 0 9=4 then tkC most ls (rowC (encL cell qs) i (min qs.length 6)) else tkC most ls [(plV a i,w)]
theorem totF_op (ls:List Lv):totF (opL ls)=totF ls:=by unfold opL; split <;> simp [totF]
theorem totF_dr (ls:List Lv):totF (drL ls)≤totF ls:=by
 match ls with
 | []=>exact Nat.le_refl _
 | [x]=>exact Nat.le_refl _
 | x::y::r=>simp only [drL,totF]; omega
theorem totF_kp (ls:List Lv):totF (kpL ls)≤totF ls:=by
 match ls with
 | []=>exact Nat.le_refl _
 | [x]=>exact Nat.le_refl _
 | x::y::r=>simp only [kpL,totF,List.length_append]; omega
theorem doS_ok {most:Int} {ls:List Lv} (h:OkLs ls) (hm:(totC ls:Int)≤most) (hm2:most≤96) (hf:totF ls < 100000) (k a w:Int) (qs:CL) (i:Int):OkLs (doS most ls k a w qs i)∧(totC (doS most ls k a w qs i):Int)≤most∧totF (doS most ls k a w qs i)≤totF ls+1:=by
 unfold doS
 split
 ·exact⟨(opL_ok h).1,by rw [(opL_ok h).2]; exact hm,by rw [totF_op]; omega⟩
 split
 ·have:=(kpL_ok h).2; have:=totF_kp ls; exact⟨(kpL_ok h).1,by omega,by omega⟩
 split
 ·have:=(drL_ok h).2; have:=totF_dr ls; exact⟨(drL_ok h).1,by omega,by omega⟩
 cases ls with
 | nil=>exact absurd rfl h.ne
 | cons x r =>
   split
   ·refine⟨frC_ok h hf a,by simpa [frC,totC,inm,outs] using hm,?_⟩
    simp only [frC,totF,inm,outs,List.length_append,List.length_singleton]; omega
   split
   ·obtain⟨q1,q2⟩:=tkC_ok h hm hm2 (rowC (encL cell qs) i (min qs.length 6))
    exact⟨q1,q2,by simp only [tkC,totF,inm,outs]; omega⟩
   ·obtain⟨q1,q2⟩:=tkC_ok h hm hm2 [(plV a i,w)]
    exact⟨q1,q2,by simp only [tkC,totF,inm,outs]; omega⟩
abbrev doO (most:Int) (d:Nat) (cs:List LV):List LB:=[.cells [.int .i64 most,.slo 6 0 d 0] none,.dead,.dead,.cells [.int .i64 most,.slo 8 0 d 0] none,.dead,.dead,.obj lvF cs 7,.dead,.obj orF cs 9,.dead]
abbrev doQ (most:Int) (ls':List Lv):LV→List LB→Prop:=fun l b=>l=.bool true∧b=doO most ls'.length (encLs ls')
set_option maxHeartbeats 4000000 in
theorem do_take {F:World→Prop} (most:Int) (ls:List Lv) (k a w:Int) (qs:CL) (i:Int) (hn:qs.length≤9223372036854775807) (h:OkLs ls) (hm:(totC ls:Int)≤most) (hm2:most≤96):SSp prog 101 ((sp prog 7).drop 2) 6 (mkTm 101 (doT i 4)) (mkS (doR most ls.length (encLs ls) k a w qs.length (encL cell qs)) (factG F)) (vK doL (endK 6 [8] doL (factG F) (doQ most (tkC most ls (rowC (encL cell qs) i (min qs.length 6)))))):=by
 have nq:=noids_c qs; have lq:=cell_n qs
 have f1:=isF_self lvF; have f2:=isF_self orF
 have ok0:=okR_enc h hm hm2
 refine zE cxd_ok ?_
 rw [do_4]; simp only [do_4_b1]
 have hj:qs.length=0∨qs.length=1∨qs.length=2∨qs.length=3∨qs.length=4∨qs.length=5∨6≤qs.length:=by omega
 rcases hj with hj | hj | hj | hj | hj | hj | hj
 ·rw [show min qs.length 6=0 by omega]
  have eE:ltE most (encLs ls) []=tkE most ls (rowC (encL cell qs) i 0):=by show ltE most (encLs ls) (encL cell (rowC (encL cell qs) i 0))=_; rw [ltE,decLs_enc,decC_enc]
  have eD:ltD most (encLs ls) []=(tkC most ls (rowC (encL cell qs) i 0)).length:=by show ltD most (encLs ls) (encL cell (rowC (encL cell qs) i 0))=_; rw [ltD,decLs_enc,decC_enc]
  have eC:ltC most (encLs ls) []=encLs (tkC most ls (rowC (encL cell qs) i 0)):=by show ltC most (encLs ls) (encL cell (rowC (encL cell qs) i 0))=_; rw [ltC,decLs_enc,decC_enc]
  generalize rowC (encL cell qs) i 0=rw at eE eD eC ⊢
  simp only [ok0,f1,f2,eE,eD,eC,cm_self,lq,cond_true]
  clear eE eD eC
  (refine zR ?_)
  exact⟨trivial,rfl,.bool true,doO most (tkC most ls rw).length (encLs (tkC most ls rw)),[.id 0,.id 1,.id 2,.id 3,.id 4,.id 5,.id 1,.id 9,.id 11,.id 12],⟨rfl,rfl⟩,by(exact zC)⟩
 ·rw [show min qs.length 6=1 by omega]
  have a0:nthD (encL cell qs) 0=.int .i64 (qs[0]'(by omega)).1:=cell_0 (xs:=qs) (i:=0) (by omega)
  have b0:nthD (encL cell qs) 1=.int .u64 (qs[0]'(by omega)).2:=cell_1 (xs:=qs) (i:=0) (by omega)
  have oc:okC (encL cell (rowC (encL cell qs) i 1)) 1=true:=by have:=okC_enc (xs:=rowC (encL cell qs) i 1) (by rw [rowC_len]; omega); rwa [rowC_len] at this
  change okC [.int .i64 (plV (asI (nthD (encL cell qs) 0)) (xar .add .i64 i 0)),.int .u64 (asI (nthD (encL cell qs) 1))] 1=true at oc
  have eE:ltE most (encLs ls) [.int .i64 (plV (asI (nthD (encL cell qs) 0)) (xar .add .i64 i 0)),.int .u64 (asI (nthD (encL cell qs) 1))]=tkE most ls (rowC (encL cell qs) i 1):=by show ltE most (encLs ls) (encL cell (rowC (encL cell qs) i 1))=_; rw [ltE,decLs_enc,decC_enc]
  have eD:ltD most (encLs ls) [.int .i64 (plV (asI (nthD (encL cell qs) 0)) (xar .add .i64 i 0)),.int .u64 (asI (nthD (encL cell qs) 1))]=(tkC most ls (rowC (encL cell qs) i 1)).length:=by show ltD most (encLs ls) (encL cell (rowC (encL cell qs) i 1))=_; rw [ltD,decLs_enc,decC_enc]
  have eC:ltC most (encLs ls) [.int .i64 (plV (asI (nthD (encL cell qs) 0)) (xar .add .i64 i 0)),.int .u64 (asI (nthD (encL cell qs) 1))]=encLs (tkC most ls (rowC (encL cell qs) i 1)):=by show ltC most (encLs ls) (encL cell (rowC (encL cell qs) i 1))=_; rw [ltC,decLs_enc,decC_enc]
  generalize rowC (encL cell qs) i 1=rw at eE eD eC ⊢
  simp only [ok0,f1,f2,oc,eE,eD,eC,cm_self,lq,cond_true]
  clear eE eD eC oc
  (refine zN4 @cm_self @lq @a0 @b0 ?_)
  (refine zR ?_)
  exact⟨trivial,rfl,.bool true,doO most (tkC most ls rw).length (encLs (tkC most ls rw)),[.id 0,.id 1,.id 2,.id 3,.id 4,.id 5,.id 1,.id 10,.id 11,.id 12],⟨rfl,rfl⟩,by(exact zC)⟩
 ·rw [show min qs.length 6=2 by omega]
  have a0:nthD (encL cell qs) 0=.int .i64 (qs[0]'(by omega)).1:=cell_0 (xs:=qs) (i:=0) (by omega)
  have b0:nthD (encL cell qs) 1=.int .u64 (qs[0]'(by omega)).2:=cell_1 (xs:=qs) (i:=0) (by omega)
  have a1:nthD (encL cell qs) 2=.int .i64 (qs[1]'(by omega)).1:=cell_0 (xs:=qs) (i:=1) (by omega)
  have b1:nthD (encL cell qs) 3=.int .u64 (qs[1]'(by omega)).2:=cell_1 (xs:=qs) (i:=1) (by omega)
  have oc:okC (encL cell (rowC (encL cell qs) i 2)) 2=true:=by have:=okC_enc (xs:=rowC (encL cell qs) i 2) (by rw [rowC_len]; omega); rwa [rowC_len] at this
  change okC [.int .i64 (plV (asI (nthD (encL cell qs) 0)) (xar .add .i64 i 0)),.int .u64 (asI (nthD (encL cell qs) 1)),.int .i64 (plV (asI (nthD (encL cell qs) 2)) (xar .add .i64 i 1)),.int .u64 (asI (nthD (encL cell qs) 3))] 2=true at oc
  have eE:ltE most (encLs ls) [.int .i64 (plV (asI (nthD (encL cell qs) 0)) (xar .add .i64 i 0)),.int .u64 (asI (nthD (encL cell qs) 1)),.int .i64 (plV (asI (nthD (encL cell qs) 2)) (xar .add .i64 i 1)),.int .u64 (asI (nthD (encL cell qs) 3))]=tkE most ls (rowC (encL cell qs) i 2):=by show ltE most (encLs ls) (encL cell (rowC (encL cell qs) i 2))=_; rw [ltE,decLs_enc,decC_enc]
  have eD:ltD most (encLs ls) [.int .i64 (plV (asI (nthD (encL cell qs) 0)) (xar .add .i64 i 0)),.int .u64 (asI (nthD (encL cell qs) 1)),.int .i64 (plV (asI (nthD (encL cell qs) 2)) (xar .add .i64 i 1)),.int .u64 (asI (nthD (encL cell qs) 3))]=(tkC most ls (rowC (encL cell qs) i 2)).length:=by show ltD most (encLs ls) (encL cell (rowC (encL cell qs) i 2))=_; rw [ltD,decLs_enc,decC_enc]
  have eC:ltC most (encLs ls) [.int .i64 (plV (asI (nthD (encL cell qs) 0)) (xar .add .i64 i 0)),.int .u64 (asI (nthD (encL cell qs) 1)),.int .i64 (plV (asI (nthD (encL cell qs) 2)) (xar .add .i64 i 1)),.int .u64 (asI (nthD (encL cell qs) 3))]=encLs (tkC most ls (rowC (encL cell qs) i 2)):=by show ltC most (encLs ls) (encL cell (rowC (encL cell qs) i 2))=_; rw [ltC,decLs_enc,decC_enc]
  generalize rowC (encL cell qs) i 2=rw at eE eD eC ⊢
  simp only [ok0,f1,f2,oc,eE,eD,eC,cm_self,lq,cond_true]
  clear eE eD eC oc
  (refine zN6 @cm_self @lq @a0 @b0 @a1 @b1 ?_)
  (refine zR ?_)
  exact⟨trivial,rfl,.bool true,doO most (tkC most ls rw).length (encLs (tkC most ls rw)),[.id 0,.id 1,.id 2,.id 3,.id 4,.id 5,.id 1,.id 12,.id 13,.id 14],⟨rfl,rfl⟩,by(exact zC)⟩
 ·rw [show min qs.length 6=3 by omega]
  have a0:nthD (encL cell qs) 0=.int .i64 (qs[0]'(by omega)).1:=cell_0 (xs:=qs) (i:=0) (by omega)
  have b0:nthD (encL cell qs) 1=.int .u64 (qs[0]'(by omega)).2:=cell_1 (xs:=qs) (i:=0) (by omega)
  have a1:nthD (encL cell qs) 2=.int .i64 (qs[1]'(by omega)).1:=cell_0 (xs:=qs) (i:=1) (by omega)
  have b1:nthD (encL cell qs) 3=.int .u64 (qs[1]'(by omega)).2:=cell_1 (xs:=qs) (i:=1) (by omega)
  have a2:nthD (encL cell qs) 4=.int .i64 (qs[2]'(by omega)).1:=cell_0 (xs:=qs) (i:=2) (by omega)
  have b2:nthD (encL cell qs) 5=.int .u64 (qs[2]'(by omega)).2:=cell_1 (xs:=qs) (i:=2) (by omega)
  have oc:okC (encL cell (rowC (encL cell qs) i 3)) 3=true:=by have:=okC_enc (xs:=rowC (encL cell qs) i 3) (by rw [rowC_len]; omega); rwa [rowC_len] at this
  change okC [.int .i64 (plV (asI (nthD (encL cell qs) 0)) (xar .add .i64 i 0)),.int .u64 (asI (nthD (encL cell qs) 1)),.int .i64 (plV (asI (nthD (encL cell qs) 2)) (xar .add .i64 i 1)),.int .u64 (asI (nthD (encL cell qs) 3)),.int .i64 (plV (asI (nthD (encL cell qs) 4)) (xar .add .i64 i 2)),.int .u64 (asI (nthD (encL cell qs) 5))] 3=true at oc
  have eE:ltE most (encLs ls) [.int .i64 (plV (asI (nthD (encL cell qs) 0)) (xar .add .i64 i 0)),.int .u64 (asI (nthD (encL cell qs) 1)),.int .i64 (plV (asI (nthD (encL cell qs) 2)) (xar .add .i64 i 1)),.int .u64 (asI (nthD (encL cell qs) 3)),.int .i64 (plV (asI (nthD (encL cell qs) 4)) (xar .add .i64 i 2)),.int .u64 (asI (nthD (encL cell qs) 5))]=tkE most ls (rowC (encL cell qs) i 3):=by show ltE most (encLs ls) (encL cell (rowC (encL cell qs) i 3))=_; rw [ltE,decLs_enc,decC_enc]
  have eD:ltD most (encLs ls) [.int .i64 (plV (asI (nthD (encL cell qs) 0)) (xar .add .i64 i 0)),.int .u64 (asI (nthD (encL cell qs) 1)),.int .i64 (plV (asI (nthD (encL cell qs) 2)) (xar .add .i64 i 1)),.int .u64 (asI (nthD (encL cell qs) 3)),.int .i64 (plV (asI (nthD (encL cell qs) 4)) (xar .add .i64 i 2)),.int .u64 (asI (nthD (encL cell qs) 5))]=(tkC most ls (rowC (encL cell qs) i 3)).length:=by show ltD most (encLs ls) (encL cell (rowC (encL cell qs) i 3))=_; rw [ltD,decLs_enc,decC_enc]
  have eC:ltC most (encLs ls) [.int .i64 (plV (asI (nthD (encL cell qs) 0)) (xar .add .i64 i 0)),.int .u64 (asI (nthD (encL cell qs) 1)),.int .i64 (plV (asI (nthD (encL cell qs) 2)) (xar .add .i64 i 1)),.int .u64 (asI (nthD (encL cell qs) 3)),.int .i64 (plV (asI (nthD (encL cell qs) 4)) (xar .add .i64 i 2)),.int .u64 (asI (nthD (encL cell qs) 5))]=encLs (tkC most ls (rowC (encL cell qs) i 3)):=by show ltC most (encLs ls) (encL cell (rowC (encL cell qs) i 3))=_; rw [ltC,decLs_enc,decC_enc]
  generalize rowC (encL cell qs) i 3=rw at eE eD eC ⊢
  simp only [ok0,f1,f2,oc,eE,eD,eC,cm_self,lq,cond_true]
  clear eE eD eC oc
  (refine zN8 @cm_self @lq @a0 @b0 @a1 @b1 @a2 @b2 ?_)
  (refine zR ?_)
  exact⟨trivial,rfl,.bool true,doO most (tkC most ls rw).length (encLs (tkC most ls rw)),[.id 0,.id 1,.id 2,.id 3,.id 4,.id 5,.id 1,.id 14,.id 15,.id 16],⟨rfl,rfl⟩,by(exact zC)⟩
 ·rw [show min qs.length 6=4 by omega]
  have a0:nthD (encL cell qs) 0=.int .i64 (qs[0]'(by omega)).1:=cell_0 (xs:=qs) (i:=0) (by omega)
  have b0:nthD (encL cell qs) 1=.int .u64 (qs[0]'(by omega)).2:=cell_1 (xs:=qs) (i:=0) (by omega)
  have a1:nthD (encL cell qs) 2=.int .i64 (qs[1]'(by omega)).1:=cell_0 (xs:=qs) (i:=1) (by omega)
  have b1:nthD (encL cell qs) 3=.int .u64 (qs[1]'(by omega)).2:=cell_1 (xs:=qs) (i:=1) (by omega)
  have a2:nthD (encL cell qs) 4=.int .i64 (qs[2]'(by omega)).1:=cell_0 (xs:=qs) (i:=2) (by omega)
  have b2:nthD (encL cell qs) 5=.int .u64 (qs[2]'(by omega)).2:=cell_1 (xs:=qs) (i:=2) (by omega)
  have a3:nthD (encL cell qs) 6=.int .i64 (qs[3]'(by omega)).1:=cell_0 (xs:=qs) (i:=3) (by omega)
  have b3:nthD (encL cell qs) 7=.int .u64 (qs[3]'(by omega)).2:=cell_1 (xs:=qs) (i:=3) (by omega)
  have oc:okC (encL cell (rowC (encL cell qs) i 4)) 4=true:=by have:=okC_enc (xs:=rowC (encL cell qs) i 4) (by rw [rowC_len]; omega); rwa [rowC_len] at this
  change okC [.int .i64 (plV (asI (nthD (encL cell qs) 0)) (xar .add .i64 i 0)),.int .u64 (asI (nthD (encL cell qs) 1)),.int .i64 (plV (asI (nthD (encL cell qs) 2)) (xar .add .i64 i 1)),.int .u64 (asI (nthD (encL cell qs) 3)),.int .i64 (plV (asI (nthD (encL cell qs) 4)) (xar .add .i64 i 2)),.int .u64 (asI (nthD (encL cell qs) 5)),.int .i64 (plV (asI (nthD (encL cell qs) 6)) (xar .add .i64 i 3)),.int .u64 (asI (nthD (encL cell qs) 7))] 4=true at oc
  have eE:ltE most (encLs ls) [.int .i64 (plV (asI (nthD (encL cell qs) 0)) (xar .add .i64 i 0)),.int .u64 (asI (nthD (encL cell qs) 1)),.int .i64 (plV (asI (nthD (encL cell qs) 2)) (xar .add .i64 i 1)),.int .u64 (asI (nthD (encL cell qs) 3)),.int .i64 (plV (asI (nthD (encL cell qs) 4)) (xar .add .i64 i 2)),.int .u64 (asI (nthD (encL cell qs) 5)),.int .i64 (plV (asI (nthD (encL cell qs) 6)) (xar .add .i64 i 3)),.int .u64 (asI (nthD (encL cell qs) 7))]=tkE most ls (rowC (encL cell qs) i 4):=by show ltE most (encLs ls) (encL cell (rowC (encL cell qs) i 4))=_; rw [ltE,decLs_enc,decC_enc]
  have eD:ltD most (encLs ls) [.int .i64 (plV (asI (nthD (encL cell qs) 0)) (xar .add .i64 i 0)),.int .u64 (asI (nthD (encL cell qs) 1)),.int .i64 (plV (asI (nthD (encL cell qs) 2)) (xar .add .i64 i 1)),.int .u64 (asI (nthD (encL cell qs) 3)),.int .i64 (plV (asI (nthD (encL cell qs) 4)) (xar .add .i64 i 2)),.int .u64 (asI (nthD (encL cell qs) 5)),.int .i64 (plV (asI (nthD (encL cell qs) 6)) (xar .add .i64 i 3)),.int .u64 (asI (nthD (encL cell qs) 7))]=(tkC most ls (rowC (encL cell qs) i 4)).length:=by show ltD most (encLs ls) (encL cell (rowC (encL cell qs) i 4))=_; rw [ltD,decLs_enc,decC_enc]
  have eC:ltC most (encLs ls) [.int .i64 (plV (asI (nthD (encL cell qs) 0)) (xar .add .i64 i 0)),.int .u64 (asI (nthD (encL cell qs) 1)),.int .i64 (plV (asI (nthD (encL cell qs) 2)) (xar .add .i64 i 1)),.int .u64 (asI (nthD (encL cell qs) 3)),.int .i64 (plV (asI (nthD (encL cell qs) 4)) (xar .add .i64 i 2)),.int .u64 (asI (nthD (encL cell qs) 5)),.int .i64 (plV (asI (nthD (encL cell qs) 6)) (xar .add .i64 i 3)),.int .u64 (asI (nthD (encL cell qs) 7))]=encLs (tkC most ls (rowC (encL cell qs) i 4)):=by show ltC most (encLs ls) (encL cell (rowC (encL cell qs) i 4))=_; rw [ltC,decLs_enc,decC_enc]
  generalize rowC (encL cell qs) i 4=rw at eE eD eC ⊢
  simp only [ok0,f1,f2,oc,eE,eD,eC,cm_self,lq,cond_true]
  clear eE eD eC oc
  simp only [wd_nat,wd_asV,wd_isV,wd_ix,wd_add,wd_mul,wd_ln,Nat.zero_add,Nat.mul_one,wd_isI,wd_asI,wd_isB,wd_asB,wd_nn,cI_tlen,cB_tlen,cII_tlen,decide_true,cond_true,wd_not_t,wd_not_f,wd_and_t,wd_and_f,cm_self,lq,a0,b0,a1,b1,a2,b2,a3,b3]
  (refine zR ?_)
  exact⟨trivial,rfl,.bool true,doO most (tkC most ls rw).length (encLs (tkC most ls rw)),[.id 0,.id 1,.id 2,.id 3,.id 4,.id 5,.id 1,.id 16,.id 17,.id 18],⟨rfl,rfl⟩,by(exact zC)⟩
 ·rw [show min qs.length 6=5 by omega]
  have a0:nthD (encL cell qs) 0=.int .i64 (qs[0]'(by omega)).1:=cell_0 (xs:=qs) (i:=0) (by omega)
  have b0:nthD (encL cell qs) 1=.int .u64 (qs[0]'(by omega)).2:=cell_1 (xs:=qs) (i:=0) (by omega)
  have a1:nthD (encL cell qs) 2=.int .i64 (qs[1]'(by omega)).1:=cell_0 (xs:=qs) (i:=1) (by omega)
  have b1:nthD (encL cell qs) 3=.int .u64 (qs[1]'(by omega)).2:=cell_1 (xs:=qs) (i:=1) (by omega)
  have a2:nthD (encL cell qs) 4=.int .i64 (qs[2]'(by omega)).1:=cell_0 (xs:=qs) (i:=2) (by omega)
  have b2:nthD (encL cell qs) 5=.int .u64 (qs[2]'(by omega)).2:=cell_1 (xs:=qs) (i:=2) (by omega)
  have a3:nthD (encL cell qs) 6=.int .i64 (qs[3]'(by omega)).1:=cell_0 (xs:=qs) (i:=3) (by omega)
  have b3:nthD (encL cell qs) 7=.int .u64 (qs[3]'(by omega)).2:=cell_1 (xs:=qs) (i:=3) (by omega)
  have a4:nthD (encL cell qs) 8=.int .i64 (qs[4]'(by omega)).1:=cell_0 (xs:=qs) (i:=4) (by omega)
  have b4:nthD (encL cell qs) 9=.int .u64 (qs[4]'(by omega)).2:=cell_1 (xs:=qs) (i:=4) (by omega)
  have oc:okC (encL cell (rowC (encL cell qs) i 5)) 5=true:=by have:=okC_enc (xs:=rowC (encL cell qs) i 5) (by rw [rowC_len]; omega); rwa [rowC_len] at this
  change okC [.int .i64 (plV (asI (nthD (encL cell qs) 0)) (xar .add .i64 i 0)),.int .u64 (asI (nthD (encL cell qs) 1)),.int .i64 (plV (asI (nthD (encL cell qs) 2)) (xar .add .i64 i 1)),.int .u64 (asI (nthD (encL cell qs) 3)),.int .i64 (plV (asI (nthD (encL cell qs) 4)) (xar .add .i64 i 2)),.int .u64 (asI (nthD (encL cell qs) 5)),.int .i64 (plV (asI (nthD (encL cell qs) 6)) (xar .add .i64 i 3)),.int .u64 (asI (nthD (encL cell qs) 7)),.int .i64 (plV (asI (nthD (encL cell qs) 8)) (xar .add .i64 i 4)),.int .u64 (asI (nthD (encL cell qs) 9))] 5=true at oc
  have eE:ltE most (encLs ls) [.int .i64 (plV (asI (nthD (encL cell qs) 0)) (xar .add .i64 i 0)),.int .u64 (asI (nthD (encL cell qs) 1)),.int .i64 (plV (asI (nthD (encL cell qs) 2)) (xar .add .i64 i 1)),.int .u64 (asI (nthD (encL cell qs) 3)),.int .i64 (plV (asI (nthD (encL cell qs) 4)) (xar .add .i64 i 2)),.int .u64 (asI (nthD (encL cell qs) 5)),.int .i64 (plV (asI (nthD (encL cell qs) 6)) (xar .add .i64 i 3)),.int .u64 (asI (nthD (encL cell qs) 7)),.int .i64 (plV (asI (nthD (encL cell qs) 8)) (xar .add .i64 i 4)),.int .u64 (asI (nthD (encL cell qs) 9))]=tkE most ls (rowC (encL cell qs) i 5):=by show ltE most (encLs ls) (encL cell (rowC (encL cell qs) i 5))=_; rw [ltE,decLs_enc,decC_enc]
  have eD:ltD most (encLs ls) [.int .i64 (plV (asI (nthD (encL cell qs) 0)) (xar .add .i64 i 0)),.int .u64 (asI (nthD (encL cell qs) 1)),.int .i64 (plV (asI (nthD (encL cell qs) 2)) (xar .add .i64 i 1)),.int .u64 (asI (nthD (encL cell qs) 3)),.int .i64 (plV (asI (nthD (encL cell qs) 4)) (xar .add .i64 i 2)),.int .u64 (asI (nthD (encL cell qs) 5)),.int .i64 (plV (asI (nthD (encL cell qs) 6)) (xar .add .i64 i 3)),.int .u64 (asI (nthD (encL cell qs) 7)),.int .i64 (plV (asI (nthD (encL cell qs) 8)) (xar .add .i64 i 4)),.int .u64 (asI (nthD (encL cell qs) 9))]=(tkC most ls (rowC (encL cell qs) i 5)).length:=by show ltD most (encLs ls) (encL cell (rowC (encL cell qs) i 5))=_; rw [ltD,decLs_enc,decC_enc]
  have eC:ltC most (encLs ls) [.int .i64 (plV (asI (nthD (encL cell qs) 0)) (xar .add .i64 i 0)),.int .u64 (asI (nthD (encL cell qs) 1)),.int .i64 (plV (asI (nthD (encL cell qs) 2)) (xar .add .i64 i 1)),.int .u64 (asI (nthD (encL cell qs) 3)),.int .i64 (plV (asI (nthD (encL cell qs) 4)) (xar .add .i64 i 2)),.int .u64 (asI (nthD (encL cell qs) 5)),.int .i64 (plV (asI (nthD (encL cell qs) 6)) (xar .add .i64 i 3)),.int .u64 (asI (nthD (encL cell qs) 7)),.int .i64 (plV (asI (nthD (encL cell qs) 8)) (xar .add .i64 i 4)),.int .u64 (asI (nthD (encL cell qs) 9))]=encLs (tkC most ls (rowC (encL cell qs) i 5)):=by show ltC most (encLs ls) (encL cell (rowC (encL cell qs) i 5))=_; rw [ltC,decLs_enc,decC_enc]
  generalize rowC (encL cell qs) i 5=rw at eE eD eC ⊢
  simp only [ok0,f1,f2,oc,eE,eD,eC,cm_self,lq,cond_true]
  clear eE eD eC oc
  simp only [wd_nat,wd_asV,wd_isV,wd_ix,wd_add,wd_mul,wd_ln,Nat.zero_add,Nat.mul_one,wd_isI,wd_asI,wd_isB,wd_asB,wd_nn,cI_tlen,cB_tlen,cII_tlen,decide_true,cond_true,wd_not_t,wd_not_f,wd_and_t,wd_and_f,cm_self,lq,a0,b0,a1,b1,a2,b2,a3,b3,a4,b4]
  (refine zR ?_)
  exact⟨trivial,rfl,.bool true,doO most (tkC most ls rw).length (encLs (tkC most ls rw)),[.id 0,.id 1,.id 2,.id 3,.id 4,.id 5,.id 1,.id 18,.id 19,.id 20],⟨rfl,rfl⟩,by(exact zC)⟩
 ·rw [show min qs.length 6=6 by omega]
  have a0:nthD (encL cell qs) 0=.int .i64 (qs[0]'(by omega)).1:=cell_0 (xs:=qs) (i:=0) (by omega)
  have b0:nthD (encL cell qs) 1=.int .u64 (qs[0]'(by omega)).2:=cell_1 (xs:=qs) (i:=0) (by omega)
  have a1:nthD (encL cell qs) 2=.int .i64 (qs[1]'(by omega)).1:=cell_0 (xs:=qs) (i:=1) (by omega)
  have b1:nthD (encL cell qs) 3=.int .u64 (qs[1]'(by omega)).2:=cell_1 (xs:=qs) (i:=1) (by omega)
  have a2:nthD (encL cell qs) 4=.int .i64 (qs[2]'(by omega)).1:=cell_0 (xs:=qs) (i:=2) (by omega)
  have b2:nthD (encL cell qs) 5=.int .u64 (qs[2]'(by omega)).2:=cell_1 (xs:=qs) (i:=2) (by omega)
  have a3:nthD (encL cell qs) 6=.int .i64 (qs[3]'(by omega)).1:=cell_0 (xs:=qs) (i:=3) (by omega)
  have b3:nthD (encL cell qs) 7=.int .u64 (qs[3]'(by omega)).2:=cell_1 (xs:=qs) (i:=3) (by omega)
  have a4:nthD (encL cell qs) 8=.int .i64 (qs[4]'(by omega)).1:=cell_0 (xs:=qs) (i:=4) (by omega)
  have b4:nthD (encL cell qs) 9=.int .u64 (qs[4]'(by omega)).2:=cell_1 (xs:=qs) (i:=4) (by omega)
  have a5:nthD (encL cell qs) 10=.int .i64 (qs[5]'(by omega)).1:=cell_0 (xs:=qs) (i:=5) (by omega)
  have b5:nthD (encL cell qs) 11=.int .u64 (qs[5]'(by omega)).2:=cell_1 (xs:=qs) (i:=5) (by omega)
  have oc:okC (encL cell (rowC (encL cell qs) i 6)) 6=true:=by have:=okC_enc (xs:=rowC (encL cell qs) i 6) (by rw [rowC_len]; omega); rwa [rowC_len] at this
  change okC [.int .i64 (plV (asI (nthD (encL cell qs) 0)) (xar .add .i64 i 0)),.int .u64 (asI (nthD (encL cell qs) 1)),.int .i64 (plV (asI (nthD (encL cell qs) 2)) (xar .add .i64 i 1)),.int .u64 (asI (nthD (encL cell qs) 3)),.int .i64 (plV (asI (nthD (encL cell qs) 4)) (xar .add .i64 i 2)),.int .u64 (asI (nthD (encL cell qs) 5)),.int .i64 (plV (asI (nthD (encL cell qs) 6)) (xar .add .i64 i 3)),.int .u64 (asI (nthD (encL cell qs) 7)),.int .i64 (plV (asI (nthD (encL cell qs) 8)) (xar .add .i64 i 4)),.int .u64 (asI (nthD (encL cell qs) 9)),.int .i64 (plV (asI (nthD (encL cell qs) 10)) (xar .add .i64 i 5)),.int .u64 (asI (nthD (encL cell qs) 11))] 6=true at oc
  have eE:ltE most (encLs ls) [.int .i64 (plV (asI (nthD (encL cell qs) 0)) (xar .add .i64 i 0)),.int .u64 (asI (nthD (encL cell qs) 1)),.int .i64 (plV (asI (nthD (encL cell qs) 2)) (xar .add .i64 i 1)),.int .u64 (asI (nthD (encL cell qs) 3)),.int .i64 (plV (asI (nthD (encL cell qs) 4)) (xar .add .i64 i 2)),.int .u64 (asI (nthD (encL cell qs) 5)),.int .i64 (plV (asI (nthD (encL cell qs) 6)) (xar .add .i64 i 3)),.int .u64 (asI (nthD (encL cell qs) 7)),.int .i64 (plV (asI (nthD (encL cell qs) 8)) (xar .add .i64 i 4)),.int .u64 (asI (nthD (encL cell qs) 9)),.int .i64 (plV (asI (nthD (encL cell qs) 10)) (xar .add .i64 i 5)),.int .u64 (asI (nthD (encL cell qs) 11))]=tkE most ls (rowC (encL cell qs) i 6):=by show ltE most (encLs ls) (encL cell (rowC (encL cell qs) i 6))=_; rw [ltE,decLs_enc,decC_enc]
  have eD:ltD most (encLs ls) [.int .i64 (plV (asI (nthD (encL cell qs) 0)) (xar .add .i64 i 0)),.int .u64 (asI (nthD (encL cell qs) 1)),.int .i64 (plV (asI (nthD (encL cell qs) 2)) (xar .add .i64 i 1)),.int .u64 (asI (nthD (encL cell qs) 3)),.int .i64 (plV (asI (nthD (encL cell qs) 4)) (xar .add .i64 i 2)),.int .u64 (asI (nthD (encL cell qs) 5)),.int .i64 (plV (asI (nthD (encL cell qs) 6)) (xar .add .i64 i 3)),.int .u64 (asI (nthD (encL cell qs) 7)),.int .i64 (plV (asI (nthD (encL cell qs) 8)) (xar .add .i64 i 4)),.int .u64 (asI (nthD (encL cell qs) 9)),.int .i64 (plV (asI (nthD (encL cell qs) 10)) (xar .add .i64 i 5)),.int .u64 (asI (nthD (encL cell qs) 11))]=(tkC most ls (rowC (encL cell qs) i 6)).length:=by show ltD most (encLs ls) (encL cell (rowC (encL cell qs) i 6))=_; rw [ltD,decLs_enc,decC_enc]
  have eC:ltC most (encLs ls) [.int .i64 (plV (asI (nthD (encL cell qs) 0)) (xar .add .i64 i 0)),.int .u64 (asI (nthD (encL cell qs) 1)),.int .i64 (plV (asI (nthD (encL cell qs) 2)) (xar .add .i64 i 1)),.int .u64 (asI (nthD (encL cell qs) 3)),.int .i64 (plV (asI (nthD (encL cell qs) 4)) (xar .add .i64 i 2)),.int .u64 (asI (nthD (encL cell qs) 5)),.int .i64 (plV (asI (nthD (encL cell qs) 6)) (xar .add .i64 i 3)),.int .u64 (asI (nthD (encL cell qs) 7)),.int .i64 (plV (asI (nthD (encL cell qs) 8)) (xar .add .i64 i 4)),.int .u64 (asI (nthD (encL cell qs) 9)),.int .i64 (plV (asI (nthD (encL cell qs) 10)) (xar .add .i64 i 5)),.int .u64 (asI (nthD (encL cell qs) 11))]=encLs (tkC most ls (rowC (encL cell qs) i 6)):=by show ltC most (encLs ls) (encL cell (rowC (encL cell qs) i 6))=_; rw [ltC,decLs_enc,decC_enc]
  generalize rowC (encL cell qs) i 6=rw at eE eD eC ⊢
  simp only [ok0,f1,f2,oc,eE,eD,eC,cm_self,lq,cond_true]
  clear eE eD eC oc
  simp only [wd_nat,wd_asV,wd_isV,wd_ix,wd_add,wd_mul,wd_ln,Nat.zero_add,Nat.mul_one,wd_isI,wd_asI,wd_isB,wd_asB,wd_nn,cI_tlen,cB_tlen,cII_tlen,decide_true,cond_true,wd_not_t,wd_not_f,wd_and_t,wd_and_f,cm_self,lq,a0,b0,a1,b1,a2,b2,a3,b3,a4,b4,a5,b5]
  by_cases z:6 < qs.length <;> ((refine zR ?_))
  all_goals exact⟨trivial,rfl,.bool true,doO most (tkC most ls rw).length (encLs (tkC most ls rw)),[.id 0,.id 1,.id 2,.id 3,.id 4,.id 5,.id 1,.id 20,.id 21,.id 22],⟨rfl,rfl⟩,by(exact zC)⟩
theorem do_ok {F:World→Prop} {v:Value} (most:Int) (ls:List Lv) (k a w:Int) (qs:CL) (i:Int) (hq:∀ W,F W→RowArg W v qs.length (encL cell qs)) (hn:qs.length≤9223372036854775807) (h:OkLs ls) (hm:(totC ls:Int)≤most) (hm2:most≤96) (hf:totF ls < 100000) :
  SFun prog 7 [.ptr 0 0,.ptr 3 0,.agg [.int .i64 k,.int .i64 a,.int .u64 w,.val v],.int .i64 i] (mkS (doI most ls.length (encLs ls)) (factG F)) fun l t=>l=.bool true∧t=mkS (doO most (doS most ls k a w qs i).length (encLs (doS most ls k a w qs i))) (factG F):=by
 refine SFun.mono (SFun.pieces (Q:=doQ most (doS most ls k a w qs i)) 101 6 doL [8] (by kernel_rfl) rfl rfl rfl ?_) fun l s' ⟨b0,⟨h1,h2⟩,h3⟩=>⟨h1,by rw [h3,h2]⟩
 have f1:=isF_self lvF; have f2:=isF_self orF
 have ok0:=okR_enc h hm hm2
 have okf:okF (encLs ls)=true:=by simp only [okF,decLs_enc,decide_eq_true_eq]; exact hf
 refine SSp.to cxd_ok (n:=60) (g:=factG F) 2 2 rfl (σ:=Unit) (fun _=>doT i (wthV k 0 9)) (fun _=>doH most ls.length (encLs ls) k a w v) (mkS_le (Nat.le_of_ble_eq_true rfl)) (by kernel_rfl) ?_ fun _=>?_
 ·rw [do_a]; exact⟨rfl,(),[.id 0,.id 1,.id 2,.id 3,.id 4,.id 5,.id 6],by(exact zC)⟩
 unfold doS
 have hK:0≤wthV k 0 9∧wthV k 0 9≤9:=by simp only [wthV]; omega
 generalize wthV k 0 9=K at hK
 have hK:K=0∨K=1∨K=2∨K=3∨K=4∨K=5∨K=6∨K=7∨K=8∨K=9:=by omega
 rcases hK with rfl | rfl | rfl | rfl | rfl | rfl | rfl | rfl | rfl | rfl
 ·refine zE cxd_ok ?_
  rw [do_0]
  simp only [ok0,f1,f2,cm_self,lopenD,lopenC,decLs_enc,cond_true]
  exact⟨trivial,rfl,.bool true,doO most (opL ls).length (encLs (opL ls)),[.id 0,.id 1,.id 2,.id 3,.id 4,.id 5,.id 7,.id 8,.id 9,.id 10],⟨rfl,rfl⟩,by(exact zC)⟩
 ·refine zE cxd_ok ?_
  rw [do_1]
  simp only [ok0,f1,f2,cm_self,lkeepD,lkeepC,decLs_enc,cond_true]
  exact⟨trivial,rfl,.bool true,doO most (kpL ls).length (encLs (kpL ls)),[.id 0,.id 1,.id 2,.id 3,.id 4,.id 5,.id 7,.id 8,.id 9,.id 10],⟨rfl,rfl⟩,by(exact zC)⟩
 ·refine zE cxd_ok ?_
  rw [do_2]
  simp only [ok0,f1,f2,cm_self,ldropD,ldropC,decLs_enc,cond_true]
  exact⟨trivial,rfl,.bool true,doO most (drL ls).length (encLs (drL ls)),[.id 0,.id 1,.id 2,.id 3,.id 4,.id 5,.id 7,.id 8,.id 9,.id 10],⟨rfl,rfl⟩,by(exact zC)⟩
 ·refine zE cxd_ok ?_
  rw [do_3]
  simp only [ok0,okf,f1,f2,lfD,lfC,decLs_enc,cond_true]
  exact⟨trivial,rfl,.bool true,doO most (frC ls a).length (encLs (frC ls a)),[.id 0,.id 1,.id 2,.id 3,.id 4,.id 5,.id 1,.id 7,.id 4,.id 8],⟨rfl,rfl⟩,by(exact zC)⟩
 ·refine SSp.row (v:=v) (n:=qs.length) (cs:=encL cell qs) (as':=doT i 4) (bs':=[.cells [.int .i64 most,.slo 1 0 ls.length 0] none,.obj lvF (encLs ls) 2,.dead,.cells [.int .i64 most,.slo 4 0 ls.length 0] none,.obj orF (encLs ls) 5,.dead,.cells [.int .i64 k,.int .i64 a,.int .u64 w,.slo 7 0 qs.length 0] none]) (by kernel_rfl) (Nat.le_of_ble_eq_true rfl) (fun W0 hW=>hq W0 (Gl_fact.1 hW)) (fun u=>.inl rfl)
   ⟨.inl rfl,.inl rfl,.inl rfl,.inl rfl,.inl rfl,.inl rfl,.inr ⟨rfl,.inl rfl,.inl rfl,.inl rfl,.inr ⟨rfl,rfl⟩,trivial⟩,trivial⟩ ?_
  exact do_take most ls k a w qs i hn h hm hm2
 ·refine zE cxd_ok ?_
  rw [do_5]
  simp only [ok0,f1,f2,cm_self,lpD,lpC,decLs_enc,cond_true]
  exact⟨trivial,rfl,.bool true,doO most (tkC most ls [(plV a i,w)]).length (encLs (tkC most ls [(plV a i,w)])),[.id 0,.id 1,.id 2,.id 3,.id 4,.id 5,.id 1,.id 7,.id 4,.id 8],⟨rfl,rfl⟩,by(exact zC)⟩
 ·refine zE cxd_ok ?_
  rw [do_6]
  simp only [ok0,f1,f2,cm_self,lpD,lpC,decLs_enc,cond_true]
  exact⟨trivial,rfl,.bool true,doO most (tkC most ls [(plV a i,w)]).length (encLs (tkC most ls [(plV a i,w)])),[.id 0,.id 1,.id 2,.id 3,.id 4,.id 5,.id 1,.id 7,.id 4,.id 8],⟨rfl,rfl⟩,by(exact zC)⟩
 ·refine zE cxd_ok ?_
  rw [do_7]
  simp only [ok0,f1,f2,cm_self,lpD,lpC,decLs_enc,cond_true]
  exact⟨trivial,rfl,.bool true,doO most (tkC most ls [(plV a i,w)]).length (encLs (tkC most ls [(plV a i,w)])),[.id 0,.id 1,.id 2,.id 3,.id 4,.id 5,.id 1,.id 7,.id 4,.id 8],⟨rfl,rfl⟩,by(exact zC)⟩
 ·refine zE cxd_ok ?_
  rw [do_8]
  simp only [ok0,f1,f2,cm_self,lpD,lpC,decLs_enc,cond_true]
  exact⟨trivial,rfl,.bool true,doO most (tkC most ls [(plV a i,w)]).length (encLs (tkC most ls [(plV a i,w)])),[.id 0,.id 1,.id 2,.id 3,.id 4,.id 5,.id 1,.id 7,.id 4,.id 8],⟨rfl,rfl⟩,by(exact zC)⟩
 ·refine zE cxd_ok ?_
  rw [do_9]
  simp only [ok0,f1,f2,cm_self,lpD,lpC,decLs_enc,cond_true]
  exact⟨trivial,rfl,.bool true,doO most (tkC most ls [(plV a i,w)]).length (encLs (tkC most ls [(plV a i,w)])),[.id 0,.id 1,.id 2,.id 3,.id 4,.id 5,.id 1,.id 7,.id 4,.id 8],⟨rfl,rfl⟩,by(exact zC)⟩
end
end Go.Lev
