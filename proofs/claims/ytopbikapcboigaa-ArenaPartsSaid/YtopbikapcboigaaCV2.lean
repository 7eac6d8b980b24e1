/- chapter 10: a view: Know and Read as contracts -/
import Derived.Test.YtopbikapcboigaaCV1
import Derived.Test.YtopbikapcboigaaLc
import Derived.Test.YtopbikapcboigaaChecked
import Derived.KernelRfl
namespace Go.Lev
set_option linter.unusedSimpArgs false
set_option linter.unusedVariables false
open Go.RowKit
open Go.Proofs.Try (prog)
set_option maxRecDepth 100000
noncomputable section
theorem setI (xs:List Int) (i:Nat) (y:Int) (h:i < xs.length):xlay (encL (cI .i64) xs) i [.int .i64 y]=encL (cI .i64) (xs.set i y):=by
 have e:=encL_set (cI_len .i64) xs i y h
 rw [Nat.mul_one] at e; exact e
theorem cxv1_ok:CtrOk prog (ctrOf cxv1):=cxl_ok ⟨lgetG_ok,ogetG_ok,placeG_ok,trivial⟩
theorem nt_lss (a b:Int):xnot (xcm .lss a b)=xcm .geq a b:=by rw [wd_not,xcm_lss,xcm_geq,Bool.eq_iff_iff]; simp
theorem knC_hit {sz:Nat} {ks:CL} {a x w:Int} (h:fndV ks a=some w):knC sz ks a x=ks:=if_neg fun q=>by rw [h] at q; cases q.2
theorem knE_hit {sz:Nat} {ks:CL} {a x w:Int} (c:inV sz a) (h:fndV ks a=some w):knE sz ks a x=if w=x then 0 else 14:=by rw [knE,if_pos c,h]
theorem knE_new {sz:Nat} {ks:CL} {a x:Int} (c:inV sz a) (h:fndV ks a=none):knE sz ks a x=0:=by rw [knE,if_pos c,h]
theorem inV_nat {sz:Nat} {a:Int} (c:inV sz a):∃ p:Nat,a=p∧1≤p∧p < sz:=by
 obtain⟨c1,c2⟩:=c
 exact⟨a.toNat,by omega,by omega,by omega⟩
set_option maxHeartbeats 1000000 in
theorem kn_ok (sz:Nat) (ks:CL) (h:OkK sz ks) (a x nd most:Int) (d:Nat) (cs:List LV):SFun prog 27 [.ptr 0 0,.int .i64 a,.int .u64 x] (mkS (vwH sz ks.length (encL cell ks) (encL (cI .i64) (spL sz ks)) nd most d cs)) fun l t=>l=.int .i64 (knE sz ks a x)∧t=mkS (vwI sz (knC sz ks a x).length (encL cell (knC sz ks a x)) (encL (cI .i64) (spL sz (knC sz ks a x))) nd most d cs):=by
 refine SFun.mono (SFun.vc (Q:=fun l b=>l=.int .i64 (knE sz ks a x)∧b=vwI sz (knC sz ks a x).length (encL cell (knC sz ks a x)) (encL (cI .i64) (spL sz (knC sz ks a x))) nd most d cs) cxv1_ok (n:=60) 6 rfl ?_) fun l s' ⟨b0,⟨h1,h2⟩,h3⟩=>⟨h1,by rw [h3,h2]⟩
 have nk:=noids_c ks; have np:=noIds_Ii64 (spL sz ks); have lk:=cell_n ks; have lp:=spL_n sz ks
 have hn:=h.n; have hs:=h.s
 rw [kn_x]
 simp only [nt_lss]
 by_cases c:inV sz a
 ·obtain⟨p,rfl,c1,c2⟩:=inV_nat c
  have sn:=spL_nth (ks:=ks) c2
  rcases fnd_cases ks p with⟨i,hi,g1,g2,g3,_⟩ | ⟨g2,g3,_⟩
  ·have i1:xar .sub .i64 ((i:Int)+1) 1=(i:Int):=by rw [sub_i64 (by omega) (by omega)]; omega
   rw [g2] at sn
   rw [knC_hit g3,knE_hit c g3]
   by_cases w:ks[i].2=x
   ·rw [if_pos w]
    (refine zN5 @sn @lk @lp @i1 (cell_1 hi) ?_)
    (refine zR ?_)
    exact⟨rfl,_,_,[.id 0,.id 1,.id 2,.id 3,.id 4,.id 5,.id 1],⟨rfl,rfl⟩,by(exact zC)⟩
   ·rw [if_neg w]
    (refine zN5 @sn @lk @lp @i1 (cell_1 hi) ?_)
    (refine zR ?_)
    exact⟨rfl,_,_,[.id 0,.id 1,.id 2,.id 3,.id 4,.id 5,.id 1],⟨rfl,rfl⟩,by(exact zC)⟩
  ·have sn0:nthD (encL (cI .i64) (spL sz ks)) p=.int .i64 0:=by rw [sn,g2]; rfl
   have eC:knC sz ks p x=ks++[((p:Int),x)]:=if_pos ⟨c,g3⟩
   have nk2:=noids_c (ks++[((p:Int),x)])
   have L1:(ks++[((p:Int),x)]).length=ks.length+1:=by simp
   have eS:xlay (encL (cI .i64) (spL sz ks)) p [.int .i64 ((ks.length+1:Nat):Int)]=encL (cI .i64) (spL sz (ks++[((p:Int),x)])):=by
    rw [setI _ _ _ (by rw [spL_len]; exact c2),← spL_push x c2 g3]; rfl
   have np2:=noIds_Ii64 (spL sz (ks++[((p:Int),x)]))
   rw [eC,knE_new c g3,L1]
   simp only [wd_nat,wd_asV,wd_isV,wd_ix,wd_add,wd_mul,wd_ln,Nat.zero_add,Nat.mul_one,wd_isI,wd_asI,wd_isB,wd_asB,wd_nn,cI_tlen,cB_tlen,cII_tlen,decide_true,cond_true,wd_not_t,wd_not_f,wd_and_t,wd_and_f,sn0,lk,lp,cell_push,eS]
   (refine zR ?_)
   exact⟨rfl,_,_,[.id 0,.id 1,.id 2,.id 3,.id 4,.id 5,.id 7],⟨rfl,rfl⟩,by(exact zC)⟩
 ·have eC:knC sz ks a x=ks:=if_neg fun q=>c q.1
  have eE:knE sz ks a x=2:=if_neg c
  rw [eC,eE]
  by_cases c1:1≤a
  ·have c2:¬ a < sz:=fun q=>c ⟨c1,q⟩
   (refine zR ?_)
   exact⟨rfl,_,_,[.id 0,.id 1,.id 2,.id 3,.id 4,.id 5,.id 1],⟨rfl,rfl⟩,by(exact zC)⟩
  ·(refine zR ?_)
   exact⟨rfl,_,_,[.id 0,.id 1,.id 2,.id 3,.id 4,.id 5,.id 1],⟨rfl,rfl⟩,by(exact zC)⟩
theorem rd_ok (sz:Nat) (ks:CL) (h:OkK sz ks) (a nd most:Int) (ls:List Lv) (hl:OkLs ls) (hm:(totC ls:Int)≤most) (hm2:most≤96):SFun prog 40 [.ptr 0 0,.int .i64 a] (mkS (vwH sz ks.length (encL cell ks) (encL (cI .i64) (spL sz ks)) nd most ls.length (encLs ls))) fun l t=>l=.tup [.int .u64 (rdV sz ks ls a),.int .i64 (rdE sz ks ls a)]∧t=mkS (vwJ sz ks.length (encL cell ks) (encL (cI .i64) (spL sz ks)) (rdD sz ks ls a nd) most ls.length (encLs ls)):=by
 refine SFun.mono (SFun.vc (Q:=fun l b=>l=.tup [.int .u64 (rdV sz ks ls a),.int .i64 (rdE sz ks ls a)]∧b=vwJ sz ks.length (encL cell ks) (encL (cI .i64) (spL sz ks)) (rdD sz ks ls a nd) most ls.length (encLs ls)) cxv1_ok (n:=60) 6 rfl ?_) fun l s' ⟨b0,⟨h1,h2⟩,h3⟩=>⟨h1,by rw [h3,h2]⟩
 have nk:=noids_c ks; have np:=noIds_Ii64 (spL sz ks); have lk:=cell_n ks; have lp:=spL_n sz ks
 have hn:=h.n; have hs:=h.s
 have ok0:=okR_enc hl hm hm2; have f1:=isF_self lvF
 rw [rd_x]
 simp only [nt_lss]
 by_cases c:inV sz a
 ·obtain⟨p,rfl,c1,c2⟩:=inV_nat c
  have sn:=spL_nth (ks:=ks) c2
  cases hg:getL ls (p:Int) with
  | some v =>
    have eB:lgB (encLs ls) (p:Int)=true:=by rw [lgB,decLs_enc,hg]; rfl
    have eV:lgV (encLs ls) (p:Int)=v:=by rw [lgV,decLs_enc,hg]; rfl
    have e1:rdV sz ks ls p=v:=by rw [rdV,if_pos c,hg]
    have e2:rdE sz ks ls p=0:=by rw [rdE,if_pos c,hg]; rfl
    have e3:rdD sz ks ls p nd=nd:=by rw [rdD,e2]; rfl
    rw [e1,e2,e3]
    simp only [ok0,f1,eB,eV]
    (refine zR ?_)
    exact⟨rfl,_,_,[.id 0,.id 1,.id 2,.id 3,.id 4,.id 5,.id 6],⟨rfl,rfl⟩,by(exact zC)⟩
  | none =>
    have eB:lgB (encLs ls) (p:Int)=false:=by rw [lgB,decLs_enc,hg]; rfl
    rcases fnd_cases ks p with⟨i,hi,g1,g2,g3,_⟩ | ⟨g2,g3,_⟩
    ·have i1:xar .sub .i64 ((i:Int)+1) 1=(i:Int):=by rw [sub_i64 (by omega) (by omega)]; omega
     have e1:rdV sz ks ls p=ks[i].2:=by rw [rdV,if_pos c,hg,fV,g3]; rfl
     have e2:rdE sz ks ls p=0:=by rw [rdE,if_pos c,g3]; simp
     have e3:rdD sz ks ls p nd=nd:=by rw [rdD,e2]; rfl
     rw [g2] at sn
     rw [e1,e2,e3]
     simp only [ok0,f1,eB]
     (refine zN5 @sn @lk @lp @i1 (cell_1 hi) ?_)
     (refine zR ?_)
     exact⟨rfl,_,_,[.id 0,.id 1,.id 2,.id 3,.id 4,.id 5,.id 6],⟨rfl,rfl⟩,by(exact zC)⟩
    ·have sn0:nthD (encL (cI .i64) (spL sz ks)) p=.int .i64 0:=by rw [sn,g2]; rfl
     have e1:rdV sz ks ls p=0:=by rw [rdV,if_pos c,hg,fV,g3]; rfl
     have e2:rdE sz ks ls p=11:=by rw [rdE,if_pos c,g3,hg]; rfl
     have e3:rdD sz ks ls p nd=p:=by rw [rdD,e2]; rfl
     rw [e1,e2,e3]
     simp only [ok0,f1,eB]
     (refine zN3 @sn0 @lk @lp ?_)
     (refine zR ?_)
     exact⟨rfl,_,_,[.id 0,.id 1,.id 2,.id 3,.id 4,.id 5,.id 6],⟨rfl,rfl⟩,by(exact zC)⟩
 ·have e1:rdV sz ks ls a=0:=if_neg c
  have e2:rdE sz ks ls a=2:=if_neg c
  have e3:rdD sz ks ls a nd=nd:=by rw [rdD,e2]; rfl
  rw [e1,e2,e3]
  by_cases c1:1≤a
  ·have c2:¬ a < sz:=fun q=>c ⟨c1,q⟩
   (refine zR ?_)
   exact⟨rfl,_,_,[.id 0,.id 1,.id 2,.id 3,.id 4,.id 5,.id 5],⟨rfl,rfl⟩,by(exact zC)⟩
  ·(refine zR ?_)
   exact⟨rfl,_,_,[.id 0,.id 1,.id 2,.id 3,.id 4,.id 5,.id 5],⟨rfl,rfl⟩,by(exact zC)⟩
end
end Go.Lev
