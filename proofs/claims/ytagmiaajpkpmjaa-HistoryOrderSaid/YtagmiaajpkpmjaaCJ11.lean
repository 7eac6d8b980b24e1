/- HistoryOrder (P29.1): for any draws the law returns true; what was there stays as it was. -/
import Derived.Test.YtagmiaajpkpmjaaCJ10
import Derived.Test.YtagmiaajpkpmjaaLc
import Derived.Test.YtagmiaajpkpmjaaChecked
import Derived.KernelRfl
namespace Go.Lev
set_option linter.unusedSimpArgs false
set_option linter.unusedVariables false
open Go.RowKit
open Go.Proofs.Try (prog)
set_option maxRecDepth 100000
noncomputable section
abbrev bC:Bool→List LV:=fun b=>[.bool b]
theorem bC_len (x:Bool):(bC x).length=1:=rfl
theorem bC_n (xs:List Bool):(encL bC xs).length=xs.length:=by rw [encL_length bC_len]; omega
theorem noids_bC (xs:List Bool):noIds (encL bC xs)=true:=noIds_encL (fun _=>rfl) xs
theorem bC_0 {xs:List Bool} {i:Nat} (h:i < xs.length):nthD (encL bC xs) i=.bool (xs.getD i false):=by
 have:=encL_nth bC_len (j:=0) h (by omega)
 simp only [Nat.mul_one,Nat.add_zero] at this
 rw [this,List.getD_eq_getElem?_getD,List.getElem?_eq_getElem h]; rfl
theorem bC_set {xs:List Bool} {i:Nat} (h:i < xs.length) (y:Bool):xlay (encL bC xs) i [.bool y]=encL bC (xs.set i y):=by
 have:=encL_set bC_len xs i y h
 rw [Nat.mul_one] at this; exact this
def mkB (xs:List Nat) (m:Nat):Nat→List Bool
 | 0=>List.replicate m false
 | i+1=>(mkB xs m i).set (xs.getD i 0) true
theorem mkB_len (xs:List Nat) (m:Nat):∀ i,(mkB xs m i).length=m
 | 0=>by simp [mkB]
 | i+1=>by rw [mkB,List.length_set,mkB_len xs m i]
theorem mkB_of (xs:List Nat) (m:Nat):∀ i p,(mkB xs m i).getD p false=true→∃ k,k < i∧xs.getD k 0=p
 | 0,p,h=>by
   rw [mkB,List.getD_eq_getElem?_getD] at h
   by_cases c:p < m
   ·simp [List.getElem?_replicate,c] at h
   ·simp [List.getElem?_replicate,c] at h
 | i+1,p,h=>by
   rw [mkB,List.getD_eq_getElem?_getD] at h
   by_cases c:xs.getD i 0=p
   ·exact⟨i,by omega,c⟩
   ·rw [List.getElem?_set_ne c,← List.getD_eq_getElem?_getD] at h
    obtain⟨k,k1,k2⟩:=mkB_of xs m i p h
    exact⟨k,by omega,k2⟩
theorem c3_asy {x y:Int} (h:c3 x y < 0):¬ c3 y x < 0:=by
 unfold c3 at *
 split at h
 ·rw [if_neg (by omega),if_pos (by assumption)]; omega
 ·split at h <;> omega
theorem c3_lt {x y:Int} (h:x < y):c3 x y < 0:=by unfold c3; rw [if_pos h]; omega
theorem cm_asy {k s b k' s' b':Int} {v v':Value} (h:cmW k s b v k' s' b' v' < 0):¬ cmW k' s' b' v' k s b v < 0:=by
 unfold cmW at *
 by_cases e:s=s'
 ·rw [if_pos e] at h
  rw [if_pos e.symm]
  by_cases w:wrW k v=wrW k' v'
  ·rw [if_pos w] at h; rw [if_pos w.symm]; exact c3_asy h
  ·rw [if_neg w] at h; rw [if_neg (Ne.symm w)]
   cases a:wrW k v <;> cases b:wrW k' v' <;> simp_all
 ·rw [if_neg e] at h; rw [if_neg (Ne.symm e)]; exact c3_asy h
theorem cm_no {k s b k' s' b':Int} {v v':Value} (h:¬ cmW k s b v k' s' b' v' < 0):¬ s < s'∧(s'=s→k=2→0 < xvl v→k'=2∧0 < xvl v'):=by
 unfold cmW at h
 refine⟨fun c=>?_,fun e k2 hv=>?_⟩
 ·rw [if_neg (by omega)] at h; exact h (c3_lt c)
 ·rw [if_pos e.symm] at h
  have w:wrW k v=true:=by unfold wrW; rw [decide_eq_true k2,decide_eq_true hv]; rfl
  by_cases c:wrW k' v'=true
  ·unfold wrW at c
   simp only [Bool.and_eq_true,decide_eq_true_eq] at c
   exact c
  ·rw [if_neg (by rw [w]; exact fun e=>c e.symm),if_pos w] at h
   exact absurd (by omega) h
theorem ltC_asy (c:List LV):∀ x y,ltC c x y=true→ltC c y x=false:=fun x y h=>by
 unfold ltC cmC at *
 rw [decide_eq_true_eq] at h
 exact decide_eq_false (cm_asy h)
theorem lhin:allIn [2] lL=true:=by kernel_rfl
set_option maxHeartbeats 8000000 in
theorem ho_rest (ats:List AtV) (h20:ats.length≤20) (dx:List LV) (nd:noIds dx=true) (F:World→Prop) :
  SW prog 115 2 (lS.drop 4) (mkTm 115 (lT0 ats.length)) (mkS [.ro dx,.ro (encL atC ats),.dead,.dead,.dead] (factG F)):=by
 have kA:okAt (encL atC ats) ats.length=true:=okAt_iff.2 ⟨ats,rfl,rfl,h20⟩
 have na:=noids_aC ats; have la:=atC_n ats
 have ga:=fun {p:Nat} (h:p < ats.length)=>at_at h
 have eO:orW (encL atC ats) ats.length=encL nI (srt (ltC (encL atC ats)) ats.length ats.length):=rfl
 obtain⟨pl,ch⟩:=srt_ok (ltC_asy (encL atC ats)) (n:=ats.length) ats.length (Nat.le_refl _)
 have ltE:∀ x y,ltC (encL atC ats) x y=decide (cmC (encL atC ats) x y < 0):=fun x y=>rfl
 generalize encL atC ats=ax at *
 generalize ats.length=m at *
 generalize srt (ltC ax) m m=xs at *
 have no:=noids_nI xs; have lo:=nI_n xs; have xl:=pl.l
 have z0:xle m m=true:=t_le (Nat.le_refl _)
 refine SW.to cxl2_ok (n:=60) (n0:=0) (g:=factG F) 5 9 rfl lhin (by omega) (σ:=Unit) (fun _=>lT m 0) (fun _=>lH ax (encL nI xs) (encL bC (mkB xs m 0))) (mkS_le (Nat.zero_le _)) ?_ fun _=>?_
 ·have y0:xcm .neq ((m:Nat):Int) ((m:Nat):Int)=false:=f_neq rfl
  have z1:xle m 100000=true:=t_le (by omega)
  have eR:xrep m [.bool false]=encL bC (mkB xs m 0):=encL_rep (f:=bC) false m
  have nR:=noids_bC (mkB xs m 0)
  have lR:(encL bC (mkB xs m 0)).length=m * 1:=by rw [bC_n,mkB_len]; omega
  rw [la_b]
  simp only [kA,y0,wd_nat,z0,z1,cond_true,cond_false]
  rw [eR,eO]
  exact⟨rfl,(),[.id 1,.id 5,.cap 6 0 m],by(exact zC)⟩
 try dsimp only
 refine SW.code_to (g:=factG F) (n0:=0) 10 rfl lhin (by omega) (σ:=Unit) (fun _=>lT m m) (fun _=>lH ax (encL nI xs) (encL bC (mkB xs m m))) (by kernel_rfl) (mkS_le (Nat.zero_le _)) ?_ fun _=>?_
 ·refine SCode.loop_vc cxl2_ok (n:=60) (n0:=0) 0 (by kernel_rfl) (σ:={i:Nat // i≤m}) (fun i=>lT m i.1) (fun i=>lH ax (encL nI xs) (encL bC (mkB xs m i.1))) (fun i=>m - i.1) (fun _=>Nat.zero_le _) (fun⟨i,hi⟩=>?_) ⟨0,Nat.zero_le _⟩
  dsimp only
  have nb:=noids_bC (mkB xs m i)
  by_cases h0:i < m
  ·have y0:xcm .lss ((i:Nat):Int) ((m:Nat):Int)=true:=t_lss (by omega)
   have y1:xle (i+1) m=true:=t_le (by omega)
   have e1:xar .add .i64 (i:Int) 1=((i+1:Nat):Int):=inc_i64 h0 (by omega)
   have w0:nthD (encL nI xs) i=.int .i64 (xs.getD i 0:Nat):=nI_0 (by omega)
   have b0:=pl.b i h0
   have lb:=bC_n (mkB xs m i); have lm:=mkB_len xs m i
   have v0:nthD (encL bC (mkB xs m i)) (xs.getD i 0)=.bool ((mkB xs m i).getD (xs.getD i 0) false):=bC_0 (by omega)
   have vF:(mkB xs m i).getD (xs.getD i 0) false=false:=by
    cases hh:(mkB xs m i).getD (xs.getD i 0) false with
    | false=>rfl
    | true =>
      obtain⟨k,k1,k2⟩:=mkB_of xs m i _ hh
      have:=pl.u k i (by omega) h0 k2
      omega
   rw [vF] at v0
   have s0:=bC_set (xs:=mkB xs m i) (i:=xs.getD i 0) (by omega) true
   have nb2:=noids_bC (mkB xs m (i+1))
   rw [show(mkB xs m i).set (xs.getD i 0) true=mkB xs m (i+1) from rfl] at s0
   cases i with
   | zero =>
     generalize hp:xs.getD 0 0=p at *
     have y2:xcm .lss ((p:Nat):Int) 0=false:=f_lss (by omega)
     have y3:xcm .geq ((p:Nat):Int) ((m:Nat):Int)=false:=f_geq (by omega)
     have y4:xcm .eql ((0:Nat):Int) 0=true:=t_eql rfl
     have z2:xle (p+1) m=true:=t_le (by omega)
     rw [la_c]; simp only [la_c_b1]
     simp only [y0,y1,y2,y3,y4,z2,e1,w0,v0,s0,lo,xl,lb,lm,wd_nat,wd_nn,wd_ix,wd_mul,wd_add,wd_ln,Nat.zero_add,Nat.mul_one,wd_asI,wd_isI,wd_asB,wd_isB,decide_true,cond_true,cond_false]
     exact⟨rfl,⟨0+1,h0⟩,by dsimp only; omega,[.id 0,.id 1,.id 2],by(exact zC)⟩
   | succ i =>
     have e2:xar .sub .i64 ((i+1:Nat):Int) 1=((i:Nat):Int):=by rw [sub_i64 (by omega) (by omega)]; omega
     have w1:nthD (encL nI xs) i=.int .i64 (xs.getD i 0:Nat):=nI_0 (by omega)
     have b1:=pl.b i (by omega)
     have hch:=ch (i+1) (by omega) h0
     rw [Nat.add_sub_cancel,ltE,decide_eq_false_iff_not] at hch
     generalize hp:xs.getD (i+1) 0=p at *
     generalize hq:xs.getD i 0=q at *
     obtain⟨P,eP,p0,p1,p2,p3,p4,p5,p6,p7,p8,p9,p10,p11,p12,p13⟩:=ga b0
     obtain⟨Q,eQ,q0,q1,q2,q3,q4,q5,q6,q7,q8,q9,q10,q11,q12,q13⟩:=ga b1
     have hc:¬ cmW P.k P.s P.b P.c Q.k Q.s Q.b Q.c < 0:=by
      have e:cmC ax p q=cmW P.k P.s P.b P.c Q.k Q.s Q.b Q.c:=by
       show cmW (asI (nthD ax (p * 14+1+1+1+1))) (asI (nthD ax (p * 14+1+1+1+1+1+1+1))) (asI (nthD ax (p * 14+1+1+1+1+1+1+1+1))) (asV (nthD ax (p * 14+1+1+1+1+1+1+1+1+1+1+1))) (asI (nthD ax (q * 14+1+1+1+1))) (asI (nthD ax (q * 14+1+1+1+1+1+1+1))) (asI (nthD ax (q * 14+1+1+1+1+1+1+1+1))) (asV (nthD ax (q * 14+1+1+1+1+1+1+1+1+1+1+1)))=_
       rw [p4,p7,p8,p11,q4,q7,q8,q11]; rfl
      rw [← e]; exact hch
     obtain⟨f1,f2⟩:=cm_no hc
     have hS0:isS (.str [])=true:=rfl
     have hS1:asS (.str [])=[]:=rfl
     have y2:xcm .lss ((p:Nat):Int) 0=false:=f_lss (by omega)
     have y3:xcm .geq ((p:Nat):Int) ((m:Nat):Int)=false:=f_geq (by omega)
     have y4:xcm .eql ((i+1:Nat):Int) 0=false:=f_eql (by omega)
     have z2:xle (p+1) m=true:=t_le (by omega)
     have z3:xle (q+1) m=true:=t_le (by omega)
     have z4:xle (p * 14+14) (m * 14)=true:=t_le (by omega)
     have z5:xle (q * 14+14) (m * 14)=true:=t_le (by omega)
     have z6:xle (i+1) m=true:=t_le (by omega)
     have y5:leW P.k P.s P.b P.c Q.k Q.s Q.b Q.c=false:=f_lss (by omega)
     have y6:xcm .lss P.s Q.s=false:=f_lss (by omega)
     rw [la_c]; simp only [la_c_b1]
     simp only [y0,y1,y2,y3,y4,y5,y6,z2,z3,z4,z5,z6,e1,e2,w0,w1,v0,s0,lo,xl,la,lb,lm,hq_i,hq_b,hq_s,hq_v,wd_nat,wd_nn,wd_ix,wd_mul,wd_add,wd_ln,Nat.zero_add,Nat.mul_one,wd_asI,wd_isI,wd_asB,wd_isB,decide_true,cond_true,cond_false,p0,p1,p2,p3,p4,p5,p6,p7,p8,p9,p10,p11,p12,p13,q0,q1,q2,q3,q4,q5,q6,q7,q8,q9,q10,q11,q12,q13,wd_asV,wd_isV,hS0,hS1]
     by_cases g1:Q.s=P.s
     ·have t1:xcm .eql Q.s P.s=true:=t_eql g1
      by_cases g2:P.k=2
      ·have t2:xcm .eql P.k 2=true:=t_eql g2
       by_cases g3:0 < xvl P.c
       ·have t3:xcm .gtr ((xvl P.c:Nat):Int) 0=true:=t_gtr (by omega)
        obtain⟨g4,g5⟩:=f2 g1 g2 g3
        have t4:xcm .eql Q.k 2=true:=t_eql g4
        have t5:xcm .gtr ((xvl Q.c:Nat):Int) 0=true:=t_gtr (by omega)
        simp only [t1,t2,t3,t4,t5,wd_not_t,cond_true,cond_false]
        exact⟨rfl,⟨i+1+1,h0⟩,by dsimp only; omega,[.id 0,.id 1,.id 2],by(exact zC)⟩
       ·have t3:xcm .gtr ((xvl P.c:Nat):Int) 0=false:=f_gtr (by omega)
        simp only [t1,t2,t3,cond_true,cond_false]
        exact⟨rfl,⟨i+1+1,h0⟩,by dsimp only; omega,[.id 0,.id 1,.id 2],by(exact zC)⟩
      ·have t2:xcm .eql P.k 2=false:=f_eql g2
       simp only [t1,t2,cond_true,cond_false]
       exact⟨rfl,⟨i+1+1,h0⟩,by dsimp only; omega,[.id 0,.id 1,.id 2],by(exact zC)⟩
     ·have t1:xcm .eql Q.s P.s=false:=f_eql g1
      simp only [t1,cond_false]
      exact⟨rfl,⟨i+1+1,h0⟩,by dsimp only; omega,[.id 0,.id 1,.id 2],by(exact zC)⟩
  ·obtain rfl:i=m:=by omega
   have y0:xcm .lss ((i:Nat):Int) ((i:Nat):Int)=false:=f_lss (by omega)
   rw [la_c]; simp only [la_c_b1]
   simp only [y0,cond_false]
   exact⟨rfl,(),[.id 0,.id 1,.id 2],by(exact zC)⟩
 try dsimp only
 refine SW.last cxl2_ok (n:=60) (n0:=0) (g:=factG F) lhin (by omega) (mkS_le (Nat.zero_le _)) ?_
 rw [la_z]
 exact⟨trivial,rfl,.bool true,[],[],rfl,by(exact zC)⟩
theorem ho_sw (ds:List DrV) (F:World→Prop) (hs:∃ W,F W) (hF:∀ W,F W→fDr ds W) (hu:∀ x∈ds,∀ y∈x.cs,0≤y.2) (n:Nat) (en:ds.length=n) :
  SW prog 115 2 (lS.drop 0) (tm0 [.slo 0 0 n 0]) (mkS [.ro (encL drC ds)] (factG F)):=by
 have nd:=noids_dr ds
 by_cases h0:n=0
 ·subst h0
  have k1:okN0 (encL drC ds)=true:=nd
  have k2:xle 0 0=true:=rfl
  refine SW.to cxl0_ok (n:=60) (n0:=1) (g:=factG F) 4 4 rfl lhin (by omega) (σ:=Unit) (fun _=>lT0 0) (fun _=>[.ro (encL drC ds),.cells [] (some 14),.dead,.dead,.dead]) (mkS_le (Nat.le_of_ble_eq_true rfl)) ?_ fun _=>?_
  ·rw [la_0]
   simp only [k1,k2,cond_true]
   exact⟨rfl,(),[.id 0,.id 1,.id 2,.id 3,.id 4],by(exact zC)⟩
  try dsimp only
  refine SW.freeze0 (g':=factG (fun _=>True)) (fun W w _ _=>Gl_fact.2 trivial) ?_
  exact ho_rest [] (by simp) (encL drC ds) nd _
 ·have k1:okDr F (encL drC ds) n=true:=okDr_iff.2 ⟨ds,rfl,en.symm,by omega,hs,hF,hu⟩
  refine SW.to cxl1_ok (n:=60) (n0:=1) (g:=factG F) 4 4 rfl lhin (by omega) (σ:=Unit) (fun _=>lT0 (m20 n)) (fun _=>[.ro (encL drC ds),.obj atF [.int .i64 (.ofNat (m20 n))] 2,.dead]) (mkS_le (Nat.le_of_ble_eq_true rfl)) ?_ fun _=>?_
  ·rw [la_1]
   simp only [k1,cond_true]
   refine⟨rfl,(),[.id 0,.id 1,.id 2],⟨by kernel_rfl,by((repeat refine okTms_cons (by(first | exact lw_any | exact lw_int | exact lw_bool | exact lw_ptr rfl | exact lw_slo rfl | exact lw_nilp | exact lw_nils | exact lw_str | exact lw_slo_nils | exact lw_slo_sle | exact lw_sl rfl | exact lw_unb | exact lw_gptr | exact lw_noid rfl | exact lw_cap rfl (Nat.le_refl _) | exact lw_cap rfl (by omega) | assumption | exact lw_tup (by((repeat refine lws_cons (by(first | exact lw_any | exact lw_int | exact lw_bool | exact lw_ptr rfl | exact lw_slo rfl | exact lw_nilp | exact lw_nils | exact lw_str | exact lw_slo_nils | exact lw_slo_sle | exact lw_sl rfl | exact lw_unb | exact lw_gptr | exact lw_noid rfl | exact lw_cap rfl (Nat.le_refl _) | exact lw_cap rfl (by omega) | assumption)) ?_); exact lws_nil)))) ?_); exact okTms_nil),okBlks_cons (lb_ro nd) (okBlks_cons (lb_obj rfl) (okBlks_cons lb_dead okBlks_nil))⟩⟩
  try dsimp only
  refine SW.unpack atK_ok 1 (cs:=[.int .i64 (.ofNat (m20 n))]) (γ:=2) rfl fun⟨⟨q,ats⟩,hS,h1⟩ e=>?_
  have em:ats.length=m20 n:=by
   have e' : [LV.int .i64 (ats.length:Int)]=[.int .i64 (.ofNat (m20 n))]:=e
   injection e' with e1 _
   injection e1 with _ e2
   exact Int.ofNat.inj e2
  refine SW.freeze (o:=3) (γ:=4) (q:=q) (g':=factG q.F) rfl (fun W w _ _ h=>Gl_fact.2 h) fun hq=>?_
  have hm:ats.length≤20:=by rw [em]; unfold m20; omega
  have eF:(([LB.ro (encL drC ds),.obj atF [.int .i64 (.ofNat (m20 n))] 2,.dead].set 1 (.cells (encL atC ats) (some 14)))++[stB q 4,.dead]).map fzB=[.ro (encL drC ds),.ro (encL atC ats),.dead,.dead,.dead]:=by
   obtain⟨F',e',h'⟩:=q
   cases e' <;> rfl
  rw [← em]
  have key:=ho_rest ats hm (encL drC ds) nd q.F
  rw [← eF] at key
  exact key
theorem el_ce {H:Type} {enc:TypeId×Value→H} {W:World} (cs:List Value) (n:Nat) (x:DataW H×List MemPlace) (hl:cs.length=2) (hx:DataW.trod enc prog W 0 (fun _=>true) true n 39 cs=some x) :
  ∃ y:Int×Int,0≤y.2∧∀ (j:Nat) l,(cell y)[j]? = some l→l.plain=true∧∃ u,cs[j]? = some u∧VR noRen l u:=by
 have hf:=fl_ok 8 (l:=[(0,.int .i64),(1,.int .u64)]) (by kernel_rfl) hx
 obtain⟨_,e0,z0,rfl,_⟩:=hf (0,.int .i64) (by simp)
 obtain⟨_,e1,z1,rfl,b1⟩:=hf (1,.int .u64) (by simp)
 refine⟨(z0,z1),b1.1,fun i l hi=>?_⟩
 match i with
 | 0=>simp [cII] at hi; subst hi; exact⟨rfl,_,e0,by simp only [VR]⟩
 | 1=>simp [cII] at hi; subst hi; exact⟨rfl,_,e1,by simp only [VR]⟩
 | i+2=>simp [cII] at hi
theorem order_any {H:Type} {enc:TypeId×Value→H} {W:World} {a:Option Addr} {len cap:Nat} {d:DataW H} {ps:List MemPlace} (h:DataW.Trod enc prog W 0 (fun _=>true) true 22 (.slice a len cap) d ps) :
  Calls prog 3 #[.slice a len cap] W fun e W'=>e=.returned (.bool true)∧Below W.heap.size W W':=by
 obtain⟨ds,e1,n1,q1,r1⟩:=row_arg (f:=drC) (ok:=fun x:DrV=>(RowArg W x.r x.rs.length (encL cell x.rs)∧RowArg W x.c x.cs.length (encL cell x.cs))∧∀ y∈x.cs,0≤y.2) drC_len (by omega) Go.Proofs.Try.underlying22 (by kernel_rfl) h fun cs n x hl hx=>by
  have hf:=fsl_ok 4 (l:=[(4,31),(5,31)]) (by kernel_rfl) hx
  obtain⟨v4,y4,n4,e4,hv4⟩:=hf (4,31) (by simp)
  obtain⟨v5,y5,n5,e5,hv5⟩:=hf (5,31) (by simp)
  obtain⟨rs,_,_,j3,j4⟩:=row_in (f:=cell) (ok:=fun y:Int×Int=>0≤y.2) cell_len (by omega) Go.Proofs.Try.underlying31 (by kernel_rfl) hv4 el_ce
  obtain⟨cs',_,k2,k3,k4⟩:=row_in (f:=cell) (ok:=fun y:Int×Int=>0≤y.2) cell_len (by omega) Go.Proofs.Try.underlying31 (by kernel_rfl) hv5 el_ce
  have hg:=fl3_ok 4 (l:=[(0,.int .i64),(1,.int .i64),(2,.int .i64),(3,.int .u64)]) (by kernel_rfl) hx
  obtain⟨_,e0,z0,rfl,_⟩:=hg (0,.int .i64) (by simp)
  obtain⟨_,e1,z1,rfl,_⟩:=hg (1,.int .i64) (by simp)
  obtain⟨_,e2,z2,rfl,_⟩:=hg (2,.int .i64) (by simp)
  obtain⟨_,e3,z3,rfl,_⟩:=hg (3,.int .u64) (by simp)
  refine⟨⟨z0,z1,z2,z3,v4,v5,rs,cs'⟩,⟨⟨j3,k3⟩,k2⟩,fun i l hi=>?_⟩
  match i with
  | 0=>simp at hi; subst hi; exact⟨rfl,_,e0,by simp only [VR]⟩
  | 1=>simp at hi; subst hi; exact⟨rfl,_,e1,by simp only [VR]⟩
  | 2=>simp at hi; subst hi; exact⟨rfl,_,e2,by simp only [VR]⟩
  | 3=>simp at hi; subst hi; exact⟨rfl,_,e3,by simp only [VR]⟩
  | 4=>simp at hi; subst hi; exact⟨rfl,_,e4,lv_val j4⟩
  | 5=>simp at hi; subst hi; exact⟨rfl,_,e5,lv_val k4⟩
  | i+6=>simp at hi
 have hh:fDr ds W:=fun x hx=>(q1 x hx).1
 refine SW.law (rows:=[(.slice a len cap,len,encL drC ds)]) (g:=factG (fDr ds)) (us:=[.slice a len cap]) (args:=[.slo 0 0 len 0]) 115 2 (by kernel_rfl) ⟨r1,trivial⟩ (Gl_fact.2 hh) rfl (by omega) (fun r h=>?_) (ho_sw ds (fDr ds) ⟨W,hh⟩ (fun W h=>h) (fun x hx=>(q1 x hx).2) len e1)
 simp only [VRs]
 exact⟨_,_,rfl,h 0 _ _ _ rfl,rfl⟩
end
end Go.Lev
