/- chapter 9: the reference's levels: Get, Room, Put, Free, Open, Drop, New -/
import Derived.Test.YtopbikapcboigaaCW14
import Derived.Test.YtopbikapcboigaaCW13
import Derived.Test.YtopbikapcboigaaLc
import Derived.Test.YtopbikapcboigaaChecked
import Derived.KernelRfl
namespace Go.Lev
set_option linter.unusedSimpArgs false
set_option linter.unusedVariables false
open Go.RowKit
open Go.Proofs.Try (prog)
set_option maxRecDepth 100000
noncomputable section
theorem oget_1 (most a:Int) (x0:Lv) (h:OkLs [x0]):SSp prog 42 ((sp prog 94).drop 0) 3 (tm0 [.ptr 0 0,.int .i64 a]) (mkS (orU most [x0] [])) (vK [4,5] (endK 3 [4,5] [4,5] [] (orQ most [x0] [] (.tup [.int .u64 ((getL [x0] a).getD 0),.bool (getL [x0] a).isSome])))):=by
 have hc:=h.c; have hf:=h.f; simp only [totC] at hc; simp only [totF] at hf
 have ok0:=okC_e x0.1 (by omega); have le0:=le_e x0.1 (by omega)
 refine zE cxo1_ok ?_
 show xsp _ _ _ _ _ _ (mkS (at1 (orH1 most) x0)) _
 rw [og_1]
 simp only [ok0,plcW,decC_enc,cond_true]
 rcases fnd_cases x0.1 a with⟨i0,hi0,_,e0,g0,_⟩ | ⟨e0,g0,_⟩
 ·have l:=cell_n x0.1
  simp only [wd_nat,wd_asV,wd_isV,wd_ix,wd_add,wd_mul,wd_ln,Nat.zero_add,Nat.mul_one,wd_isI,wd_asI,wd_isB,wd_asB,wd_nn,cI_tlen,cB_tlen,cII_tlen,decide_true,cond_true,wd_not_t,wd_not_f,wd_and_t,wd_and_f,e0,cell_1 hi0,l]
  (refine zR ?_)
  rw [show getL [x0] a=some x0.1[i0].2 by simp only [getL,g0]]; exact or_end (A:=[]) h trivial own3_nil rfl rfl
 simp only [e0]
 refine zqf ?_
 rw [show getL [x0] a=none by simp only [getL,g0]]; exact or_end (A:=[]) h trivial own3_nil rfl rfl
theorem oputl_1 (most a v:Int) (x0:Lv) (hm:(totC [x0]:Int)≤most) (hm2:most≤96) (h:OkLs [x0]):SSp prog 54 ((sp prog 98).drop 0) 3 (tm0 [.ptr 0 0,.int .i64 a,.int .u64 v]) (mkS (orU most [x0] [])) (vK [6] (endK 3 [6] [6] [] (orQ most (tkC most [x0] [(a,v)]) [] (.int .i64 (tkE most [x0] [(a,v)]))))):=by
 obtain⟨hr,hrm⟩:=tkC_ok h hm hm2 [(a,v)]
 have hc:=h.c; have hf:=h.f; simp only [totC] at hc; simp only [totF] at hf
 have ok0:=okC_e x0.1 (by omega); have le0:=le_e x0.1 (by omega)
 simp only [totC] at hm
 have e0:xar .sub .i64 (most) (x0.1.length:Int)=most - x0.1.length:=sub_i64 (by omega) (by omega)
 have le9:xle x0.1.length 99999=true:=t_le (by omega)
 have eE:tkE most [x0] [(a,v)]=wPe (most - totC []) x0.1 a:=wT1e _ _ _ _
 have eC:tkC most [x0] [(a,v)]=(wPc (most - totC []) x0.1 a v,x0.2)::[]:=by simp only [tkC,inm,outs,wT1c]
 have nw:=noids_c (pl x0.1 (a,v))
 refine zE cxo1_ok ?_
 show xsp _ _ _ _ _ _ (mkS (at1 (orH1 most) x0)) _
 rw [op_1,e0]
 simp only [op_1_b2,ok0,le9,plcW,opN,opC,decC_enc,cond_true]
 by_cases c:a < 1∨256≤a
 ·have p0:wPe (most - totC []) x0.1 a=2:=if_pos c
  have q0:wPc (most - totC []) x0.1 a v=x0.1:=by rw [wPc,p0,if_neg (by omega)]
  by_cases c0:a < 1
  ·(refine zR ?_)
   rw [eE,eC,p0,q0]; exact or_end (A:=[]) h trivial own3_nil rfl rfl
  ·(refine zR ?_)
   rw [eE,eC,p0,q0]; exact or_end (A:=[]) h trivial own3_nil rfl rfl
 have tc:(totC []:Int)=0:=by simp only [totC]; omega
 rcases fnd_cases x0.1 a with⟨i,hi,e1,e2,e3,e4⟩ | ⟨e2,e3,e4⟩
 ·have p0:wPe (most - totC []) x0.1 a=0:=by rw [wPe,if_neg c,e3]; rfl
  have q0:wPc (most - totC []) x0.1 a v=pl x0.1 (a,v):=by rw [wPc,p0,if_pos rfl]
  simp only [e2]
  (refine zR ?_)
  exact⟨trivial,rfl,.int .i64 0,orH1 most (pl x0.1 (a,v)).length x0.2.length (encL cell (pl x0.1 (a,v))) (encL (cI .i64) x0.2),[.id 0,.id 1,.id 2,.id 5,.id 4],⟨by rw [eE,p0],hr,by rw [eC,q0]; rfl⟩,by(exact zC)⟩
 ·by_cases c2:most - totC []≤(x0.1.length:Int)
  ·have p0:wPe (most - totC []) x0.1 a=5:=by rw [wPe,if_neg c,e3,if_neg (by simp),if_pos c2]
   have q0:wPc (most - totC []) x0.1 a v=x0.1:=by rw [wPc,p0,if_neg (by omega)]
   simp only [e2]
   (refine zR ?_)
   rw [eE,eC,p0,q0]; exact or_end (A:=[]) h trivial own3_nil rfl rfl
  ·have p0:wPe (most - totC []) x0.1 a=0:=by rw [wPe,if_neg c,e3,if_neg (by simp),if_neg c2]
   have q0:wPc (most - totC []) x0.1 a v=pl x0.1 (a,v):=by rw [wPc,p0,if_pos rfl]
   simp only [e2]
   (refine zR ?_)
   exact⟨trivial,rfl,.int .i64 0,orH1 most (pl x0.1 (a,v)).length x0.2.length (encL cell (pl x0.1 (a,v))) (encL (cI .i64) x0.2),[.id 0,.id 1,.id 2,.id 5,.id 4],⟨by rw [eE,p0],hr,by rw [eC,q0]; rfl⟩,by(exact zC)⟩
theorem oget_2 (most a:Int) (x0 x1:Lv) (h:OkLs [x0,x1]):SSp prog 42 ((sp prog 94).drop 0) 3 (tm0 [.ptr 0 0,.int .i64 a]) (mkS (orU most [x0,x1] [])) (vK [4,5] (endK 3 [4,5] [4,5] [] (orQ most [x0,x1] [] (.tup [.int .u64 ((getL [x0,x1] a).getD 0),.bool (getL [x0,x1] a).isSome])))):=by
 have hc:=h.c; have hf:=h.f; simp only [totC] at hc; simp only [totF] at hf
 have ok0:=okC_e x0.1 (by omega); have le0:=le_e x0.1 (by omega)
 have ok1:=okC_e x1.1 (by omega); have le1:=le_e x1.1 (by omega)
 refine zE cxo1_ok ?_
 show xsp _ _ _ _ _ _ (mkS (at2 (orH2 most) x0 x1)) _
 rw [og_2]
 simp only [ok0,ok1,plcW,decC_enc,cond_true]
 rcases fnd_cases x0.1 a with⟨i0,hi0,_,e0,g0,_⟩ | ⟨e0,g0,_⟩
 ·have l:=cell_n x0.1
  simp only [wd_nat,wd_asV,wd_isV,wd_ix,wd_add,wd_mul,wd_ln,Nat.zero_add,Nat.mul_one,wd_isI,wd_asI,wd_isB,wd_asB,wd_nn,cI_tlen,cB_tlen,cII_tlen,decide_true,cond_true,wd_not_t,wd_not_f,wd_and_t,wd_and_f,e0,cell_1 hi0,l]
  (refine zR ?_)
  rw [show getL [x0,x1] a=some x0.1[i0].2 by simp only [getL,g0]]; exact or_end (A:=[]) h trivial own3_nil rfl rfl
 simp only [e0]
 refine zqf ?_
 rcases fnd_cases x1.1 a with⟨i1,hi1,_,e1,g1,_⟩ | ⟨e1,g1,_⟩
 ·have l:=cell_n x1.1
  (refine zN3 @e1 (cell_1 hi1) @l ?_)
  (refine zR ?_)
  rw [show getL [x0,x1] a=some x1.1[i1].2 by simp only [getL,g0,g1]]; exact or_end (A:=[]) h trivial own3_nil rfl rfl
 simp only [e1]
 refine zqf ?_
 rw [show getL [x0,x1] a=none by simp only [getL,g0,g1]]; exact or_end (A:=[]) h trivial own3_nil rfl rfl
theorem oputl_2 (most a v:Int) (x0 x1:Lv) (hm:(totC [x0,x1]:Int)≤most) (hm2:most≤96) (h:OkLs [x0,x1]):SSp prog 54 ((sp prog 98).drop 0) 3 (tm0 [.ptr 0 0,.int .i64 a,.int .u64 v]) (mkS (orU most [x0,x1] [])) (vK [6] (endK 3 [6] [6] [] (orQ most (tkC most [x0,x1] [(a,v)]) [] (.int .i64 (tkE most [x0,x1] [(a,v)]))))):=by
 obtain⟨hr,hrm⟩:=tkC_ok h hm hm2 [(a,v)]
 have hc:=h.c; have hf:=h.f; simp only [totC] at hc; simp only [totF] at hf
 have ok0:=okC_e x0.1 (by omega); have le0:=le_e x0.1 (by omega)
 simp only [totC] at hm
 have e1:xar .sub .i64 (most) (x1.1.length:Int)=most - x1.1.length:=sub_i64 (by omega) (by omega)
 have e0:xar .sub .i64 (most - x1.1.length) (x0.1.length:Int)=most - x1.1.length - x0.1.length:=sub_i64 (by omega) (by omega)
 have le9:xle x0.1.length 99999=true:=t_le (by omega)
 have eE:tkE most [x0,x1] [(a,v)]=wPe (most - totC [x1]) x0.1 a:=wT1e _ _ _ _
 have eC:tkC most [x0,x1] [(a,v)]=(wPc (most - totC [x1]) x0.1 a v,x0.2)::[x1]:=by simp only [tkC,inm,outs,wT1c]
 have nw:=noids_c (pl x0.1 (a,v))
 refine zE cxo1_ok ?_
 show xsp _ _ _ _ _ _ (mkS (at2 (orH2 most) x0 x1)) _
 rw [op_2,e1,e0]
 simp only [op_2_b2,ok0,le9,plcW,opN,opC,decC_enc,cond_true]
 by_cases c:a < 1∨256≤a
 ·have p0:wPe (most - totC [x1]) x0.1 a=2:=if_pos c
  have q0:wPc (most - totC [x1]) x0.1 a v=x0.1:=by rw [wPc,p0,if_neg (by omega)]
  by_cases c0:a < 1
  ·(refine zR ?_)
   rw [eE,eC,p0,q0]; exact or_end (A:=[]) h trivial own3_nil rfl rfl
  ·(refine zR ?_)
   rw [eE,eC,p0,q0]; exact or_end (A:=[]) h trivial own3_nil rfl rfl
 have tc:(totC [x1]:Int)=x1.1.length:=by simp only [totC]; omega
 rcases fnd_cases x0.1 a with⟨i,hi,e1,e2,e3,e4⟩ | ⟨e2,e3,e4⟩
 ·have p0:wPe (most - totC [x1]) x0.1 a=0:=by rw [wPe,if_neg c,e3]; rfl
  have q0:wPc (most - totC [x1]) x0.1 a v=pl x0.1 (a,v):=by rw [wPc,p0,if_pos rfl]
  simp only [e2]
  (refine zR ?_)
  exact⟨trivial,rfl,.int .i64 0,orH2 most (pl x0.1 (a,v)).length x0.2.length x1.1.length x1.2.length (encL cell (pl x0.1 (a,v))) (encL (cI .i64) x0.2) (encL cell x1.1) (encL (cI .i64) x1.2),[.id 0,.id 1,.id 2,.id 7,.id 4,.id 5,.id 6],⟨by rw [eE,p0],hr,by rw [eC,q0]; rfl⟩,by(exact zC)⟩
 ·by_cases c2:most - totC [x1]≤(x0.1.length:Int)
  ·have p0:wPe (most - totC [x1]) x0.1 a=5:=by rw [wPe,if_neg c,e3,if_neg (by simp),if_pos c2]
   have q0:wPc (most - totC [x1]) x0.1 a v=x0.1:=by rw [wPc,p0,if_neg (by omega)]
   simp only [e2]
   (refine zR ?_)
   rw [eE,eC,p0,q0]; exact or_end (A:=[]) h trivial own3_nil rfl rfl
  ·have p0:wPe (most - totC [x1]) x0.1 a=0:=by rw [wPe,if_neg c,e3,if_neg (by simp),if_neg c2]
   have q0:wPc (most - totC [x1]) x0.1 a v=pl x0.1 (a,v):=by rw [wPc,p0,if_pos rfl]
   simp only [e2]
   (refine zR ?_)
   exact⟨trivial,rfl,.int .i64 0,orH2 most (pl x0.1 (a,v)).length x0.2.length x1.1.length x1.2.length (encL cell (pl x0.1 (a,v))) (encL (cI .i64) x0.2) (encL cell x1.1) (encL (cI .i64) x1.2),[.id 0,.id 1,.id 2,.id 7,.id 4,.id 5,.id 6],⟨by rw [eE,p0],hr,by rw [eC,q0]; rfl⟩,by(exact zC)⟩
theorem oget_3 (most a:Int) (x0 x1 x2:Lv) (h:OkLs [x0,x1,x2]):SSp prog 42 ((sp prog 94).drop 0) 3 (tm0 [.ptr 0 0,.int .i64 a]) (mkS (orU most [x0,x1,x2] [])) (vK [4,5] (endK 3 [4,5] [4,5] [] (orQ most [x0,x1,x2] [] (.tup [.int .u64 ((getL [x0,x1,x2] a).getD 0),.bool (getL [x0,x1,x2] a).isSome])))):=by
 have hc:=h.c; have hf:=h.f; simp only [totC] at hc; simp only [totF] at hf
 have ok0:=okC_e x0.1 (by omega); have le0:=le_e x0.1 (by omega)
 have ok1:=okC_e x1.1 (by omega); have le1:=le_e x1.1 (by omega)
 have ok2:=okC_e x2.1 (by omega); have le2:=le_e x2.1 (by omega)
 refine zE cxo1_ok ?_
 show xsp _ _ _ _ _ _ (mkS (at3 (orH3 most) x0 x1 x2)) _
 rw [og_3]
 simp only [ok0,ok1,ok2,plcW,decC_enc,cond_true]
 rcases fnd_cases x0.1 a with⟨i0,hi0,_,e0,g0,_⟩ | ⟨e0,g0,_⟩
 ·have l:=cell_n x0.1
  simp only [wd_nat,wd_asV,wd_isV,wd_ix,wd_add,wd_mul,wd_ln,Nat.zero_add,Nat.mul_one,wd_isI,wd_asI,wd_isB,wd_asB,wd_nn,cI_tlen,cB_tlen,cII_tlen,decide_true,cond_true,wd_not_t,wd_not_f,wd_and_t,wd_and_f,e0,cell_1 hi0,l]
  (refine zR ?_)
  rw [show getL [x0,x1,x2] a=some x0.1[i0].2 by simp only [getL,g0]]; exact or_end (A:=[]) h trivial own3_nil rfl rfl
 simp only [e0]
 refine zqf ?_
 rcases fnd_cases x1.1 a with⟨i1,hi1,_,e1,g1,_⟩ | ⟨e1,g1,_⟩
 ·have l:=cell_n x1.1
  (refine zN3 @e1 (cell_1 hi1) @l ?_)
  (refine zR ?_)
  rw [show getL [x0,x1,x2] a=some x1.1[i1].2 by simp only [getL,g0,g1]]; exact or_end (A:=[]) h trivial own3_nil rfl rfl
 simp only [e1]
 refine zqf ?_
 rcases fnd_cases x2.1 a with⟨i2,hi2,_,e2,g2,_⟩ | ⟨e2,g2,_⟩
 ·have l:=cell_n x2.1
  (refine zN3 @e2 (cell_1 hi2) @l ?_)
  (refine zR ?_)
  rw [show getL [x0,x1,x2] a=some x2.1[i2].2 by simp only [getL,g0,g1,g2]]; exact or_end (A:=[]) h trivial own3_nil rfl rfl
 simp only [e2]
 refine zqf ?_
 rw [show getL [x0,x1,x2] a=none by simp only [getL,g0,g1,g2]]; exact or_end (A:=[]) h trivial own3_nil rfl rfl
theorem oputl_3 (most a v:Int) (x0 x1 x2:Lv) (hm:(totC [x0,x1,x2]:Int)≤most) (hm2:most≤96) (h:OkLs [x0,x1,x2]):SSp prog 54 ((sp prog 98).drop 0) 3 (tm0 [.ptr 0 0,.int .i64 a,.int .u64 v]) (mkS (orU most [x0,x1,x2] [])) (vK [6] (endK 3 [6] [6] [] (orQ most (tkC most [x0,x1,x2] [(a,v)]) [] (.int .i64 (tkE most [x0,x1,x2] [(a,v)]))))):=by
 obtain⟨hr,hrm⟩:=tkC_ok h hm hm2 [(a,v)]
 have hc:=h.c; have hf:=h.f; simp only [totC] at hc; simp only [totF] at hf
 have ok0:=okC_e x0.1 (by omega); have le0:=le_e x0.1 (by omega)
 simp only [totC] at hm
 have e2:xar .sub .i64 (most) (x2.1.length:Int)=most - x2.1.length:=sub_i64 (by omega) (by omega)
 have e1:xar .sub .i64 (most - x2.1.length) (x1.1.length:Int)=most - x2.1.length - x1.1.length:=sub_i64 (by omega) (by omega)
 have e0:xar .sub .i64 (most - x2.1.length - x1.1.length) (x0.1.length:Int)=most - x2.1.length - x1.1.length - x0.1.length:=sub_i64 (by omega) (by omega)
 have le9:xle x0.1.length 99999=true:=t_le (by omega)
 have eE:tkE most [x0,x1,x2] [(a,v)]=wPe (most - totC [x1,x2]) x0.1 a:=wT1e _ _ _ _
 have eC:tkC most [x0,x1,x2] [(a,v)]=(wPc (most - totC [x1,x2]) x0.1 a v,x0.2)::[x1,x2]:=by simp only [tkC,inm,outs,wT1c]
 have nw:=noids_c (pl x0.1 (a,v))
 refine zE cxo1_ok ?_
 show xsp _ _ _ _ _ _ (mkS (at3 (orH3 most) x0 x1 x2)) _
 rw [op_3,e2,e1,e0]
 simp only [op_3_b2,ok0,le9,plcW,opN,opC,decC_enc,cond_true]
 by_cases c:a < 1∨256≤a
 ·have p0:wPe (most - totC [x1,x2]) x0.1 a=2:=if_pos c
  have q0:wPc (most - totC [x1,x2]) x0.1 a v=x0.1:=by rw [wPc,p0,if_neg (by omega)]
  by_cases c0:a < 1
  ·(refine zR ?_)
   rw [eE,eC,p0,q0]; exact or_end (A:=[]) h trivial own3_nil rfl rfl
  ·(refine zR ?_)
   rw [eE,eC,p0,q0]; exact or_end (A:=[]) h trivial own3_nil rfl rfl
 have tc:(totC [x1,x2]:Int)=x1.1.length+x2.1.length:=by simp only [totC]; omega
 rcases fnd_cases x0.1 a with⟨i,hi,e1,e2,e3,e4⟩ | ⟨e2,e3,e4⟩
 ·have p0:wPe (most - totC [x1,x2]) x0.1 a=0:=by rw [wPe,if_neg c,e3]; rfl
  have q0:wPc (most - totC [x1,x2]) x0.1 a v=pl x0.1 (a,v):=by rw [wPc,p0,if_pos rfl]
  simp only [e2]
  (refine zR ?_)
  exact⟨trivial,rfl,.int .i64 0,orH3 most (pl x0.1 (a,v)).length x0.2.length x1.1.length x1.2.length x2.1.length x2.2.length (encL cell (pl x0.1 (a,v))) (encL (cI .i64) x0.2) (encL cell x1.1) (encL (cI .i64) x1.2) (encL cell x2.1) (encL (cI .i64) x2.2),[.id 0,.id 1,.id 2,.id 9,.id 4,.id 5,.id 6,.id 7,.id 8],⟨by rw [eE,p0],hr,by rw [eC,q0]; rfl⟩,by(exact zC)⟩
 ·by_cases c2:most - totC [x1,x2]≤(x0.1.length:Int)
  ·have p0:wPe (most - totC [x1,x2]) x0.1 a=5:=by rw [wPe,if_neg c,e3,if_neg (by simp),if_pos c2]
   have q0:wPc (most - totC [x1,x2]) x0.1 a v=x0.1:=by rw [wPc,p0,if_neg (by omega)]
   simp only [e2]
   (refine zR ?_)
   rw [eE,eC,p0,q0]; exact or_end (A:=[]) h trivial own3_nil rfl rfl
  ·have p0:wPe (most - totC [x1,x2]) x0.1 a=0:=by rw [wPe,if_neg c,e3,if_neg (by simp),if_neg c2]
   have q0:wPc (most - totC [x1,x2]) x0.1 a v=pl x0.1 (a,v):=by rw [wPc,p0,if_pos rfl]
   simp only [e2]
   (refine zR ?_)
   exact⟨trivial,rfl,.int .i64 0,orH3 most (pl x0.1 (a,v)).length x0.2.length x1.1.length x1.2.length x2.1.length x2.2.length (encL cell (pl x0.1 (a,v))) (encL (cI .i64) x0.2) (encL cell x1.1) (encL (cI .i64) x1.2) (encL cell x2.1) (encL (cI .i64) x2.2),[.id 0,.id 1,.id 2,.id 9,.id 4,.id 5,.id 6,.id 7,.id 8],⟨by rw [eE,p0],hr,by rw [eC,q0]; rfl⟩,by(exact zC)⟩
theorem oget_4 (most a:Int) (x0 x1 x2 x3:Lv) (h:OkLs [x0,x1,x2,x3]):SSp prog 42 ((sp prog 94).drop 0) 3 (tm0 [.ptr 0 0,.int .i64 a]) (mkS (orU most [x0,x1,x2,x3] [])) (vK [4,5] (endK 3 [4,5] [4,5] [] (orQ most [x0,x1,x2,x3] [] (.tup [.int .u64 ((getL [x0,x1,x2,x3] a).getD 0),.bool (getL [x0,x1,x2,x3] a).isSome])))):=by
 have hc:=h.c; have hf:=h.f; simp only [totC] at hc; simp only [totF] at hf
 have ok0:=okC_e x0.1 (by omega); have le0:=le_e x0.1 (by omega)
 have ok1:=okC_e x1.1 (by omega); have le1:=le_e x1.1 (by omega)
 have ok2:=okC_e x2.1 (by omega); have le2:=le_e x2.1 (by omega)
 have ok3:=okC_e x3.1 (by omega); have le3:=le_e x3.1 (by omega)
 refine zE cxo1_ok ?_
 show xsp _ _ _ _ _ _ (mkS (at4 (orH4 most) x0 x1 x2 x3)) _
 rw [og_4]
 simp only [ok0,ok1,ok2,ok3,plcW,decC_enc,cond_true]
 rcases fnd_cases x0.1 a with⟨i0,hi0,_,e0,g0,_⟩ | ⟨e0,g0,_⟩
 ·have l:=cell_n x0.1
  simp only [wd_nat,wd_asV,wd_isV,wd_ix,wd_add,wd_mul,wd_ln,Nat.zero_add,Nat.mul_one,wd_isI,wd_asI,wd_isB,wd_asB,wd_nn,cI_tlen,cB_tlen,cII_tlen,decide_true,cond_true,wd_not_t,wd_not_f,wd_and_t,wd_and_f,e0,cell_1 hi0,l]
  (refine zR ?_)
  rw [show getL [x0,x1,x2,x3] a=some x0.1[i0].2 by simp only [getL,g0]]; exact or_end (A:=[]) h trivial own3_nil rfl rfl
 simp only [e0]
 refine zqf ?_
 rcases fnd_cases x1.1 a with⟨i1,hi1,_,e1,g1,_⟩ | ⟨e1,g1,_⟩
 ·have l:=cell_n x1.1
  (refine zN3 @e1 (cell_1 hi1) @l ?_)
  (refine zR ?_)
  rw [show getL [x0,x1,x2,x3] a=some x1.1[i1].2 by simp only [getL,g0,g1]]; exact or_end (A:=[]) h trivial own3_nil rfl rfl
 simp only [e1]
 refine zqf ?_
 rcases fnd_cases x2.1 a with⟨i2,hi2,_,e2,g2,_⟩ | ⟨e2,g2,_⟩
 ·have l:=cell_n x2.1
  (refine zN3 @e2 (cell_1 hi2) @l ?_)
  (refine zR ?_)
  rw [show getL [x0,x1,x2,x3] a=some x2.1[i2].2 by simp only [getL,g0,g1,g2]]; exact or_end (A:=[]) h trivial own3_nil rfl rfl
 simp only [e2]
 refine zqf ?_
 rcases fnd_cases x3.1 a with⟨i3,hi3,_,e3,g3,_⟩ | ⟨e3,g3,_⟩
 ·have l:=cell_n x3.1
  (refine zN3 @e3 (cell_1 hi3) @l ?_)
  (refine zR ?_)
  rw [show getL [x0,x1,x2,x3] a=some x3.1[i3].2 by simp only [getL,g0,g1,g2,g3]]; exact or_end (A:=[]) h trivial own3_nil rfl rfl
 simp only [e3]
 refine zqf ?_
 rw [show getL [x0,x1,x2,x3] a=none by simp only [getL,g0,g1,g2,g3]]; exact or_end (A:=[]) h trivial own3_nil rfl rfl
theorem oputl_4 (most a v:Int) (x0 x1 x2 x3:Lv) (hm:(totC [x0,x1,x2,x3]:Int)≤most) (hm2:most≤96) (h:OkLs [x0,x1,x2,x3]):SSp prog 54 ((sp prog 98).drop 0) 3 (tm0 [.ptr 0 0,.int .i64 a,.int .u64 v]) (mkS (orU most [x0,x1,x2,x3] [])) (vK [6] (endK 3 [6] [6] [] (orQ most (tkC most [x0,x1,x2,x3] [(a,v)]) [] (.int .i64 (tkE most [x0,x1,x2,x3] [(a,v)]))))):=by
 obtain⟨hr,hrm⟩:=tkC_ok h hm hm2 [(a,v)]
 have hc:=h.c; have hf:=h.f; simp only [totC] at hc; simp only [totF] at hf
 have ok0:=okC_e x0.1 (by omega); have le0:=le_e x0.1 (by omega)
 simp only [totC] at hm
 have e3:xar .sub .i64 (most) (x3.1.length:Int)=most - x3.1.length:=sub_i64 (by omega) (by omega)
 have e2:xar .sub .i64 (most - x3.1.length) (x2.1.length:Int)=most - x3.1.length - x2.1.length:=sub_i64 (by omega) (by omega)
 have e1:xar .sub .i64 (most - x3.1.length - x2.1.length) (x1.1.length:Int)=most - x3.1.length - x2.1.length - x1.1.length:=sub_i64 (by omega) (by omega)
 have e0:xar .sub .i64 (most - x3.1.length - x2.1.length - x1.1.length) (x0.1.length:Int)=most - x3.1.length - x2.1.length - x1.1.length - x0.1.length:=sub_i64 (by omega) (by omega)
 have le9:xle x0.1.length 99999=true:=t_le (by omega)
 have eE:tkE most [x0,x1,x2,x3] [(a,v)]=wPe (most - totC [x1,x2,x3]) x0.1 a:=wT1e _ _ _ _
 have eC:tkC most [x0,x1,x2,x3] [(a,v)]=(wPc (most - totC [x1,x2,x3]) x0.1 a v,x0.2)::[x1,x2,x3]:=by simp only [tkC,inm,outs,wT1c]
 have nw:=noids_c (pl x0.1 (a,v))
 refine zE cxo1_ok ?_
 show xsp _ _ _ _ _ _ (mkS (at4 (orH4 most) x0 x1 x2 x3)) _
 rw [op_4,e3,e2,e1,e0]
 simp only [op_4_b2,ok0,le9,plcW,opN,opC,decC_enc,cond_true]
 by_cases c:a < 1∨256≤a
 ·have p0:wPe (most - totC [x1,x2,x3]) x0.1 a=2:=if_pos c
  have q0:wPc (most - totC [x1,x2,x3]) x0.1 a v=x0.1:=by rw [wPc,p0,if_neg (by omega)]
  by_cases c0:a < 1
  ·(refine zR ?_)
   rw [eE,eC,p0,q0]; exact or_end (A:=[]) h trivial own3_nil rfl rfl
  ·(refine zR ?_)
   rw [eE,eC,p0,q0]; exact or_end (A:=[]) h trivial own3_nil rfl rfl
 have tc:(totC [x1,x2,x3]:Int)=x1.1.length+x2.1.length+x3.1.length:=by simp only [totC]; omega
 rcases fnd_cases x0.1 a with⟨i,hi,e1,e2,e3,e4⟩ | ⟨e2,e3,e4⟩
 ·have p0:wPe (most - totC [x1,x2,x3]) x0.1 a=0:=by rw [wPe,if_neg c,e3]; rfl
  have q0:wPc (most - totC [x1,x2,x3]) x0.1 a v=pl x0.1 (a,v):=by rw [wPc,p0,if_pos rfl]
  simp only [e2]
  (refine zR ?_)
  exact⟨trivial,rfl,.int .i64 0,orH4 most (pl x0.1 (a,v)).length x0.2.length x1.1.length x1.2.length x2.1.length x2.2.length x3.1.length x3.2.length (encL cell (pl x0.1 (a,v))) (encL (cI .i64) x0.2) (encL cell x1.1) (encL (cI .i64) x1.2) (encL cell x2.1) (encL (cI .i64) x2.2) (encL cell x3.1) (encL (cI .i64) x3.2),[.id 0,.id 1,.id 2,.id 11,.id 4,.id 5,.id 6,.id 7,.id 8,.id 9,.id 10],⟨by rw [eE,p0],hr,by rw [eC,q0]; rfl⟩,by(exact zC)⟩
 ·by_cases c2:most - totC [x1,x2,x3]≤(x0.1.length:Int)
  ·have p0:wPe (most - totC [x1,x2,x3]) x0.1 a=5:=by rw [wPe,if_neg c,e3,if_neg (by simp),if_pos c2]
   have q0:wPc (most - totC [x1,x2,x3]) x0.1 a v=x0.1:=by rw [wPc,p0,if_neg (by omega)]
   simp only [e2]
   (refine zR ?_)
   rw [eE,eC,p0,q0]; exact or_end (A:=[]) h trivial own3_nil rfl rfl
  ·have p0:wPe (most - totC [x1,x2,x3]) x0.1 a=0:=by rw [wPe,if_neg c,e3,if_neg (by simp),if_neg c2]
   have q0:wPc (most - totC [x1,x2,x3]) x0.1 a v=pl x0.1 (a,v):=by rw [wPc,p0,if_pos rfl]
   simp only [e2]
   (refine zR ?_)
   exact⟨trivial,rfl,.int .i64 0,orH4 most (pl x0.1 (a,v)).length x0.2.length x1.1.length x1.2.length x2.1.length x2.2.length x3.1.length x3.2.length (encL cell (pl x0.1 (a,v))) (encL (cI .i64) x0.2) (encL cell x1.1) (encL (cI .i64) x1.2) (encL cell x2.1) (encL (cI .i64) x2.2) (encL cell x3.1) (encL (cI .i64) x3.2),[.id 0,.id 1,.id 2,.id 11,.id 4,.id 5,.id 6,.id 7,.id 8,.id 9,.id 10],⟨by rw [eE,p0],hr,by rw [eC,q0]; rfl⟩,by(exact zC)⟩
theorem oget_5 (most a:Int) (x0 x1 x2 x3 x4:Lv) (h:OkLs [x0,x1,x2,x3,x4]):SSp prog 42 ((sp prog 94).drop 0) 3 (tm0 [.ptr 0 0,.int .i64 a]) (mkS (orU most [x0,x1,x2,x3,x4] [])) (vK [4,5] (endK 3 [4,5] [4,5] [] (orQ most [x0,x1,x2,x3,x4] [] (.tup [.int .u64 ((getL [x0,x1,x2,x3,x4] a).getD 0),.bool (getL [x0,x1,x2,x3,x4] a).isSome])))):=by
 have hc:=h.c; have hf:=h.f; simp only [totC] at hc; simp only [totF] at hf
 have ok0:=okC_e x0.1 (by omega); have le0:=le_e x0.1 (by omega)
 have ok1:=okC_e x1.1 (by omega); have le1:=le_e x1.1 (by omega)
 have ok2:=okC_e x2.1 (by omega); have le2:=le_e x2.1 (by omega)
 have ok3:=okC_e x3.1 (by omega); have le3:=le_e x3.1 (by omega)
 have ok4:=okC_e x4.1 (by omega); have le4:=le_e x4.1 (by omega)
 refine zE cxo1_ok ?_
 show xsp _ _ _ _ _ _ (mkS (at5 (orH5 most) x0 x1 x2 x3 x4)) _
 rw [og_5]
 simp only [ok0,ok1,ok2,ok3,ok4,plcW,decC_enc,cond_true]
 rcases fnd_cases x0.1 a with⟨i0,hi0,_,e0,g0,_⟩ | ⟨e0,g0,_⟩
 ·have l:=cell_n x0.1
  simp only [wd_nat,wd_asV,wd_isV,wd_ix,wd_add,wd_mul,wd_ln,Nat.zero_add,Nat.mul_one,wd_isI,wd_asI,wd_isB,wd_asB,wd_nn,cI_tlen,cB_tlen,cII_tlen,decide_true,cond_true,wd_not_t,wd_not_f,wd_and_t,wd_and_f,e0,cell_1 hi0,l]
  (refine zR ?_)
  rw [show getL [x0,x1,x2,x3,x4] a=some x0.1[i0].2 by simp only [getL,g0]]; exact or_end (A:=[]) h trivial own3_nil rfl rfl
 simp only [e0]
 refine zqf ?_
 rcases fnd_cases x1.1 a with⟨i1,hi1,_,e1,g1,_⟩ | ⟨e1,g1,_⟩
 ·have l:=cell_n x1.1
  (refine zN3 @e1 (cell_1 hi1) @l ?_)
  (refine zR ?_)
  rw [show getL [x0,x1,x2,x3,x4] a=some x1.1[i1].2 by simp only [getL,g0,g1]]; exact or_end (A:=[]) h trivial own3_nil rfl rfl
 simp only [e1]
 refine zqf ?_
 rcases fnd_cases x2.1 a with⟨i2,hi2,_,e2,g2,_⟩ | ⟨e2,g2,_⟩
 ·have l:=cell_n x2.1
  (refine zN3 @e2 (cell_1 hi2) @l ?_)
  (refine zR ?_)
  rw [show getL [x0,x1,x2,x3,x4] a=some x2.1[i2].2 by simp only [getL,g0,g1,g2]]; exact or_end (A:=[]) h trivial own3_nil rfl rfl
 simp only [e2]
 refine zqf ?_
 rcases fnd_cases x3.1 a with⟨i3,hi3,_,e3,g3,_⟩ | ⟨e3,g3,_⟩
 ·have l:=cell_n x3.1
  (refine zN3 @e3 (cell_1 hi3) @l ?_)
  (refine zR ?_)
  rw [show getL [x0,x1,x2,x3,x4] a=some x3.1[i3].2 by simp only [getL,g0,g1,g2,g3]]; exact or_end (A:=[]) h trivial own3_nil rfl rfl
 simp only [e3]
 refine zqf ?_
 rcases fnd_cases x4.1 a with⟨i4,hi4,_,e4,g4,_⟩ | ⟨e4,g4,_⟩
 ·have l:=cell_n x4.1
  (refine zN3 @e4 (cell_1 hi4) @l ?_)
  (refine zR ?_)
  rw [show getL [x0,x1,x2,x3,x4] a=some x4.1[i4].2 by simp only [getL,g0,g1,g2,g3,g4]]; exact or_end (A:=[]) h trivial own3_nil rfl rfl
 simp only [e4]
 refine zqf ?_
 rw [show getL [x0,x1,x2,x3,x4] a=none by simp only [getL,g0,g1,g2,g3,g4]]; exact or_end (A:=[]) h trivial own3_nil rfl rfl
theorem oputl_5 (most a v:Int) (x0 x1 x2 x3 x4:Lv) (hm:(totC [x0,x1,x2,x3,x4]:Int)≤most) (hm2:most≤96) (h:OkLs [x0,x1,x2,x3,x4]):SSp prog 54 ((sp prog 98).drop 0) 3 (tm0 [.ptr 0 0,.int .i64 a,.int .u64 v]) (mkS (orU most [x0,x1,x2,x3,x4] [])) (vK [6] (endK 3 [6] [6] [] (orQ most (tkC most [x0,x1,x2,x3,x4] [(a,v)]) [] (.int .i64 (tkE most [x0,x1,x2,x3,x4] [(a,v)]))))):=by
 obtain⟨hr,hrm⟩:=tkC_ok h hm hm2 [(a,v)]
 have hc:=h.c; have hf:=h.f; simp only [totC] at hc; simp only [totF] at hf
 have ok0:=okC_e x0.1 (by omega); have le0:=le_e x0.1 (by omega)
 simp only [totC] at hm
 have e4:xar .sub .i64 (most) (x4.1.length:Int)=most - x4.1.length:=sub_i64 (by omega) (by omega)
 have e3:xar .sub .i64 (most - x4.1.length) (x3.1.length:Int)=most - x4.1.length - x3.1.length:=sub_i64 (by omega) (by omega)
 have e2:xar .sub .i64 (most - x4.1.length - x3.1.length) (x2.1.length:Int)=most - x4.1.length - x3.1.length - x2.1.length:=sub_i64 (by omega) (by omega)
 have e1:xar .sub .i64 (most - x4.1.length - x3.1.length - x2.1.length) (x1.1.length:Int)=most - x4.1.length - x3.1.length - x2.1.length - x1.1.length:=sub_i64 (by omega) (by omega)
 have e0:xar .sub .i64 (most - x4.1.length - x3.1.length - x2.1.length - x1.1.length) (x0.1.length:Int)=most - x4.1.length - x3.1.length - x2.1.length - x1.1.length - x0.1.length:=sub_i64 (by omega) (by omega)
 have le9:xle x0.1.length 99999=true:=t_le (by omega)
 have eE:tkE most [x0,x1,x2,x3,x4] [(a,v)]=wPe (most - totC [x1,x2,x3,x4]) x0.1 a:=wT1e _ _ _ _
 have eC:tkC most [x0,x1,x2,x3,x4] [(a,v)]=(wPc (most - totC [x1,x2,x3,x4]) x0.1 a v,x0.2)::[x1,x2,x3,x4]:=by simp only [tkC,inm,outs,wT1c]
 have nw:=noids_c (pl x0.1 (a,v))
 refine zE cxo1_ok ?_
 show xsp _ _ _ _ _ _ (mkS (at5 (orH5 most) x0 x1 x2 x3 x4)) _
 rw [op_5,e4,e3,e2,e1,e0]
 simp only [op_5_b2,ok0,le9,plcW,opN,opC,decC_enc,cond_true]
 by_cases c:a < 1∨256≤a
 ·have p0:wPe (most - totC [x1,x2,x3,x4]) x0.1 a=2:=if_pos c
  have q0:wPc (most - totC [x1,x2,x3,x4]) x0.1 a v=x0.1:=by rw [wPc,p0,if_neg (by omega)]
  by_cases c0:a < 1
  ·(refine zR ?_)
   rw [eE,eC,p0,q0]; exact or_end (A:=[]) h trivial own3_nil rfl rfl
  ·(refine zR ?_)
   rw [eE,eC,p0,q0]; exact or_end (A:=[]) h trivial own3_nil rfl rfl
 have tc:(totC [x1,x2,x3,x4]:Int)=x1.1.length+x2.1.length+x3.1.length+x4.1.length:=by simp only [totC]; omega
 rcases fnd_cases x0.1 a with⟨i,hi,e1,e2,e3,e4⟩ | ⟨e2,e3,e4⟩
 ·have p0:wPe (most - totC [x1,x2,x3,x4]) x0.1 a=0:=by rw [wPe,if_neg c,e3]; rfl
  have q0:wPc (most - totC [x1,x2,x3,x4]) x0.1 a v=pl x0.1 (a,v):=by rw [wPc,p0,if_pos rfl]
  simp only [e2]
  (refine zR ?_)
  exact⟨trivial,rfl,.int .i64 0,orH5 most (pl x0.1 (a,v)).length x0.2.length x1.1.length x1.2.length x2.1.length x2.2.length x3.1.length x3.2.length x4.1.length x4.2.length (encL cell (pl x0.1 (a,v))) (encL (cI .i64) x0.2) (encL cell x1.1) (encL (cI .i64) x1.2) (encL cell x2.1) (encL (cI .i64) x2.2) (encL cell x3.1) (encL (cI .i64) x3.2) (encL cell x4.1) (encL (cI .i64) x4.2),[.id 0,.id 1,.id 2,.id 13,.id 4,.id 5,.id 6,.id 7,.id 8,.id 9,.id 10,.id 11,.id 12],⟨by rw [eE,p0],hr,by rw [eC,q0]; rfl⟩,by(exact zC)⟩
 ·by_cases c2:most - totC [x1,x2,x3,x4]≤(x0.1.length:Int)
  ·have p0:wPe (most - totC [x1,x2,x3,x4]) x0.1 a=5:=by rw [wPe,if_neg c,e3,if_neg (by simp),if_pos c2]
   have q0:wPc (most - totC [x1,x2,x3,x4]) x0.1 a v=x0.1:=by rw [wPc,p0,if_neg (by omega)]
   simp only [e2]
   (refine zR ?_)
   rw [eE,eC,p0,q0]; exact or_end (A:=[]) h trivial own3_nil rfl rfl
  ·have p0:wPe (most - totC [x1,x2,x3,x4]) x0.1 a=0:=by rw [wPe,if_neg c,e3,if_neg (by simp),if_neg c2]
   have q0:wPc (most - totC [x1,x2,x3,x4]) x0.1 a v=pl x0.1 (a,v):=by rw [wPc,p0,if_pos rfl]
   simp only [e2]
   (refine zR ?_)
   exact⟨trivial,rfl,.int .i64 0,orH5 most (pl x0.1 (a,v)).length x0.2.length x1.1.length x1.2.length x2.1.length x2.2.length x3.1.length x3.2.length x4.1.length x4.2.length (encL cell (pl x0.1 (a,v))) (encL (cI .i64) x0.2) (encL cell x1.1) (encL (cI .i64) x1.2) (encL cell x2.1) (encL (cI .i64) x2.2) (encL cell x3.1) (encL (cI .i64) x3.2) (encL cell x4.1) (encL (cI .i64) x4.2),[.id 0,.id 1,.id 2,.id 13,.id 4,.id 5,.id 6,.id 7,.id 8,.id 9,.id 10,.id 11,.id 12],⟨by rw [eE,p0],hr,by rw [eC,q0]; rfl⟩,by(exact zC)⟩
theorem oget_6 (most a:Int) (x0 x1 x2 x3 x4 x5:Lv) (h:OkLs [x0,x1,x2,x3,x4,x5]):SSp prog 42 ((sp prog 94).drop 0) 3 (tm0 [.ptr 0 0,.int .i64 a]) (mkS (orU most [x0,x1,x2,x3,x4,x5] [])) (vK [4,5] (endK 3 [4,5] [4,5] [] (orQ most [x0,x1,x2,x3,x4,x5] [] (.tup [.int .u64 ((getL [x0,x1,x2,x3,x4,x5] a).getD 0),.bool (getL [x0,x1,x2,x3,x4,x5] a).isSome])))):=by
 have hc:=h.c; have hf:=h.f; simp only [totC] at hc; simp only [totF] at hf
 have ok0:=okC_e x0.1 (by omega); have le0:=le_e x0.1 (by omega)
 have ok1:=okC_e x1.1 (by omega); have le1:=le_e x1.1 (by omega)
 have ok2:=okC_e x2.1 (by omega); have le2:=le_e x2.1 (by omega)
 have ok3:=okC_e x3.1 (by omega); have le3:=le_e x3.1 (by omega)
 have ok4:=okC_e x4.1 (by omega); have le4:=le_e x4.1 (by omega)
 have ok5:=okC_e x5.1 (by omega); have le5:=le_e x5.1 (by omega)
 refine zE cxo1_ok ?_
 show xsp _ _ _ _ _ _ (mkS (at6 (orH6 most) x0 x1 x2 x3 x4 x5)) _
 rw [og_6]
 simp only [ok0,ok1,ok2,ok3,ok4,ok5,plcW,decC_enc,cond_true]
 rcases fnd_cases x0.1 a with⟨i0,hi0,_,e0,g0,_⟩ | ⟨e0,g0,_⟩
 ·have l:=cell_n x0.1
  simp only [wd_nat,wd_asV,wd_isV,wd_ix,wd_add,wd_mul,wd_ln,Nat.zero_add,Nat.mul_one,wd_isI,wd_asI,wd_isB,wd_asB,wd_nn,cI_tlen,cB_tlen,cII_tlen,decide_true,cond_true,wd_not_t,wd_not_f,wd_and_t,wd_and_f,e0,cell_1 hi0,l]
  (refine zR ?_)
  rw [show getL [x0,x1,x2,x3,x4,x5] a=some x0.1[i0].2 by simp only [getL,g0]]; exact or_end (A:=[]) h trivial own3_nil rfl rfl
 simp only [e0]
 refine zqf ?_
 rcases fnd_cases x1.1 a with⟨i1,hi1,_,e1,g1,_⟩ | ⟨e1,g1,_⟩
 ·have l:=cell_n x1.1
  (refine zN3 @e1 (cell_1 hi1) @l ?_)
  (refine zR ?_)
  rw [show getL [x0,x1,x2,x3,x4,x5] a=some x1.1[i1].2 by simp only [getL,g0,g1]]; exact or_end (A:=[]) h trivial own3_nil rfl rfl
 simp only [e1]
 refine zqf ?_
 rcases fnd_cases x2.1 a with⟨i2,hi2,_,e2,g2,_⟩ | ⟨e2,g2,_⟩
 ·have l:=cell_n x2.1
  (refine zN3 @e2 (cell_1 hi2) @l ?_)
  (refine zR ?_)
  rw [show getL [x0,x1,x2,x3,x4,x5] a=some x2.1[i2].2 by simp only [getL,g0,g1,g2]]; exact or_end (A:=[]) h trivial own3_nil rfl rfl
 simp only [e2]
 refine zqf ?_
 rcases fnd_cases x3.1 a with⟨i3,hi3,_,e3,g3,_⟩ | ⟨e3,g3,_⟩
 ·have l:=cell_n x3.1
  (refine zN3 @e3 (cell_1 hi3) @l ?_)
  (refine zR ?_)
  rw [show getL [x0,x1,x2,x3,x4,x5] a=some x3.1[i3].2 by simp only [getL,g0,g1,g2,g3]]; exact or_end (A:=[]) h trivial own3_nil rfl rfl
 simp only [e3]
 refine zqf ?_
 rcases fnd_cases x4.1 a with⟨i4,hi4,_,e4,g4,_⟩ | ⟨e4,g4,_⟩
 ·have l:=cell_n x4.1
  (refine zN3 @e4 (cell_1 hi4) @l ?_)
  (refine zR ?_)
  rw [show getL [x0,x1,x2,x3,x4,x5] a=some x4.1[i4].2 by simp only [getL,g0,g1,g2,g3,g4]]; exact or_end (A:=[]) h trivial own3_nil rfl rfl
 simp only [e4]
 refine zqf ?_
 rcases fnd_cases x5.1 a with⟨i5,hi5,_,e5,g5,_⟩ | ⟨e5,g5,_⟩
 ·have l:=cell_n x5.1
  (refine zN3 @e5 (cell_1 hi5) @l ?_)
  (refine zR ?_)
  rw [show getL [x0,x1,x2,x3,x4,x5] a=some x5.1[i5].2 by simp only [getL,g0,g1,g2,g3,g4,g5]]; exact or_end (A:=[]) h trivial own3_nil rfl rfl
 simp only [e5]
 refine zqf ?_
 rw [show getL [x0,x1,x2,x3,x4,x5] a=none by simp only [getL,g0,g1,g2,g3,g4,g5]]; exact or_end (A:=[]) h trivial own3_nil rfl rfl
theorem oputl_6 (most a v:Int) (x0 x1 x2 x3 x4 x5:Lv) (hm:(totC [x0,x1,x2,x3,x4,x5]:Int)≤most) (hm2:most≤96) (h:OkLs [x0,x1,x2,x3,x4,x5]):SSp prog 54 ((sp prog 98).drop 0) 3 (tm0 [.ptr 0 0,.int .i64 a,.int .u64 v]) (mkS (orU most [x0,x1,x2,x3,x4,x5] [])) (vK [6] (endK 3 [6] [6] [] (orQ most (tkC most [x0,x1,x2,x3,x4,x5] [(a,v)]) [] (.int .i64 (tkE most [x0,x1,x2,x3,x4,x5] [(a,v)]))))):=by
 obtain⟨hr,hrm⟩:=tkC_ok h hm hm2 [(a,v)]
 have hc:=h.c; have hf:=h.f; simp only [totC] at hc; simp only [totF] at hf
 have ok0:=okC_e x0.1 (by omega); have le0:=le_e x0.1 (by omega)
 simp only [totC] at hm
 have e5:xar .sub .i64 (most) (x5.1.length:Int)=most - x5.1.length:=sub_i64 (by omega) (by omega)
 have e4:xar .sub .i64 (most - x5.1.length) (x4.1.length:Int)=most - x5.1.length - x4.1.length:=sub_i64 (by omega) (by omega)
 have e3:xar .sub .i64 (most - x5.1.length - x4.1.length) (x3.1.length:Int)=most - x5.1.length - x4.1.length - x3.1.length:=sub_i64 (by omega) (by omega)
 have e2:xar .sub .i64 (most - x5.1.length - x4.1.length - x3.1.length) (x2.1.length:Int)=most - x5.1.length - x4.1.length - x3.1.length - x2.1.length:=sub_i64 (by omega) (by omega)
 have e1:xar .sub .i64 (most - x5.1.length - x4.1.length - x3.1.length - x2.1.length) (x1.1.length:Int)=most - x5.1.length - x4.1.length - x3.1.length - x2.1.length - x1.1.length:=sub_i64 (by omega) (by omega)
 have e0:xar .sub .i64 (most - x5.1.length - x4.1.length - x3.1.length - x2.1.length - x1.1.length) (x0.1.length:Int)=most - x5.1.length - x4.1.length - x3.1.length - x2.1.length - x1.1.length - x0.1.length:=sub_i64 (by omega) (by omega)
 have le9:xle x0.1.length 99999=true:=t_le (by omega)
 have eE:tkE most [x0,x1,x2,x3,x4,x5] [(a,v)]=wPe (most - totC [x1,x2,x3,x4,x5]) x0.1 a:=wT1e _ _ _ _
 have eC:tkC most [x0,x1,x2,x3,x4,x5] [(a,v)]=(wPc (most - totC [x1,x2,x3,x4,x5]) x0.1 a v,x0.2)::[x1,x2,x3,x4,x5]:=by simp only [tkC,inm,outs,wT1c]
 have nw:=noids_c (pl x0.1 (a,v))
 refine zE cxo1_ok ?_
 show xsp _ _ _ _ _ _ (mkS (at6 (orH6 most) x0 x1 x2 x3 x4 x5)) _
 rw [op_6,e5,e4,e3,e2,e1,e0]
 simp only [op_6_b2,ok0,le9,plcW,opN,opC,decC_enc,cond_true]
 by_cases c:a < 1∨256≤a
 ·have p0:wPe (most - totC [x1,x2,x3,x4,x5]) x0.1 a=2:=if_pos c
  have q0:wPc (most - totC [x1,x2,x3,x4,x5]) x0.1 a v=x0.1:=by rw [wPc,p0,if_neg (by omega)]
  by_cases c0:a < 1
  ·(refine zR ?_)
   rw [eE,eC,p0,q0]; exact or_end (A:=[]) h trivial own3_nil rfl rfl
  ·(refine zR ?_)
   rw [eE,eC,p0,q0]; exact or_end (A:=[]) h trivial own3_nil rfl rfl
 have tc:(totC [x1,x2,x3,x4,x5]:Int)=x1.1.length+x2.1.length+x3.1.length+x4.1.length+x5.1.length:=by simp only [totC]; omega
 rcases fnd_cases x0.1 a with⟨i,hi,e1,e2,e3,e4⟩ | ⟨e2,e3,e4⟩
 ·have p0:wPe (most - totC [x1,x2,x3,x4,x5]) x0.1 a=0:=by rw [wPe,if_neg c,e3]; rfl
  have q0:wPc (most - totC [x1,x2,x3,x4,x5]) x0.1 a v=pl x0.1 (a,v):=by rw [wPc,p0,if_pos rfl]
  simp only [e2]
  (refine zR ?_)
  exact⟨trivial,rfl,.int .i64 0,orH6 most (pl x0.1 (a,v)).length x0.2.length x1.1.length x1.2.length x2.1.length x2.2.length x3.1.length x3.2.length x4.1.length x4.2.length x5.1.length x5.2.length (encL cell (pl x0.1 (a,v))) (encL (cI .i64) x0.2) (encL cell x1.1) (encL (cI .i64) x1.2) (encL cell x2.1) (encL (cI .i64) x2.2) (encL cell x3.1) (encL (cI .i64) x3.2) (encL cell x4.1) (encL (cI .i64) x4.2) (encL cell x5.1) (encL (cI .i64) x5.2),[.id 0,.id 1,.id 2,.id 15,.id 4,.id 5,.id 6,.id 7,.id 8,.id 9,.id 10,.id 11,.id 12,.id 13,.id 14],⟨by rw [eE,p0],hr,by rw [eC,q0]; rfl⟩,by(exact zC)⟩
 ·by_cases c2:most - totC [x1,x2,x3,x4,x5]≤(x0.1.length:Int)
  ·have p0:wPe (most - totC [x1,x2,x3,x4,x5]) x0.1 a=5:=by rw [wPe,if_neg c,e3,if_neg (by simp),if_pos c2]
   have q0:wPc (most - totC [x1,x2,x3,x4,x5]) x0.1 a v=x0.1:=by rw [wPc,p0,if_neg (by omega)]
   simp only [e2]
   (refine zR ?_)
   rw [eE,eC,p0,q0]; exact or_end (A:=[]) h trivial own3_nil rfl rfl
  ·have p0:wPe (most - totC [x1,x2,x3,x4,x5]) x0.1 a=0:=by rw [wPe,if_neg c,e3,if_neg (by simp),if_neg c2]
   have q0:wPc (most - totC [x1,x2,x3,x4,x5]) x0.1 a v=pl x0.1 (a,v):=by rw [wPc,p0,if_pos rfl]
   simp only [e2]
   (refine zR ?_)
   exact⟨trivial,rfl,.int .i64 0,orH6 most (pl x0.1 (a,v)).length x0.2.length x1.1.length x1.2.length x2.1.length x2.2.length x3.1.length x3.2.length x4.1.length x4.2.length x5.1.length x5.2.length (encL cell (pl x0.1 (a,v))) (encL (cI .i64) x0.2) (encL cell x1.1) (encL (cI .i64) x1.2) (encL cell x2.1) (encL (cI .i64) x2.2) (encL cell x3.1) (encL (cI .i64) x3.2) (encL cell x4.1) (encL (cI .i64) x4.2) (encL cell x5.1) (encL (cI .i64) x5.2),[.id 0,.id 1,.id 2,.id 15,.id 4,.id 5,.id 6,.id 7,.id 8,.id 9,.id 10,.id 11,.id 12,.id 13,.id 14],⟨by rw [eE,p0],hr,by rw [eC,q0]; rfl⟩,by(exact zC)⟩
end
end Go.Lev
