/- chapter 9: the reference's levels: Keep and Take -/
import Derived.Test.YtbeolgofafknmaaGreatDoorCW20
import Derived.Test.YtbeolgofafknmaaGreatDoorLc
import Derived.Test.YtbeolgofafknmaaGreatDoorChecked
import Derived.KernelRfl
namespace Go.Lev
set_option linter.unusedSimpArgs false
set_option linter.unusedVariables false
open Go.RowKit
open Go.Proofs.Tryz (prog)
set_option maxRecDepth 100000
noncomputable section
theorem pls_drop (y l:CL) (i:Nat) (h:i < l.length):pls y (l.drop i)=pls (pl y l[i]) (l.drop (i+1)):=by rw [List.drop_eq_getElem_cons h]; rfl
theorem okeep_1 (most:Int) (c0:CL) (e0:List Int) (h:OkLs [(c0,e0)]):SSp prog 78 ((sp prog 51).drop 0) 3 (tm0 [.ptr 0 0]) (mkS (orU most [(c0,e0)] [])) (vK kpS (endK 3 [2] kpS [] (orP most (kpL [(c0,e0)]) (.int .i64 (clE [(c0,e0)]))))):=by
 have hr:=(kpL_ok h).1; have hc:=h.c; have hf:=h.f; simp only [totC] at hc; simp only [totF] at hf
 have nc0:=noids_c c0; have nf0:=noIds_Ii64 e0
 refine zE cxo1_ok ?_
 show xsp _ _ _ _ _ _ (mkS (orH1 most c0.length e0.length (encL cell c0) (encL (cI .i64) e0))) _
 rw [ok_1]; exact⟨trivial,rfl,.int .i64 10,orX1 most c0.length e0.length (encL cell c0) (encL (cI .i64) e0),[.id 0,.id 1,.id 2,.id 1,.id 3,.id 4],⟨rfl,hr,rfl⟩,by(exact zC)⟩
theorem okeep_2 (most:Int) (c0:CL) (e0:List Int) (c1:CL) (e1:List Int) (h:OkLs [(c0,e0),(c1,e1)]):SSp prog 78 ((sp prog 51).drop 0) 3 (tm0 [.ptr 0 0]) (mkS (orU most [(c0,e0),(c1,e1)] [])) (vK kpS (endK 3 [2] kpS [] (orP most (kpL [(c0,e0),(c1,e1)]) (.int .i64 (clE [(c0,e0),(c1,e1)]))))):=by
 have hr:=(kpL_ok h).1; have hc:=h.c; have hf:=h.f; simp only [totC] at hc; simp only [totF] at hf
 have nc0:=noids_c c0; have nf0:=noIds_Ii64 e0
 have nc1:=noids_c c1; have nf1:=noIds_Ii64 e1
 have la:=cell_n c0; have lb0:=encIi64_len e0; have lb1:=encIi64_len e1
 have xb0:xcut (encL (cI .i64) e0) 0 e0.length=encL (cI .i64) e0:=xcut_all (by omega)
 have xb1:xcut (encL (cI .i64) e1) 0 e1.length=encL (cI .i64) e1:=xcut_all (by omega)
 have xc:xcat (encL (cI .i64) e1) (encL (cI .i64) e0)=encL (cI .i64) (e1++e0):=(ints_app _ _).symm
 have nv:=noIds_Ii64 (e1++e0); have lv:(e1++e0).length=e1.length+e0.length:=List.length_append
 refine SSp.to cxo1_ok (n:=60) (g:=[]) 7 7 rfl (σ:=Unit) (fun _=>kpT 2 7 0) (fun _=>okH2 most c1.length (encL cell c1) c0.length e0.length c1.length e1.length (encL cell c0) (encL (cI .i64) e0) (encL cell c1) (encL (cI .i64) e1)) (mkS_le (Nat.le_of_ble_eq_true rfl)) (by kernel_rfl) ?_ fun _=>?_
 ·show xsp _ _ _ _ _ _ (mkS (orH2 most c0.length e0.length c1.length e1.length (encL cell c0) (encL (cI .i64) e0) (encL cell c1) (encL (cI .i64) e1))) _
  rw [ka_2]; exact⟨rfl,(),[.id 0,.id 1,.id 2,.id 3,.id 4,.id 5,.id 6,.id 7,.id 8,.id 5],by(exact zC)⟩
 refine SSp.code_to (g:=[]) 8 rfl (σ:=Unit) (fun _=>kpT 2 7 c0.length) (fun _=>okH2 most (pls c1 c0).length (encL cell (pls c1 c0)) c0.length e0.length c1.length e1.length (encL cell c0) (encL (cI .i64) e0) (encL cell c1) (encL (cI .i64) e1)) (by kernel_rfl) ?_ fun _=>?_
 ·refine SCode.loop_vc cxo1_ok (n:=60) 0 (by kernel_rfl) (σ:={p:Nat×CL // p.1≤c0.length∧pls p.2 (c0.drop p.1)=pls c1 c0∧p.2.length≤c1.length+p.1}) (fun p=>kpT 2 7 p.1.1) (fun p=>okH2 most p.1.2.length (encL cell p.1.2) c0.length e0.length c1.length e1.length (encL cell c0) (encL (cI .i64) e0) (encL cell c1) (encL (cI .i64) e1)) (fun p=>c0.length - p.1.1) (fun _=>Nat.le_of_ble_eq_true rfl) (fun⟨⟨i,ys⟩,hi,hp,hy⟩=>?_) ⟨(0,c1),Nat.zero_le _,rfl,Nat.le_refl _⟩
  dsimp only at hi hp hy ⊢
  have ny:=noids_c ys; have oky:okC (encL cell ys) ys.length=true:=okC_enc (by omega); have ley:xle ys.length 99999=true:=t_le (by omega)
  rw [kb_2,wd_lss]
  refine ite_way (fun hk=>?_) (fun hk=>?_)
  ·have i3:xar .add .i64 (i:Int) 1=((i+1:Nat):Int):=inc_i64 hk (by omega)
   have nz:=noids_c (pl ys (c0[i].1,c0[i].2)); have lz:=pl_len ys c0[i]
   simp only [wd_nat,wd_asV,wd_isV,wd_ix,wd_add,wd_mul,wd_ln,Nat.zero_add,Nat.mul_one,wd_isI,wd_asI,wd_isB,wd_asB,wd_nn,cI_tlen,cB_tlen,cII_tlen,decide_true,cond_true,wd_not_t,wd_not_f,wd_and_t,wd_and_f,Nat.add_assoc,Nat.reduceAdd,cell_0 hk,cell_1 hk,la,i3,oky,ley,opN,opC,decC_enc]
   (refine zR ?_)
   exact⟨rfl,⟨(i+1,pl ys c0[i]),hk,by rw [← hp,pls_drop ys c0 i hk],by simp only; omega⟩,by simp only; omega,[.id 0,.id 1,.id 2,.id 3,.id 4,.id 5,.id 6,.id 7,.id 8,.id 10],by(exact zC)⟩
  ·obtain rfl:i=c0.length:=by omega
   rw [List.drop_length] at hp
   obtain rfl:ys=pls c1 c0:=hp
   exact⟨rfl,(),[.id 0,.id 1,.id 2,.id 3,.id 4,.id 5,.id 6,.id 7,.id 8,.id 9],by(exact zC)⟩
 have ny:=noids_c (pls c1 c0)
 refine zE cxo1_ok ?_
 rw [kz_2]
 (refine zN5 @lb0 @lb1 @xb0 @xb1 @xc ?_)
 (refine zR ?_)
 exact⟨trivial,rfl,.int .i64 0,orX1 most (pls c1 c0).length (e1++e0).length  (encL cell (pls c1 c0)) (encL (cI .i64) (e1++e0)) ,[.id 0,.id 1,.id 2,.drop 1 0 0,.id 9,.id 11],⟨rfl,hr,rfl⟩,by rw [lv]; (exact zD)⟩
theorem okeep_3 (most:Int) (c0:CL) (e0:List Int) (c1:CL) (e1:List Int) (c2:CL) (e2:List Int) (h:OkLs [(c0,e0),(c1,e1),(c2,e2)]):SSp prog 78 ((sp prog 51).drop 0) 3 (tm0 [.ptr 0 0]) (mkS (orU most [(c0,e0),(c1,e1),(c2,e2)] [])) (vK kpS (endK 3 [2] kpS [] (orP most (kpL [(c0,e0),(c1,e1),(c2,e2)]) (.int .i64 (clE [(c0,e0),(c1,e1),(c2,e2)]))))):=by
 have hr:=(kpL_ok h).1; have hc:=h.c; have hf:=h.f; simp only [totC] at hc; simp only [totF] at hf
 have nc0:=noids_c c0; have nf0:=noIds_Ii64 e0
 have nc1:=noids_c c1; have nf1:=noIds_Ii64 e1
 have nc2:=noids_c c2; have nf2:=noIds_Ii64 e2
 have la:=cell_n c0; have lb0:=encIi64_len e0; have lb1:=encIi64_len e1
 have xb0:xcut (encL (cI .i64) e0) 0 e0.length=encL (cI .i64) e0:=xcut_all (by omega)
 have xb1:xcut (encL (cI .i64) e1) 0 e1.length=encL (cI .i64) e1:=xcut_all (by omega)
 have xc:xcat (encL (cI .i64) e1) (encL (cI .i64) e0)=encL (cI .i64) (e1++e0):=(ints_app _ _).symm
 have nv:=noIds_Ii64 (e1++e0); have lv:(e1++e0).length=e1.length+e0.length:=List.length_append
 refine SSp.to cxo1_ok (n:=60) (g:=[]) 7 7 rfl (σ:=Unit) (fun _=>kpT 3 9 0) (fun _=>okH3 most c1.length (encL cell c1) c0.length e0.length c1.length e1.length c2.length e2.length (encL cell c0) (encL (cI .i64) e0) (encL cell c1) (encL (cI .i64) e1) (encL cell c2) (encL (cI .i64) e2)) (mkS_le (Nat.le_of_ble_eq_true rfl)) (by kernel_rfl) ?_ fun _=>?_
 ·show xsp _ _ _ _ _ _ (mkS (orH3 most c0.length e0.length c1.length e1.length c2.length e2.length (encL cell c0) (encL (cI .i64) e0) (encL cell c1) (encL (cI .i64) e1) (encL cell c2) (encL (cI .i64) e2))) _
  rw [ka_3]; exact⟨rfl,(),[.id 0,.id 1,.id 2,.id 3,.id 4,.id 5,.id 6,.id 7,.id 8,.id 9,.id 10,.id 5],by(exact zC)⟩
 refine SSp.code_to (g:=[]) 8 rfl (σ:=Unit) (fun _=>kpT 3 9 c0.length) (fun _=>okH3 most (pls c1 c0).length (encL cell (pls c1 c0)) c0.length e0.length c1.length e1.length c2.length e2.length (encL cell c0) (encL (cI .i64) e0) (encL cell c1) (encL (cI .i64) e1) (encL cell c2) (encL (cI .i64) e2)) (by kernel_rfl) ?_ fun _=>?_
 ·refine SCode.loop_vc cxo1_ok (n:=60) 0 (by kernel_rfl) (σ:={p:Nat×CL // p.1≤c0.length∧pls p.2 (c0.drop p.1)=pls c1 c0∧p.2.length≤c1.length+p.1}) (fun p=>kpT 3 9 p.1.1) (fun p=>okH3 most p.1.2.length (encL cell p.1.2) c0.length e0.length c1.length e1.length c2.length e2.length (encL cell c0) (encL (cI .i64) e0) (encL cell c1) (encL (cI .i64) e1) (encL cell c2) (encL (cI .i64) e2)) (fun p=>c0.length - p.1.1) (fun _=>Nat.le_of_ble_eq_true rfl) (fun⟨⟨i,ys⟩,hi,hp,hy⟩=>?_) ⟨(0,c1),Nat.zero_le _,rfl,Nat.le_refl _⟩
  dsimp only at hi hp hy ⊢
  have ny:=noids_c ys; have oky:okC (encL cell ys) ys.length=true:=okC_enc (by omega); have ley:xle ys.length 99999=true:=t_le (by omega)
  rw [kb_3,wd_lss]
  refine ite_way (fun hk=>?_) (fun hk=>?_)
  ·have i3:xar .add .i64 (i:Int) 1=((i+1:Nat):Int):=inc_i64 hk (by omega)
   have nz:=noids_c (pl ys (c0[i].1,c0[i].2)); have lz:=pl_len ys c0[i]
   simp only [wd_nat,wd_asV,wd_isV,wd_ix,wd_add,wd_mul,wd_ln,Nat.zero_add,Nat.mul_one,wd_isI,wd_asI,wd_isB,wd_asB,wd_nn,cI_tlen,cB_tlen,cII_tlen,decide_true,cond_true,wd_not_t,wd_not_f,wd_and_t,wd_and_f,Nat.add_assoc,Nat.reduceAdd,cell_0 hk,cell_1 hk,la,i3,oky,ley,opN,opC,decC_enc]
   (refine zR ?_)
   exact⟨rfl,⟨(i+1,pl ys c0[i]),hk,by rw [← hp,pls_drop ys c0 i hk],by simp only; omega⟩,by simp only; omega,[.id 0,.id 1,.id 2,.id 3,.id 4,.id 5,.id 6,.id 7,.id 8,.id 9,.id 10,.id 12],by(exact zC)⟩
  ·obtain rfl:i=c0.length:=by omega
   rw [List.drop_length] at hp
   obtain rfl:ys=pls c1 c0:=hp
   exact⟨rfl,(),[.id 0,.id 1,.id 2,.id 3,.id 4,.id 5,.id 6,.id 7,.id 8,.id 9,.id 10,.id 11],by(exact zC)⟩
 have ny:=noids_c (pls c1 c0)
 refine zE cxo1_ok ?_
 rw [kz_3]
 (refine zN5 @lb0 @lb1 @xb0 @xb1 @xc ?_)
 (refine zR ?_)
 exact⟨trivial,rfl,.int .i64 0,orX2 most (pls c1 c0).length (e1++e0).length c2.length e2.length (encL cell (pls c1 c0)) (encL (cI .i64) (e1++e0)) (encL cell c2) (encL (cI .i64) e2),[.id 0,.id 1,.id 2,.drop 1 0 0,.id 11,.id 13,.id 7,.id 8],⟨rfl,hr,rfl⟩,by rw [lv]; (exact zD)⟩
theorem okeep_4 (most:Int) (c0:CL) (e0:List Int) (c1:CL) (e1:List Int) (c2:CL) (e2:List Int) (c3:CL) (e3:List Int) (h:OkLs [(c0,e0),(c1,e1),(c2,e2),(c3,e3)]):SSp prog 78 ((sp prog 51).drop 0) 3 (tm0 [.ptr 0 0]) (mkS (orU most [(c0,e0),(c1,e1),(c2,e2),(c3,e3)] [])) (vK kpS (endK 3 [2] kpS [] (orP most (kpL [(c0,e0),(c1,e1),(c2,e2),(c3,e3)]) (.int .i64 (clE [(c0,e0),(c1,e1),(c2,e2),(c3,e3)]))))):=by
 have hr:=(kpL_ok h).1; have hc:=h.c; have hf:=h.f; simp only [totC] at hc; simp only [totF] at hf
 have nc0:=noids_c c0; have nf0:=noIds_Ii64 e0
 have nc1:=noids_c c1; have nf1:=noIds_Ii64 e1
 have nc2:=noids_c c2; have nf2:=noIds_Ii64 e2
 have nc3:=noids_c c3; have nf3:=noIds_Ii64 e3
 have la:=cell_n c0; have lb0:=encIi64_len e0; have lb1:=encIi64_len e1
 have xb0:xcut (encL (cI .i64) e0) 0 e0.length=encL (cI .i64) e0:=xcut_all (by omega)
 have xb1:xcut (encL (cI .i64) e1) 0 e1.length=encL (cI .i64) e1:=xcut_all (by omega)
 have xc:xcat (encL (cI .i64) e1) (encL (cI .i64) e0)=encL (cI .i64) (e1++e0):=(ints_app _ _).symm
 have nv:=noIds_Ii64 (e1++e0); have lv:(e1++e0).length=e1.length+e0.length:=List.length_append
 refine SSp.to cxo1_ok (n:=60) (g:=[]) 7 7 rfl (σ:=Unit) (fun _=>kpT 4 11 0) (fun _=>okH4 most c1.length (encL cell c1) c0.length e0.length c1.length e1.length c2.length e2.length c3.length e3.length (encL cell c0) (encL (cI .i64) e0) (encL cell c1) (encL (cI .i64) e1) (encL cell c2) (encL (cI .i64) e2) (encL cell c3) (encL (cI .i64) e3)) (mkS_le (Nat.le_of_ble_eq_true rfl)) (by kernel_rfl) ?_ fun _=>?_
 ·show xsp _ _ _ _ _ _ (mkS (orH4 most c0.length e0.length c1.length e1.length c2.length e2.length c3.length e3.length (encL cell c0) (encL (cI .i64) e0) (encL cell c1) (encL (cI .i64) e1) (encL cell c2) (encL (cI .i64) e2) (encL cell c3) (encL (cI .i64) e3))) _
  rw [ka_4]; exact⟨rfl,(),[.id 0,.id 1,.id 2,.id 3,.id 4,.id 5,.id 6,.id 7,.id 8,.id 9,.id 10,.id 11,.id 12,.id 5],by(exact zC)⟩
 refine SSp.code_to (g:=[]) 8 rfl (σ:=Unit) (fun _=>kpT 4 11 c0.length) (fun _=>okH4 most (pls c1 c0).length (encL cell (pls c1 c0)) c0.length e0.length c1.length e1.length c2.length e2.length c3.length e3.length (encL cell c0) (encL (cI .i64) e0) (encL cell c1) (encL (cI .i64) e1) (encL cell c2) (encL (cI .i64) e2) (encL cell c3) (encL (cI .i64) e3)) (by kernel_rfl) ?_ fun _=>?_
 ·refine SCode.loop_vc cxo1_ok (n:=60) 0 (by kernel_rfl) (σ:={p:Nat×CL // p.1≤c0.length∧pls p.2 (c0.drop p.1)=pls c1 c0∧p.2.length≤c1.length+p.1}) (fun p=>kpT 4 11 p.1.1) (fun p=>okH4 most p.1.2.length (encL cell p.1.2) c0.length e0.length c1.length e1.length c2.length e2.length c3.length e3.length (encL cell c0) (encL (cI .i64) e0) (encL cell c1) (encL (cI .i64) e1) (encL cell c2) (encL (cI .i64) e2) (encL cell c3) (encL (cI .i64) e3)) (fun p=>c0.length - p.1.1) (fun _=>Nat.le_of_ble_eq_true rfl) (fun⟨⟨i,ys⟩,hi,hp,hy⟩=>?_) ⟨(0,c1),Nat.zero_le _,rfl,Nat.le_refl _⟩
  dsimp only at hi hp hy ⊢
  have ny:=noids_c ys; have oky:okC (encL cell ys) ys.length=true:=okC_enc (by omega); have ley:xle ys.length 99999=true:=t_le (by omega)
  rw [kb_4,wd_lss]
  refine ite_way (fun hk=>?_) (fun hk=>?_)
  ·have i3:xar .add .i64 (i:Int) 1=((i+1:Nat):Int):=inc_i64 hk (by omega)
   have nz:=noids_c (pl ys (c0[i].1,c0[i].2)); have lz:=pl_len ys c0[i]
   simp only [wd_nat,wd_asV,wd_isV,wd_ix,wd_add,wd_mul,wd_ln,Nat.zero_add,Nat.mul_one,wd_isI,wd_asI,wd_isB,wd_asB,wd_nn,cI_tlen,cB_tlen,cII_tlen,decide_true,cond_true,wd_not_t,wd_not_f,wd_and_t,wd_and_f,Nat.add_assoc,Nat.reduceAdd,cell_0 hk,cell_1 hk,la,i3,oky,ley,opN,opC,decC_enc]
   (refine zR ?_)
   exact⟨rfl,⟨(i+1,pl ys c0[i]),hk,by rw [← hp,pls_drop ys c0 i hk],by simp only; omega⟩,by simp only; omega,[.id 0,.id 1,.id 2,.id 3,.id 4,.id 5,.id 6,.id 7,.id 8,.id 9,.id 10,.id 11,.id 12,.id 14],by(exact zC)⟩
  ·obtain rfl:i=c0.length:=by omega
   rw [List.drop_length] at hp
   obtain rfl:ys=pls c1 c0:=hp
   exact⟨rfl,(),[.id 0,.id 1,.id 2,.id 3,.id 4,.id 5,.id 6,.id 7,.id 8,.id 9,.id 10,.id 11,.id 12,.id 13],by(exact zC)⟩
 have ny:=noids_c (pls c1 c0)
 refine zE cxo1_ok ?_
 rw [kz_4]
 (refine zN5 @lb0 @lb1 @xb0 @xb1 @xc ?_)
 (refine zR ?_)
 exact⟨trivial,rfl,.int .i64 0,orX3 most (pls c1 c0).length (e1++e0).length c2.length e2.length c3.length e3.length (encL cell (pls c1 c0)) (encL (cI .i64) (e1++e0)) (encL cell c2) (encL (cI .i64) e2) (encL cell c3) (encL (cI .i64) e3),[.id 0,.id 1,.id 2,.drop 1 0 0,.id 13,.id 15,.id 7,.id 8,.id 9,.id 10],⟨rfl,hr,rfl⟩,by rw [lv]; (exact zD)⟩
theorem okeep_5 (most:Int) (c0:CL) (e0:List Int) (c1:CL) (e1:List Int) (c2:CL) (e2:List Int) (c3:CL) (e3:List Int) (c4:CL) (e4:List Int) (h:OkLs [(c0,e0),(c1,e1),(c2,e2),(c3,e3),(c4,e4)]):SSp prog 78 ((sp prog 51).drop 0) 3 (tm0 [.ptr 0 0]) (mkS (orU most [(c0,e0),(c1,e1),(c2,e2),(c3,e3),(c4,e4)] [])) (vK kpS (endK 3 [2] kpS [] (orP most (kpL [(c0,e0),(c1,e1),(c2,e2),(c3,e3),(c4,e4)]) (.int .i64 (clE [(c0,e0),(c1,e1),(c2,e2),(c3,e3),(c4,e4)]))))):=by
 have hr:=(kpL_ok h).1; have hc:=h.c; have hf:=h.f; simp only [totC] at hc; simp only [totF] at hf
 have nc0:=noids_c c0; have nf0:=noIds_Ii64 e0
 have nc1:=noids_c c1; have nf1:=noIds_Ii64 e1
 have nc2:=noids_c c2; have nf2:=noIds_Ii64 e2
 have nc3:=noids_c c3; have nf3:=noIds_Ii64 e3
 have nc4:=noids_c c4; have nf4:=noIds_Ii64 e4
 have la:=cell_n c0; have lb0:=encIi64_len e0; have lb1:=encIi64_len e1
 have xb0:xcut (encL (cI .i64) e0) 0 e0.length=encL (cI .i64) e0:=xcut_all (by omega)
 have xb1:xcut (encL (cI .i64) e1) 0 e1.length=encL (cI .i64) e1:=xcut_all (by omega)
 have xc:xcat (encL (cI .i64) e1) (encL (cI .i64) e0)=encL (cI .i64) (e1++e0):=(ints_app _ _).symm
 have nv:=noIds_Ii64 (e1++e0); have lv:(e1++e0).length=e1.length+e0.length:=List.length_append
 refine SSp.to cxo1_ok (n:=60) (g:=[]) 7 7 rfl (σ:=Unit) (fun _=>kpT 5 13 0) (fun _=>okH5 most c1.length (encL cell c1) c0.length e0.length c1.length e1.length c2.length e2.length c3.length e3.length c4.length e4.length (encL cell c0) (encL (cI .i64) e0) (encL cell c1) (encL (cI .i64) e1) (encL cell c2) (encL (cI .i64) e2) (encL cell c3) (encL (cI .i64) e3) (encL cell c4) (encL (cI .i64) e4)) (mkS_le (Nat.le_of_ble_eq_true rfl)) (by kernel_rfl) ?_ fun _=>?_
 ·show xsp _ _ _ _ _ _ (mkS (orH5 most c0.length e0.length c1.length e1.length c2.length e2.length c3.length e3.length c4.length e4.length (encL cell c0) (encL (cI .i64) e0) (encL cell c1) (encL (cI .i64) e1) (encL cell c2) (encL (cI .i64) e2) (encL cell c3) (encL (cI .i64) e3) (encL cell c4) (encL (cI .i64) e4))) _
  rw [ka_5]; exact⟨rfl,(),[.id 0,.id 1,.id 2,.id 3,.id 4,.id 5,.id 6,.id 7,.id 8,.id 9,.id 10,.id 11,.id 12,.id 13,.id 14,.id 5],by(exact zC)⟩
 refine SSp.code_to (g:=[]) 8 rfl (σ:=Unit) (fun _=>kpT 5 13 c0.length) (fun _=>okH5 most (pls c1 c0).length (encL cell (pls c1 c0)) c0.length e0.length c1.length e1.length c2.length e2.length c3.length e3.length c4.length e4.length (encL cell c0) (encL (cI .i64) e0) (encL cell c1) (encL (cI .i64) e1) (encL cell c2) (encL (cI .i64) e2) (encL cell c3) (encL (cI .i64) e3) (encL cell c4) (encL (cI .i64) e4)) (by kernel_rfl) ?_ fun _=>?_
 ·refine SCode.loop_vc cxo1_ok (n:=60) 0 (by kernel_rfl) (σ:={p:Nat×CL // p.1≤c0.length∧pls p.2 (c0.drop p.1)=pls c1 c0∧p.2.length≤c1.length+p.1}) (fun p=>kpT 5 13 p.1.1) (fun p=>okH5 most p.1.2.length (encL cell p.1.2) c0.length e0.length c1.length e1.length c2.length e2.length c3.length e3.length c4.length e4.length (encL cell c0) (encL (cI .i64) e0) (encL cell c1) (encL (cI .i64) e1) (encL cell c2) (encL (cI .i64) e2) (encL cell c3) (encL (cI .i64) e3) (encL cell c4) (encL (cI .i64) e4)) (fun p=>c0.length - p.1.1) (fun _=>Nat.le_of_ble_eq_true rfl) (fun⟨⟨i,ys⟩,hi,hp,hy⟩=>?_) ⟨(0,c1),Nat.zero_le _,rfl,Nat.le_refl _⟩
  dsimp only at hi hp hy ⊢
  have ny:=noids_c ys; have oky:okC (encL cell ys) ys.length=true:=okC_enc (by omega); have ley:xle ys.length 99999=true:=t_le (by omega)
  rw [kb_5,wd_lss]
  refine ite_way (fun hk=>?_) (fun hk=>?_)
  ·have i3:xar .add .i64 (i:Int) 1=((i+1:Nat):Int):=inc_i64 hk (by omega)
   have nz:=noids_c (pl ys (c0[i].1,c0[i].2)); have lz:=pl_len ys c0[i]
   simp only [wd_nat,wd_asV,wd_isV,wd_ix,wd_add,wd_mul,wd_ln,Nat.zero_add,Nat.mul_one,wd_isI,wd_asI,wd_isB,wd_asB,wd_nn,cI_tlen,cB_tlen,cII_tlen,decide_true,cond_true,wd_not_t,wd_not_f,wd_and_t,wd_and_f,Nat.add_assoc,Nat.reduceAdd,cell_0 hk,cell_1 hk,la,i3,oky,ley,opN,opC,decC_enc]
   (refine zR ?_)
   exact⟨rfl,⟨(i+1,pl ys c0[i]),hk,by rw [← hp,pls_drop ys c0 i hk],by simp only; omega⟩,by simp only; omega,[.id 0,.id 1,.id 2,.id 3,.id 4,.id 5,.id 6,.id 7,.id 8,.id 9,.id 10,.id 11,.id 12,.id 13,.id 14,.id 16],by(exact zC)⟩
  ·obtain rfl:i=c0.length:=by omega
   rw [List.drop_length] at hp
   obtain rfl:ys=pls c1 c0:=hp
   exact⟨rfl,(),[.id 0,.id 1,.id 2,.id 3,.id 4,.id 5,.id 6,.id 7,.id 8,.id 9,.id 10,.id 11,.id 12,.id 13,.id 14,.id 15],by(exact zC)⟩
 have ny:=noids_c (pls c1 c0)
 refine zE cxo1_ok ?_
 rw [kz_5]
 (refine zN5 @lb0 @lb1 @xb0 @xb1 @xc ?_)
 (refine zR ?_)
 exact⟨trivial,rfl,.int .i64 0,orX4 most (pls c1 c0).length (e1++e0).length c2.length e2.length c3.length e3.length c4.length e4.length (encL cell (pls c1 c0)) (encL (cI .i64) (e1++e0)) (encL cell c2) (encL (cI .i64) e2) (encL cell c3) (encL (cI .i64) e3) (encL cell c4) (encL (cI .i64) e4),[.id 0,.id 1,.id 2,.drop 1 0 0,.id 15,.id 17,.id 7,.id 8,.id 9,.id 10,.id 11,.id 12],⟨rfl,hr,rfl⟩,by rw [lv]; (exact zD)⟩
theorem okeep_6 (most:Int) (c0:CL) (e0:List Int) (c1:CL) (e1:List Int) (c2:CL) (e2:List Int) (c3:CL) (e3:List Int) (c4:CL) (e4:List Int) (c5:CL) (e5:List Int) (h:OkLs [(c0,e0),(c1,e1),(c2,e2),(c3,e3),(c4,e4),(c5,e5)]):SSp prog 78 ((sp prog 51).drop 0) 3 (tm0 [.ptr 0 0]) (mkS (orU most [(c0,e0),(c1,e1),(c2,e2),(c3,e3),(c4,e4),(c5,e5)] [])) (vK kpS (endK 3 [2] kpS [] (orP most (kpL [(c0,e0),(c1,e1),(c2,e2),(c3,e3),(c4,e4),(c5,e5)]) (.int .i64 (clE [(c0,e0),(c1,e1),(c2,e2),(c3,e3),(c4,e4),(c5,e5)]))))):=by
 have hr:=(kpL_ok h).1; have hc:=h.c; have hf:=h.f; simp only [totC] at hc; simp only [totF] at hf
 have nc0:=noids_c c0; have nf0:=noIds_Ii64 e0
 have nc1:=noids_c c1; have nf1:=noIds_Ii64 e1
 have nc2:=noids_c c2; have nf2:=noIds_Ii64 e2
 have nc3:=noids_c c3; have nf3:=noIds_Ii64 e3
 have nc4:=noids_c c4; have nf4:=noIds_Ii64 e4
 have nc5:=noids_c c5; have nf5:=noIds_Ii64 e5
 have la:=cell_n c0; have lb0:=encIi64_len e0; have lb1:=encIi64_len e1
 have xb0:xcut (encL (cI .i64) e0) 0 e0.length=encL (cI .i64) e0:=xcut_all (by omega)
 have xb1:xcut (encL (cI .i64) e1) 0 e1.length=encL (cI .i64) e1:=xcut_all (by omega)
 have xc:xcat (encL (cI .i64) e1) (encL (cI .i64) e0)=encL (cI .i64) (e1++e0):=(ints_app _ _).symm
 have nv:=noIds_Ii64 (e1++e0); have lv:(e1++e0).length=e1.length+e0.length:=List.length_append
 refine SSp.to cxo1_ok (n:=60) (g:=[]) 7 7 rfl (σ:=Unit) (fun _=>kpT 6 15 0) (fun _=>okH6 most c1.length (encL cell c1) c0.length e0.length c1.length e1.length c2.length e2.length c3.length e3.length c4.length e4.length c5.length e5.length (encL cell c0) (encL (cI .i64) e0) (encL cell c1) (encL (cI .i64) e1) (encL cell c2) (encL (cI .i64) e2) (encL cell c3) (encL (cI .i64) e3) (encL cell c4) (encL (cI .i64) e4) (encL cell c5) (encL (cI .i64) e5)) (mkS_le (Nat.le_of_ble_eq_true rfl)) (by kernel_rfl) ?_ fun _=>?_
 ·show xsp _ _ _ _ _ _ (mkS (orH6 most c0.length e0.length c1.length e1.length c2.length e2.length c3.length e3.length c4.length e4.length c5.length e5.length (encL cell c0) (encL (cI .i64) e0) (encL cell c1) (encL (cI .i64) e1) (encL cell c2) (encL (cI .i64) e2) (encL cell c3) (encL (cI .i64) e3) (encL cell c4) (encL (cI .i64) e4) (encL cell c5) (encL (cI .i64) e5))) _
  rw [ka_6]; exact⟨rfl,(),[.id 0,.id 1,.id 2,.id 3,.id 4,.id 5,.id 6,.id 7,.id 8,.id 9,.id 10,.id 11,.id 12,.id 13,.id 14,.id 15,.id 16,.id 5],by(exact zC)⟩
 refine SSp.code_to (g:=[]) 8 rfl (σ:=Unit) (fun _=>kpT 6 15 c0.length) (fun _=>okH6 most (pls c1 c0).length (encL cell (pls c1 c0)) c0.length e0.length c1.length e1.length c2.length e2.length c3.length e3.length c4.length e4.length c5.length e5.length (encL cell c0) (encL (cI .i64) e0) (encL cell c1) (encL (cI .i64) e1) (encL cell c2) (encL (cI .i64) e2) (encL cell c3) (encL (cI .i64) e3) (encL cell c4) (encL (cI .i64) e4) (encL cell c5) (encL (cI .i64) e5)) (by kernel_rfl) ?_ fun _=>?_
 ·refine SCode.loop_vc cxo1_ok (n:=60) 0 (by kernel_rfl) (σ:={p:Nat×CL // p.1≤c0.length∧pls p.2 (c0.drop p.1)=pls c1 c0∧p.2.length≤c1.length+p.1}) (fun p=>kpT 6 15 p.1.1) (fun p=>okH6 most p.1.2.length (encL cell p.1.2) c0.length e0.length c1.length e1.length c2.length e2.length c3.length e3.length c4.length e4.length c5.length e5.length (encL cell c0) (encL (cI .i64) e0) (encL cell c1) (encL (cI .i64) e1) (encL cell c2) (encL (cI .i64) e2) (encL cell c3) (encL (cI .i64) e3) (encL cell c4) (encL (cI .i64) e4) (encL cell c5) (encL (cI .i64) e5)) (fun p=>c0.length - p.1.1) (fun _=>Nat.le_of_ble_eq_true rfl) (fun⟨⟨i,ys⟩,hi,hp,hy⟩=>?_) ⟨(0,c1),Nat.zero_le _,rfl,Nat.le_refl _⟩
  dsimp only at hi hp hy ⊢
  have ny:=noids_c ys; have oky:okC (encL cell ys) ys.length=true:=okC_enc (by omega); have ley:xle ys.length 99999=true:=t_le (by omega)
  rw [kb_6,wd_lss]
  refine ite_way (fun hk=>?_) (fun hk=>?_)
  ·have i3:xar .add .i64 (i:Int) 1=((i+1:Nat):Int):=inc_i64 hk (by omega)
   have nz:=noids_c (pl ys (c0[i].1,c0[i].2)); have lz:=pl_len ys c0[i]
   simp only [wd_nat,wd_asV,wd_isV,wd_ix,wd_add,wd_mul,wd_ln,Nat.zero_add,Nat.mul_one,wd_isI,wd_asI,wd_isB,wd_asB,wd_nn,cI_tlen,cB_tlen,cII_tlen,decide_true,cond_true,wd_not_t,wd_not_f,wd_and_t,wd_and_f,Nat.add_assoc,Nat.reduceAdd,cell_0 hk,cell_1 hk,la,i3,oky,ley,opN,opC,decC_enc]
   (refine zR ?_)
   exact⟨rfl,⟨(i+1,pl ys c0[i]),hk,by rw [← hp,pls_drop ys c0 i hk],by simp only; omega⟩,by simp only; omega,[.id 0,.id 1,.id 2,.id 3,.id 4,.id 5,.id 6,.id 7,.id 8,.id 9,.id 10,.id 11,.id 12,.id 13,.id 14,.id 15,.id 16,.id 18],by(exact zC)⟩
  ·obtain rfl:i=c0.length:=by omega
   rw [List.drop_length] at hp
   obtain rfl:ys=pls c1 c0:=hp
   exact⟨rfl,(),[.id 0,.id 1,.id 2,.id 3,.id 4,.id 5,.id 6,.id 7,.id 8,.id 9,.id 10,.id 11,.id 12,.id 13,.id 14,.id 15,.id 16,.id 17],by(exact zC)⟩
 have ny:=noids_c (pls c1 c0)
 refine zE cxo1_ok ?_
 rw [kz_6]
 (refine zN5 @lb0 @lb1 @xb0 @xb1 @xc ?_)
 (refine zR ?_)
 exact⟨trivial,rfl,.int .i64 0,orX5 most (pls c1 c0).length (e1++e0).length c2.length e2.length c3.length e3.length c4.length e4.length c5.length e5.length (encL cell (pls c1 c0)) (encL (cI .i64) (e1++e0)) (encL cell c2) (encL (cI .i64) e2) (encL cell c3) (encL (cI .i64) e3) (encL cell c4) (encL (cI .i64) e4) (encL cell c5) (encL (cI .i64) e5),[.id 0,.id 1,.id 2,.drop 1 0 0,.id 17,.id 19,.id 7,.id 8,.id 9,.id 10,.id 11,.id 12,.id 13,.id 14],⟨rfl,hr,rfl⟩,by rw [lv]; (exact zD)⟩
theorem okeep_ok (most:Int) (ls:List Lv):SFun prog 51 [.ptr 0 0] (mkS (orS most ls.length (encLs ls) [])) fun l t=>l=.int .i64 (clE ls)∧t=mkS (orN most (kpL ls).length (encLs (kpL ls))):=by
 refine or_move (nt:=78) (L:=kpS) (ts:=[2]) (by kernel_rfl) rfl rfl (by kernel_rfl) rfl fun h=>Ls.cases h ?_ ?_ ?_ ?_ ?_ ?_
 ·intro x0 e; subst e; exact okeep_1 most x0.1 x0.2 h
 ·intro x0 x1 e; subst e; exact okeep_2 most x0.1 x0.2 x1.1 x1.2 h
 ·intro x0 x1 x2 e; subst e; exact okeep_3 most x0.1 x0.2 x1.1 x1.2 x2.1 x2.2 h
 ·intro x0 x1 x2 x3 e; subst e; exact okeep_4 most x0.1 x0.2 x1.1 x1.2 x2.1 x2.2 x3.1 x3.2 h
 ·intro x0 x1 x2 x3 x4 e; subst e; exact okeep_5 most x0.1 x0.2 x1.1 x1.2 x2.1 x2.2 x3.1 x3.2 x4.1 x4.2 h
 ·intro x0 x1 x2 x3 x4 x5 e; subst e; exact okeep_6 most x0.1 x0.2 x1.1 x1.2 x2.1 x2.2 x3.1 x3.2 x4.1 x4.2 x5.1 x5.2 h
theorem okeep_c (most:Int) (d:Nat) (cs:List LV) (k1:okR most cs d=true):SFun prog 51 [.ptr 0 0] (mkS (orS most d cs [])) fun l t=>l=.int .i64 (lkeepE cs)∧t=mkS (orN most (lkeepD cs) (lkeepC cs)):=by
 obtain⟨ls,rfl,rfl,h,h1,h2⟩:=okR_iff.1 k1
 simp only [lkeepE,lkeepD,lkeepC,decLs_enc]
 exact okeep_ok most ls
def okeepG:Gc:=fun args s=>match args,s.g with
 | [.ptr b 0],[]=>(match s.h.get b with
   | some (.cells [.int .i64 most,.slo o 0 d 0] none)=>(match s.h.get o with
     | some (.obj F_o cs e)=>(match s.h.get e with
       | some (.dead)=>cond (nodupB [b,o,e]) (match s.lay [b,o,e] [.cells [.int .i64 most,.slo s.n 0 (lkeepD cs) 0] none,.dead,.dead] [.obj orF (lkeepC cs) (Nat.succ s.n),.dead] with
         | some s'=>some ([okR most cs d,isF F_o orF],.int .i64 (lkeepE cs),s')
         | none=>none) none
       | _=>none)
     | _=>none)
   | _=>none)
 | _,_=>none
theorem okeepG_ok:GOk prog 51 okeepG:=by
 intro args s bs l s' hg hb hfr
 unfold okeepG at hg
 split at hg
 ·rename_i b hgl
  split at hg
  ·rename_i most o d hb0
   split at hg
   ·rename_i F_o cs e hb1
    split at hg
    ·rename_i  hb2
     cases hbc:nodupB [b,o,e] with
     | false=>rw [hbc] at hg; cases hg
     | true =>
       rw [hbc] at hg
       simp only [cond_true] at hg
       split at hg
       ·rename_i s1 hs1
        simp only [Option.some.injEq,Prod.mk.injEq] at hg
        obtain⟨rfl,rfl,rfl⟩:=hg
        simp only [allT_cons] at hb
        obtain⟨k1,k2,_⟩:=hb
        have e_o:=isF_eq k2
        subst e_o
        refine SFun.lay (bs:=[.cells [.int .i64 most,.slo 1 0 d 0] none,.obj orF cs 2,.dead]) (args0:=[.ptr 0 0]) (bs':=[.cells [.int .i64 most,.slo 3 0 (lkeepD cs) 0] none,.dead,.dead,.obj orF (lkeepC cs) 4,.dead]) (v0:=.int .i64 (lkeepE cs)) hfr hs1 (nodupB_nd hbc)
         ⟨⟨there hfr hb0,_,hb0,by first | exact lb_same rfl | exact lb_cells (lws_cons (lw_int) (lws_cons (lw_slo rfl) lws_nil)) (by simp),fun κ hκ=>lb_cells (lws_cons (lw_int) (lws_cons (lw_slo (hκ 1 o rfl)) lws_nil)) (by simp)⟩,⟨there hfr hb1,_,hb1,lb_obj rfl,fun κ hκ=>lb_obj (hκ 2 e rfl)⟩,⟨there hfr hb2,_,hb2,lb_dead,fun κ hκ=>lb_dead⟩,trivial⟩ (by(exact zTl)) ?_
         fun κ h1 h2=>⟨⟨lb_cells (lws_cons (lw_int) (lws_cons (lw_slo (h2 0 (by simp))) lws_nil)) (by simp),lb_dead,lb_dead,lb_obj (h2 1 (by simp)),lb_dead,trivial⟩,lw_int⟩
        rw [hgl]; exact(okeep_c most d cs k1)
       ·cases hg
    ·cases hg
   ·cases hg
  ·cases hg
 ·cases hg
theorem okR_enc {most:Int} {ls:List Lv} (h:OkLs ls) (h1:(totC ls:Int)≤most) (h2:most≤96):okR most (encLs ls) ls.length=true:=okR_iff.2 ⟨ls,rfl,rfl,h,h1,h2⟩
theorem tk1 (most:Int) (y:CL) (f:List Int) (r:List Lv) (a v:Int):tkE most ((y,f)::r) [(a,v)]=wPe (most - totC r) y a∧tkC most ((y,f)::r) [(a,v)]=(wPc (most - totC r) y a v,f)::r :=
 ⟨wT1e _ _ _ _,by simp only [tkC,inm,outs,wT1c]⟩
abbrev otO (most:Int) (d:Nat) (cs c:List LV):List LB:=[.cells [.int .i64 most,.slo 4 0 d 0] none,.dead,.dead,.cells c (some 2),.obj orF cs 5,.dead]
theorem otake_ok (most:Int) (cs:CL) (hcs:cs.length≤800000) (ls:List Lv) (h:OkLs ls) (hm:(totC ls:Int)≤most) (hm2:most≤96):SFun prog 69 [.ptr 0 0,.slo 3 0 cs.length 0] (mkS (otI most ls.length (encLs ls) (encL cell cs))) fun l t=>l=.int .i64 (tkE most ls cs)∧t=mkS (otO most (tkC most ls cs).length (encLs (tkC most ls cs)) (encL cell cs)):=by
 cases ls with
 | nil=>exact absurd rfl h.ne
 | cons x r =>
 refine SFun.mono (SFun.pieces (Q:=fun l b=>l=.int .i64 (tkE most (x::r) cs)∧b=otO most (tkC most (x::r) cs).length (encLs (tkC most (x::r) cs)) (encL cell cs)) 38 4 otL [4] (by kernel_rfl) rfl rfl rfl ?_) fun l s' ⟨b0,⟨h1,h2⟩,h3⟩=>⟨h1,by rw [h3,h2]⟩
 have ncs:=noids_c cs; have lcs:=cell_n cs
 have fo:=isF_self orF
 have ok0:=okR_enc h hm hm2
 refine SSp.to cxo2_ok (n:=60) (g:=[]) 3 3 rfl (σ:=Unit) (fun _=>otT cs.length 0) (fun _=>otH most (x::r).length (encLs (x::r)) (encL cell cs) (x::r).length (encLs (x::r))) (mkS_le (Nat.le_of_ble_eq_true rfl)) (by kernel_rfl) ?_ fun _=>?_
 ·rw [ot_a,ok0,fo]
  exact⟨rfl,(),[.id 0,.id 1,.id 2,.id 3,.id 7,.id 4,.id 5,.id 6],by(exact zC)⟩
 refine SSp.code_to (g:=[]) 4 rfl (σ:={ys:CL // wTk (most - totC r) x.1 cs=(0,ys)}) (fun _=>otT cs.length cs.length) (fun ys=>otH most (x::r).length (encLs (x::r)) (encL cell cs) (r.length+1) (encLs ((ys.1,x.2)::r))) (by kernel_rfl) ?_ fun⟨ys,he⟩=>?_
 ·refine SCode.loop_vc cxo2_ok (n:=60) 0 (by kernel_rfl) (σ:={p:Nat×CL // p.1≤cs.length∧wTk (most - totC r) x.1 cs=wTk (most - totC r) p.2 (cs.drop p.1)∧OkLs ((p.2,x.2)::r)∧(totC ((p.2,x.2)::r):Int)≤most}) (fun p=>otT cs.length p.1.1) (fun p=>otH most (x::r).length (encLs (x::r)) (encL cell cs) (r.length+1) (encLs ((p.1.2,x.2)::r))) (fun p=>cs.length - p.1.1) (fun _=>Nat.le_of_ble_eq_true rfl) (fun⟨⟨i,ys⟩,hi,he,ho,ht⟩=>?_) ⟨(0,x.1),Nat.zero_le _,rfl,h,hm⟩
  dsimp only at hi he ho ht ⊢
  have oky:okR most (encLs ((ys,x.2)::r)) (r.length+1)=true:=okR_enc ho ht hm2
  rw [ot_b]; simp only [ot_b_b1]; rw [wd_lss]
  refine ite_way (fun hk=>?_) (fun hk=>?_)
  ·have i3:xar .add .i64 (i:Int) 1=((i+1:Nat):Int):=inc_i64 hk (by omega)
   have st:=wTk_drop (most - totC r) ys cs i hk
   obtain⟨t1,t2⟩:=tk1 most ys x.2 r cs[i].1 cs[i].2
   obtain⟨g1,g2⟩:=tkC_ok ho ht hm2 [(cs[i].1,cs[i].2)]
   simp only [wd_nat,wd_asV,wd_isV,wd_ix,wd_add,wd_mul,wd_ln,Nat.zero_add,Nat.mul_one,wd_isI,wd_asI,wd_isB,wd_asB,wd_nn,cI_tlen,cB_tlen,cII_tlen,decide_true,cond_true,wd_not_t,wd_not_f,wd_and_t,wd_and_f,Nat.add_assoc,Nat.reduceAdd,cell_0 hk,cell_1 hk,lcs,i3,oky,fo,lpE,lpD,lpC,decLs_enc,t1,t2]
   by_cases hz:wPe (most - totC r) ys cs[i].1=0
   ·have e5:wPc (most - totC r) ys cs[i].1 cs[i].2=pl ys (cs[i].1,cs[i].2):=by rw [wPc,if_pos hz]
    rw [t2,e5] at g1 g2
    simp only [e5]
    (refine zR ?_)
    exact⟨rfl,⟨(i+1,pl ys cs[i]),hk,by rw [he,st,if_pos hz],g1,g2⟩,by simp only; omega,[.id 0,.id 1,.id 2,.id 3,.id 4,.id 5,.id 6,.id 8],by(exact zC)⟩
   ·have e6:wTk (most - totC r) x.1 cs=(wPe (most - totC r) ys cs[i].1,ys):=by rw [he,st,if_neg hz]
    have e7:tkE most (x::r) cs=wPe (most - totC r) ys cs[i].1:=by show(wTk (most - totC r) x.1 cs).1=_; rw [e6]
    have e8:tkC most (x::r) cs=x::r:=by show(wTc (most - totC r) x.1 cs,x.2)::r=_; rw [wTc,e6,if_neg hz]
    (refine zR ?_)
    exact⟨trivial,rfl,.int .i64 (wPe (most - totC r) ys cs[i].1),otO most (x::r).length (encLs (x::r)) (encL cell cs),[.id 0,.id 1,.id 2,.id 3,.id 1,.id 4],⟨by rw [e7],by rw [e8]⟩,by(exact zC)⟩
  ·obtain rfl:i=cs.length:=by omega
   exact⟨rfl,⟨ys,by rw [he,List.drop_length,wTk]⟩,[.id 0,.id 1,.id 2,.id 3,.id 4,.id 5,.id 6,.id 7],by(exact zC)⟩
 refine zE cxo2_ok ?_
 have e7:tkE most (x::r) cs=0:=by show(wTk (most - totC r) x.1 cs).1=_; rw [he]
 have e8:tkC most (x::r) cs=(ys,x.2)::r:=by show(wTc (most - totC r) x.1 cs,x.2)::r=_; rw [wTc,he,if_pos rfl]
 rw [ot_z]
 exact⟨trivial,rfl,.int .i64 0,otO most (r.length+1) (encLs ((ys,x.2)::r)) (encL cell cs),[.id 0,.id 1,.id 2,.id 3,.id 6,.id 7],⟨by rw [e7],by rw [e8]; rfl⟩,by(exact zC)⟩
theorem otake_c (most:Int) (d nc:Nat) (cs c:List LV) (k1:okR most cs d=true) (k2:okC c nc=true) (k3:xle nc 800000=true):SFun prog 69 [.ptr 0 0,.slo 3 0 nc 0] (mkS (otI most d cs c)) fun l t=>l=.int .i64 (ltE most cs c)∧t=mkS (otO most (ltD most cs c) (ltC most cs c) c):=by
 obtain⟨ls,rfl,rfl,h,h1,h2⟩:=okR_iff.1 k1
 obtain⟨xs,rfl,rfl,_⟩:=okC_iff.1 k2
 rw [wd_le,decide_eq_true_eq] at k3
 simp only [ltE,ltD,ltC,decLs_enc,decC_enc]
 exact otake_ok most xs k3 ls h h1 h2
def otakeG:Gc:=fun args s=>match args,s.g with
 | [.ptr b 0,.slo r 0 nc 0],[]=>(match s.h.get b with
   | some (.cells [.int .i64 most,.slo o 0 d 0] none)=>(match s.h.get o with
     | some (.obj F_o cs e)=>(match s.h.get e with
       | some (.dead)=>(match s.h.get r with
         | some (.cells c (some 2))=>cond (nodupB [b,o,e,r]) (match s.lay [b,o,e,r] [.cells [.int .i64 most,.slo s.n 0 (ltD most cs c) 0] none,.dead,.dead,.cells c (some 2)] [.obj orF (ltC most cs c) (Nat.succ s.n),.dead] with
           | some s'=>some ([okR most cs d,okC c nc,xle nc 800000,isF F_o orF],.int .i64 (ltE most cs c),s')
           | none=>none) none
         | _=>none)
       | _=>none)
     | _=>none)
   | _=>none)
 | _,_=>none
theorem otakeG_ok:GOk prog 69 otakeG:=by
 intro args s bs l s' hg hb hfr
 unfold otakeG at hg
 split at hg
 ·rename_i b r nc hgl
  split at hg
  ·rename_i most o d hb0
   split at hg
   ·rename_i F_o cs e hb1
    split at hg
    ·rename_i  hb2
     split at hg
     ·rename_i c hb3
      cases hbc:nodupB [b,o,e,r] with
      | false=>rw [hbc] at hg; cases hg
      | true =>
        rw [hbc] at hg
        simp only [cond_true] at hg
        split at hg
        ·rename_i s1 hs1
         simp only [Option.some.injEq,Prod.mk.injEq] at hg
         obtain⟨rfl,rfl,rfl⟩:=hg
         simp only [allT_cons] at hb
         obtain⟨k1,k2,k3,k4,_⟩:=hb
         have e_o:=isF_eq k4
         subst e_o
         have no:noIds c=true:=noids_ok k2
         refine SFun.lay (bs:=[.cells [.int .i64 most,.slo 1 0 d 0] none,.obj orF cs 2,.dead,.cells c (some 2)]) (args0:=[.ptr 0 0,.slo 3 0 nc 0]) (bs':=[.cells [.int .i64 most,.slo 4 0 (ltD most cs c) 0] none,.dead,.dead,.cells c (some 2),.obj orF (ltC most cs c) 5,.dead]) (v0:=.int .i64 (ltE most cs c)) hfr hs1 (nodupB_nd hbc)
          ⟨⟨there hfr hb0,_,hb0,by first | exact lb_same rfl | exact lb_cells (lws_cons (lw_int) (lws_cons (lw_slo rfl) lws_nil)) (by simp),fun κ hκ=>lb_cells (lws_cons (lw_int) (lws_cons (lw_slo (hκ 1 o rfl)) lws_nil)) (by simp)⟩,⟨there hfr hb1,_,hb1,lb_obj rfl,fun κ hκ=>lb_obj (hκ 2 e rfl)⟩,⟨there hfr hb2,_,hb2,lb_dead,fun κ hκ=>lb_dead⟩,⟨there hfr hb3,_,hb3,lb_same (by(exact zId)),fun κ hκ=>lb_same (by(exact zId))⟩,trivial⟩ (by(exact zTl)) ?_
          fun κ h1 h2=>⟨⟨lb_cells (lws_cons (lw_int) (lws_cons (lw_slo (h2 0 (by simp))) lws_nil)) (by simp),lb_dead,lb_dead,lb_same (by(exact zId)),lb_obj (h2 1 (by simp)),lb_dead,trivial⟩,lw_int⟩
         rw [hgl]; exact(otake_c most d nc cs c k1 k2 k3)
        ·cases hg
     ·cases hg
    ·cases hg
   ·cases hg
  ·cases hg
 ·cases hg
end
end Go.Lev
