/- chapter 9: the code's levels: Open, Drop, Keep -/
import Derived.Test.YtopbikapcboigaaCW10
import Derived.Test.YtopbikapcboigaaLc
import Derived.Test.YtopbikapcboigaaChecked
import Derived.KernelRfl
namespace Go.Lev
set_option linter.unusedSimpArgs false
set_option linter.unusedVariables false
open Go.RowKit
open Go.Proofs.Try (prog)
set_option maxRecDepth 100000
noncomputable section
theorem ints_app:∀ (xs ys:List Int),encL (cI .i64) (xs++ys)=encL (cI .i64) xs++encL (cI .i64) ys
 | [],ys=>rfl
 | x::r,ys=>by simp only [List.cons_append,encL,ints_app r ys,List.append_assoc]
theorem ints_all {xs:List Int} {n:Nat} (h:xs.length≤n):xcut (encL (cI .i64) xs) 0 n=encL (cI .i64) xs:=xcut_all (by rw [encIi64_len]; exact h)
theorem ints_cat2 {xs ys:List Int}:xcat (encL (cI .i64) xs) (encL (cI .i64) ys)=encL (cI .i64) (xs++ys):=by rw [ints_app]; rfl
theorem cxl4_ok:CtrOk prog (ctrOf cxl4):=cxl_ok ⟨wnewG_ok,wtakeG_ok,cloneCell_ok,trivial⟩
theorem ints_cat (xs ys:List Int):xcat (xcut (encL (cI .i64) xs) 0 xs.length) (xcut (encL (cI .i64) ys) 0 ys.length)=encL (cI .i64) (xs++ys):=by
 rw [xcut_all (by rw [encIi64_len]; omega),xcut_all (by rw [encIi64_len]; omega),ints_app]; rfl
theorem lopen_1 (most:Int) (x0:Lv) (h:OkLs [x0]):SSp prog 19 ((sp prog 78).drop 0) 3 (tm0 [.ptr 0 0]) (mkS (lvU most [x0] [])) (vK [2] (endK 3 [2] [2] [] (lvP most (opL [x0]) (.int .i64 (opE [x0]))))):=by
 have hr:=(opL_ok h).1
 refine zE cxl4_ok ?_
 show xsp _ _ _ _ _ _ (mkS (at1 (lvH1 most) x0)) _
 rw [lo_1]
 exact⟨trivial,rfl,.int .i64 0,lvX2 most 0 0 x0.1.length x0.2.length [] [] (encL cell x0.1) (encL (cI .i64) x0.2),[.id 0,.id 1,.id 2,.id 11,.id 9,.id 7,.id 8,.none,.id 3,.id 4,.id 5,.id 6],⟨rfl,hr,rfl⟩,by(exact zC)⟩
theorem ldrop_1 (most:Int) (x0:Lv) (h:OkLs [x0]):SSp prog 23 ((sp prog 81).drop 0) 3 (tm0 [.ptr 0 0]) (mkS (lvU most [x0] [])) (vK [2] (endK 3 [2] [2] [] (lvP most (drL [x0]) (.int .i64 (clE [x0]))))):=by
 have hr:=(drL_ok h).1
 refine zE cxl4_ok ?_
 show xsp _ _ _ _ _ _ (mkS (at1 (lvH1 most) x0)) _
 rw [ld_1]
 exact⟨trivial,rfl,.int .i64 10,at1 (lvX1 most) x0,[.id 0,.id 1,.id 2,.id 1,.id 3,.id 4,.id 5,.id 6],⟨rfl,hr,rfl⟩,by(exact zC)⟩
theorem lkeep_1 (most:Int) (x0:Lv) (h:OkLs [x0]):SSp prog 37 ((sp prog 79).drop 0) 3 (tm0 [.ptr 0 0]) (mkS (lvU most [x0] [])) (vK [2] (endK 3 [2] [2] [] (lvP most (kpL [x0]) (.int .i64 (clE [x0]))))):=by
 have hr:=(kpL_ok h).1
 refine zE cxl4_ok ?_
 show xsp _ _ _ _ _ _ (mkS (at1 (lvH1 most) x0)) _
 rw [lk_1]
 exact⟨trivial,rfl,.int .i64 10,at1 (lvX1 most) x0,[.id 0,.id 1,.id 2,.id 1,.id 3,.id 4,.id 5,.id 6],⟨rfl,hr,rfl⟩,by(exact zC)⟩
theorem lopen_2 (most:Int) (x0 x1:Lv) (h:OkLs [x0,x1]):SSp prog 19 ((sp prog 78).drop 0) 3 (tm0 [.ptr 0 0]) (mkS (lvU most [x0,x1] [])) (vK [2] (endK 3 [2] [2] [] (lvP most (opL [x0,x1]) (.int .i64 (opE [x0,x1]))))):=by
 have hr:=(opL_ok h).1
 refine zE cxl4_ok ?_
 show xsp _ _ _ _ _ _ (mkS (at2 (lvH2 most) x0 x1)) _
 rw [lo_2]
 exact⟨trivial,rfl,.int .i64 0,lvX3 most 0 0 x0.1.length x0.2.length x1.1.length x1.2.length [] [] (encL cell x0.1) (encL (cI .i64) x0.2) (encL cell x1.1) (encL (cI .i64) x1.2),[.id 0,.id 1,.id 2,.id 15,.id 13,.id 11,.id 12,.none,.id 3,.id 4,.id 5,.id 6,.id 7,.id 8,.id 9,.id 10],⟨rfl,hr,rfl⟩,by(exact zC)⟩
theorem ldrop_2 (most:Int) (x0 x1:Lv) (h:OkLs [x0,x1]):SSp prog 23 ((sp prog 81).drop 0) 3 (tm0 [.ptr 0 0]) (mkS (lvU most [x0,x1] [])) (vK [2] (endK 3 [2] [2] [] (lvP most (drL [x0,x1]) (.int .i64 (clE [x0,x1]))))):=by
 have hr:=(drL_ok h).1
 refine zE cxl4_ok ?_
 show xsp _ _ _ _ _ _ (mkS (at2 (lvH2 most) x0 x1)) _
 rw [ld_2]
 exact⟨trivial,rfl,.int .i64 0,at1 (lvX1 most) x1,[.id 0,.id 1,.id 2,.drop 1 0 0,.id 7,.id 8,.id 9,.id 10],⟨rfl,hr,rfl⟩,by(exact zD)⟩
theorem lkeep_2 (most:Int) (x0 x1:Lv) (h:OkLs [x0,x1]):SSp prog 37 ((sp prog 79).drop 0) 3 (tm0 [.ptr 0 0]) (mkS (lvU most [x0,x1] [])) (vK [2] (endK 3 [2] [2] [] (lvP most (kpL [x0,x1]) (.int .i64 (clE [x0,x1]))))):=by
 have hr:=(kpL_ok h).1
 refine zE cxl4_ok ?_
 show xsp _ _ _ _ _ _ (mkS (at2 (lvH2 most) x0 x1)) _
 rw [lk_2]
 have hc:=h.c; have hf:=h.f; simp only [totC] at hc; simp only [totF] at hf
 have ok0:=okC_e x0.1 (by omega); have le0:=le_e x0.1 (by omega)
 have ok1:=okC_e x1.1 (by omega); have le1:=le_e x1.1 (by omega)
 have l0:=cell_n x0.1; have xn:=xnoid_c x0.1; have ew:wTc 96 x1.1 x0.1=pls x1.1 x0.1:=wTc_pls (h.uq x0 (by simp)).2 (by omega)
 have nw:=noids_c (pls x1.1 x0.1)
 have nv:=noIds_Ii64 (x1.2++x0.2)
 have lv:(x1.2++x0.2).length=x1.2.length+x0.2.length:=List.length_append
 simp only [ok0,ok1,xn,wtN,wtC,decC_enc,ew]
 (refine zN3 @encIi64_len @l0 @ints_cat ?_)
 (refine zR ?_)
 exact⟨trivial,rfl,.int .i64 0,lvX1 most (pls x1.1 x0.1).length (x1.2++x0.2).length  (encL cell (pls x1.1 x0.1)) (encL (cI .i64) (x1.2++x0.2)) ,[.id 0,.id 1,.id 2,.drop 1 0 0,.id 7,.id 8,.id 12,.id 13],⟨rfl,hr,rfl⟩,by rw [lv]; (exact zD)⟩
theorem lopen_3 (most:Int) (x0 x1 x2:Lv) (h:OkLs [x0,x1,x2]):SSp prog 19 ((sp prog 78).drop 0) 3 (tm0 [.ptr 0 0]) (mkS (lvU most [x0,x1,x2] [])) (vK [2] (endK 3 [2] [2] [] (lvP most (opL [x0,x1,x2]) (.int .i64 (opE [x0,x1,x2]))))):=by
 have hr:=(opL_ok h).1
 refine zE cxl4_ok ?_
 show xsp _ _ _ _ _ _ (mkS (at3 (lvH3 most) x0 x1 x2)) _
 rw [lo_3]
 exact⟨trivial,rfl,.int .i64 0,lvX4 most 0 0 x0.1.length x0.2.length x1.1.length x1.2.length x2.1.length x2.2.length [] [] (encL cell x0.1) (encL (cI .i64) x0.2) (encL cell x1.1) (encL (cI .i64) x1.2) (encL cell x2.1) (encL (cI .i64) x2.2),[.id 0,.id 1,.id 2,.id 19,.id 17,.id 15,.id 16,.none,.id 3,.id 4,.id 5,.id 6,.id 7,.id 8,.id 9,.id 10,.id 11,.id 12,.id 13,.id 14],⟨rfl,hr,rfl⟩,by(exact zC)⟩
theorem ldrop_3 (most:Int) (x0 x1 x2:Lv) (h:OkLs [x0,x1,x2]):SSp prog 23 ((sp prog 81).drop 0) 3 (tm0 [.ptr 0 0]) (mkS (lvU most [x0,x1,x2] [])) (vK [2] (endK 3 [2] [2] [] (lvP most (drL [x0,x1,x2]) (.int .i64 (clE [x0,x1,x2]))))):=by
 have hr:=(drL_ok h).1
 refine zE cxl4_ok ?_
 show xsp _ _ _ _ _ _ (mkS (at3 (lvH3 most) x0 x1 x2)) _
 rw [ld_3]
 exact⟨trivial,rfl,.int .i64 0,at2 (lvX2 most) x1 x2,[.id 0,.id 1,.id 2,.drop 1 0 0,.id 7,.id 8,.id 9,.id 10,.id 11,.id 12,.id 13,.id 14],⟨rfl,hr,rfl⟩,by(exact zD)⟩
theorem lkeep_3 (most:Int) (x0 x1 x2:Lv) (h:OkLs [x0,x1,x2]):SSp prog 37 ((sp prog 79).drop 0) 3 (tm0 [.ptr 0 0]) (mkS (lvU most [x0,x1,x2] [])) (vK [2] (endK 3 [2] [2] [] (lvP most (kpL [x0,x1,x2]) (.int .i64 (clE [x0,x1,x2]))))):=by
 have hr:=(kpL_ok h).1
 refine zE cxl4_ok ?_
 show xsp _ _ _ _ _ _ (mkS (at3 (lvH3 most) x0 x1 x2)) _
 rw [lk_3]
 have hc:=h.c; have hf:=h.f; simp only [totC] at hc; simp only [totF] at hf
 have ok0:=okC_e x0.1 (by omega); have le0:=le_e x0.1 (by omega)
 have ok1:=okC_e x1.1 (by omega); have le1:=le_e x1.1 (by omega)
 have l0:=cell_n x0.1; have xn:=xnoid_c x0.1; have ew:wTc 96 x1.1 x0.1=pls x1.1 x0.1:=wTc_pls (h.uq x0 (by simp)).2 (by omega)
 have nw:=noids_c (pls x1.1 x0.1)
 have nv:=noIds_Ii64 (x1.2++x0.2)
 have lv:(x1.2++x0.2).length=x1.2.length+x0.2.length:=List.length_append
 simp only [ok0,ok1,xn,wtN,wtC,decC_enc,ew]
 (refine zN3 @encIi64_len @l0 @ints_cat ?_)
 (refine zR ?_)
 exact⟨trivial,rfl,.int .i64 0,lvX2 most (pls x1.1 x0.1).length (x1.2++x0.2).length x2.1.length x2.2.length (encL cell (pls x1.1 x0.1)) (encL (cI .i64) (x1.2++x0.2)) (encL cell x2.1) (encL (cI .i64) x2.2),[.id 0,.id 1,.id 2,.drop 1 0 0,.id 7,.id 8,.id 16,.id 17,.id 11,.id 12,.id 13,.id 14],⟨rfl,hr,rfl⟩,by rw [lv]; (exact zD)⟩
theorem lopen_4 (most:Int) (x0 x1 x2 x3:Lv) (h:OkLs [x0,x1,x2,x3]):SSp prog 19 ((sp prog 78).drop 0) 3 (tm0 [.ptr 0 0]) (mkS (lvU most [x0,x1,x2,x3] [])) (vK [2] (endK 3 [2] [2] [] (lvP most (opL [x0,x1,x2,x3]) (.int .i64 (opE [x0,x1,x2,x3]))))):=by
 have hr:=(opL_ok h).1
 refine zE cxl4_ok ?_
 show xsp _ _ _ _ _ _ (mkS (at4 (lvH4 most) x0 x1 x2 x3)) _
 rw [lo_4]
 exact⟨trivial,rfl,.int .i64 0,lvX5 most 0 0 x0.1.length x0.2.length x1.1.length x1.2.length x2.1.length x2.2.length x3.1.length x3.2.length [] [] (encL cell x0.1) (encL (cI .i64) x0.2) (encL cell x1.1) (encL (cI .i64) x1.2) (encL cell x2.1) (encL (cI .i64) x2.2) (encL cell x3.1) (encL (cI .i64) x3.2),[.id 0,.id 1,.id 2,.id 23,.id 21,.id 19,.id 20,.none,.id 3,.id 4,.id 5,.id 6,.id 7,.id 8,.id 9,.id 10,.id 11,.id 12,.id 13,.id 14,.id 15,.id 16,.id 17,.id 18],⟨rfl,hr,rfl⟩,by(exact zC)⟩
theorem ldrop_4 (most:Int) (x0 x1 x2 x3:Lv) (h:OkLs [x0,x1,x2,x3]):SSp prog 23 ((sp prog 81).drop 0) 3 (tm0 [.ptr 0 0]) (mkS (lvU most [x0,x1,x2,x3] [])) (vK [2] (endK 3 [2] [2] [] (lvP most (drL [x0,x1,x2,x3]) (.int .i64 (clE [x0,x1,x2,x3]))))):=by
 have hr:=(drL_ok h).1
 refine zE cxl4_ok ?_
 show xsp _ _ _ _ _ _ (mkS (at4 (lvH4 most) x0 x1 x2 x3)) _
 rw [ld_4]
 exact⟨trivial,rfl,.int .i64 0,at3 (lvX3 most) x1 x2 x3,[.id 0,.id 1,.id 2,.drop 1 0 0,.id 7,.id 8,.id 9,.id 10,.id 11,.id 12,.id 13,.id 14,.id 15,.id 16,.id 17,.id 18],⟨rfl,hr,rfl⟩,by(exact zD)⟩
theorem lkeep_4 (most:Int) (x0 x1 x2 x3:Lv) (h:OkLs [x0,x1,x2,x3]):SSp prog 37 ((sp prog 79).drop 0) 3 (tm0 [.ptr 0 0]) (mkS (lvU most [x0,x1,x2,x3] [])) (vK [2] (endK 3 [2] [2] [] (lvP most (kpL [x0,x1,x2,x3]) (.int .i64 (clE [x0,x1,x2,x3]))))):=by
 have hr:=(kpL_ok h).1
 refine zE cxl4_ok ?_
 show xsp _ _ _ _ _ _ (mkS (at4 (lvH4 most) x0 x1 x2 x3)) _
 rw [lk_4]
 have hc:=h.c; have hf:=h.f; simp only [totC] at hc; simp only [totF] at hf
 have ok0:=okC_e x0.1 (by omega); have le0:=le_e x0.1 (by omega)
 have ok1:=okC_e x1.1 (by omega); have le1:=le_e x1.1 (by omega)
 have l0:=cell_n x0.1; have xn:=xnoid_c x0.1; have ew:wTc 96 x1.1 x0.1=pls x1.1 x0.1:=wTc_pls (h.uq x0 (by simp)).2 (by omega)
 have nw:=noids_c (pls x1.1 x0.1)
 have nv:=noIds_Ii64 (x1.2++x0.2)
 have lv:(x1.2++x0.2).length=x1.2.length+x0.2.length:=List.length_append
 simp only [ok0,ok1,xn,wtN,wtC,decC_enc,ew]
 (refine zN3 @encIi64_len @l0 @ints_cat ?_)
 (refine zR ?_)
 exact⟨trivial,rfl,.int .i64 0,lvX3 most (pls x1.1 x0.1).length (x1.2++x0.2).length x2.1.length x2.2.length x3.1.length x3.2.length (encL cell (pls x1.1 x0.1)) (encL (cI .i64) (x1.2++x0.2)) (encL cell x2.1) (encL (cI .i64) x2.2) (encL cell x3.1) (encL (cI .i64) x3.2),[.id 0,.id 1,.id 2,.drop 1 0 0,.id 7,.id 8,.id 20,.id 21,.id 11,.id 12,.id 13,.id 14,.id 15,.id 16,.id 17,.id 18],⟨rfl,hr,rfl⟩,by rw [lv]; (exact zD)⟩
theorem lopen_5 (most:Int) (x0 x1 x2 x3 x4:Lv) (h:OkLs [x0,x1,x2,x3,x4]):SSp prog 19 ((sp prog 78).drop 0) 3 (tm0 [.ptr 0 0]) (mkS (lvU most [x0,x1,x2,x3,x4] [])) (vK [2] (endK 3 [2] [2] [] (lvP most (opL [x0,x1,x2,x3,x4]) (.int .i64 (opE [x0,x1,x2,x3,x4]))))):=by
 have hr:=(opL_ok h).1
 refine zE cxl4_ok ?_
 show xsp _ _ _ _ _ _ (mkS (at5 (lvH5 most) x0 x1 x2 x3 x4)) _
 rw [lo_5]
 exact⟨trivial,rfl,.int .i64 0,lvX6 most 0 0 x0.1.length x0.2.length x1.1.length x1.2.length x2.1.length x2.2.length x3.1.length x3.2.length x4.1.length x4.2.length [] [] (encL cell x0.1) (encL (cI .i64) x0.2) (encL cell x1.1) (encL (cI .i64) x1.2) (encL cell x2.1) (encL (cI .i64) x2.2) (encL cell x3.1) (encL (cI .i64) x3.2) (encL cell x4.1) (encL (cI .i64) x4.2),[.id 0,.id 1,.id 2,.id 27,.id 25,.id 23,.id 24,.none,.id 3,.id 4,.id 5,.id 6,.id 7,.id 8,.id 9,.id 10,.id 11,.id 12,.id 13,.id 14,.id 15,.id 16,.id 17,.id 18,.id 19,.id 20,.id 21,.id 22],⟨rfl,hr,rfl⟩,by(exact zC)⟩
theorem ldrop_5 (most:Int) (x0 x1 x2 x3 x4:Lv) (h:OkLs [x0,x1,x2,x3,x4]):SSp prog 23 ((sp prog 81).drop 0) 3 (tm0 [.ptr 0 0]) (mkS (lvU most [x0,x1,x2,x3,x4] [])) (vK [2] (endK 3 [2] [2] [] (lvP most (drL [x0,x1,x2,x3,x4]) (.int .i64 (clE [x0,x1,x2,x3,x4]))))):=by
 have hr:=(drL_ok h).1
 refine zE cxl4_ok ?_
 show xsp _ _ _ _ _ _ (mkS (at5 (lvH5 most) x0 x1 x2 x3 x4)) _
 rw [ld_5]
 exact⟨trivial,rfl,.int .i64 0,at4 (lvX4 most) x1 x2 x3 x4,[.id 0,.id 1,.id 2,.drop 1 0 0,.id 7,.id 8,.id 9,.id 10,.id 11,.id 12,.id 13,.id 14,.id 15,.id 16,.id 17,.id 18,.id 19,.id 20,.id 21,.id 22],⟨rfl,hr,rfl⟩,by(exact zD)⟩
theorem lkeep_5 (most:Int) (x0 x1 x2 x3 x4:Lv) (h:OkLs [x0,x1,x2,x3,x4]):SSp prog 37 ((sp prog 79).drop 0) 3 (tm0 [.ptr 0 0]) (mkS (lvU most [x0,x1,x2,x3,x4] [])) (vK [2] (endK 3 [2] [2] [] (lvP most (kpL [x0,x1,x2,x3,x4]) (.int .i64 (clE [x0,x1,x2,x3,x4]))))):=by
 have hr:=(kpL_ok h).1
 refine zE cxl4_ok ?_
 show xsp _ _ _ _ _ _ (mkS (at5 (lvH5 most) x0 x1 x2 x3 x4)) _
 rw [lk_5]
 have hc:=h.c; have hf:=h.f; simp only [totC] at hc; simp only [totF] at hf
 have ok0:=okC_e x0.1 (by omega); have le0:=le_e x0.1 (by omega)
 have ok1:=okC_e x1.1 (by omega); have le1:=le_e x1.1 (by omega)
 have l0:=cell_n x0.1; have xn:=xnoid_c x0.1; have ew:wTc 96 x1.1 x0.1=pls x1.1 x0.1:=wTc_pls (h.uq x0 (by simp)).2 (by omega)
 have nw:=noids_c (pls x1.1 x0.1)
 have nv:=noIds_Ii64 (x1.2++x0.2)
 have lv:(x1.2++x0.2).length=x1.2.length+x0.2.length:=List.length_append
 simp only [ok0,ok1,xn,wtN,wtC,decC_enc,ew]
 (refine zN3 @encIi64_len @l0 @ints_cat ?_)
 (refine zR ?_)
 exact⟨trivial,rfl,.int .i64 0,lvX4 most (pls x1.1 x0.1).length (x1.2++x0.2).length x2.1.length x2.2.length x3.1.length x3.2.length x4.1.length x4.2.length (encL cell (pls x1.1 x0.1)) (encL (cI .i64) (x1.2++x0.2)) (encL cell x2.1) (encL (cI .i64) x2.2) (encL cell x3.1) (encL (cI .i64) x3.2) (encL cell x4.1) (encL (cI .i64) x4.2),[.id 0,.id 1,.id 2,.drop 1 0 0,.id 7,.id 8,.id 24,.id 25,.id 11,.id 12,.id 13,.id 14,.id 15,.id 16,.id 17,.id 18,.id 19,.id 20,.id 21,.id 22],⟨rfl,hr,rfl⟩,by rw [lv]; (exact zD)⟩
theorem lopen_6 (most:Int) (x0 x1 x2 x3 x4 x5:Lv) (h:OkLs [x0,x1,x2,x3,x4,x5]):SSp prog 19 ((sp prog 78).drop 0) 3 (tm0 [.ptr 0 0]) (mkS (lvU most [x0,x1,x2,x3,x4,x5] [])) (vK [2] (endK 3 [2] [2] [] (lvP most (opL [x0,x1,x2,x3,x4,x5]) (.int .i64 (opE [x0,x1,x2,x3,x4,x5]))))):=by
 have hr:=(opL_ok h).1
 refine zE cxl4_ok ?_
 show xsp _ _ _ _ _ _ (mkS (at6 (lvH6 most) x0 x1 x2 x3 x4 x5)) _
 rw [lo_6]
 exact⟨trivial,rfl,.int .i64 9,at6 (lvX6 most) x0 x1 x2 x3 x4 x5,[.id 0,.id 1,.id 2,.id 1,.id 3,.id 4,.id 5,.id 6,.id 7,.id 8,.id 9,.id 10,.id 11,.id 12,.id 13,.id 14,.id 15,.id 16,.id 17,.id 18,.id 19,.id 20,.id 21,.id 22,.id 23,.id 24,.id 25,.id 26],⟨rfl,hr,rfl⟩,by(exact zC)⟩
theorem ldrop_6 (most:Int) (x0 x1 x2 x3 x4 x5:Lv) (h:OkLs [x0,x1,x2,x3,x4,x5]):SSp prog 23 ((sp prog 81).drop 0) 3 (tm0 [.ptr 0 0]) (mkS (lvU most [x0,x1,x2,x3,x4,x5] [])) (vK [2] (endK 3 [2] [2] [] (lvP most (drL [x0,x1,x2,x3,x4,x5]) (.int .i64 (clE [x0,x1,x2,x3,x4,x5]))))):=by
 have hr:=(drL_ok h).1
 refine zE cxl4_ok ?_
 show xsp _ _ _ _ _ _ (mkS (at6 (lvH6 most) x0 x1 x2 x3 x4 x5)) _
 rw [ld_6]
 exact⟨trivial,rfl,.int .i64 0,at5 (lvX5 most) x1 x2 x3 x4 x5,[.id 0,.id 1,.id 2,.drop 1 0 0,.id 7,.id 8,.id 9,.id 10,.id 11,.id 12,.id 13,.id 14,.id 15,.id 16,.id 17,.id 18,.id 19,.id 20,.id 21,.id 22,.id 23,.id 24,.id 25,.id 26],⟨rfl,hr,rfl⟩,by(exact zD)⟩
theorem lkeep_6 (most:Int) (x0 x1 x2 x3 x4 x5:Lv) (h:OkLs [x0,x1,x2,x3,x4,x5]):SSp prog 37 ((sp prog 79).drop 0) 3 (tm0 [.ptr 0 0]) (mkS (lvU most [x0,x1,x2,x3,x4,x5] [])) (vK [2] (endK 3 [2] [2] [] (lvP most (kpL [x0,x1,x2,x3,x4,x5]) (.int .i64 (clE [x0,x1,x2,x3,x4,x5]))))):=by
 have hr:=(kpL_ok h).1
 refine zE cxl4_ok ?_
 show xsp _ _ _ _ _ _ (mkS (at6 (lvH6 most) x0 x1 x2 x3 x4 x5)) _
 rw [lk_6]
 have hc:=h.c; have hf:=h.f; simp only [totC] at hc; simp only [totF] at hf
 have ok0:=okC_e x0.1 (by omega); have le0:=le_e x0.1 (by omega)
 have ok1:=okC_e x1.1 (by omega); have le1:=le_e x1.1 (by omega)
 have l0:=cell_n x0.1; have xn:=xnoid_c x0.1; have ew:wTc 96 x1.1 x0.1=pls x1.1 x0.1:=wTc_pls (h.uq x0 (by simp)).2 (by omega)
 have nw:=noids_c (pls x1.1 x0.1)
 have nv:=noIds_Ii64 (x1.2++x0.2)
 have lv:(x1.2++x0.2).length=x1.2.length+x0.2.length:=List.length_append
 simp only [ok0,ok1,xn,wtN,wtC,decC_enc,ew]
 (refine zN3 @encIi64_len @l0 @ints_cat ?_)
 (refine zR ?_)
 exact⟨trivial,rfl,.int .i64 0,lvX5 most (pls x1.1 x0.1).length (x1.2++x0.2).length x2.1.length x2.2.length x3.1.length x3.2.length x4.1.length x4.2.length x5.1.length x5.2.length (encL cell (pls x1.1 x0.1)) (encL (cI .i64) (x1.2++x0.2)) (encL cell x2.1) (encL (cI .i64) x2.2) (encL cell x3.1) (encL (cI .i64) x3.2) (encL cell x4.1) (encL (cI .i64) x4.2) (encL cell x5.1) (encL (cI .i64) x5.2),[.id 0,.id 1,.id 2,.drop 1 0 0,.id 7,.id 8,.id 28,.id 29,.id 11,.id 12,.id 13,.id 14,.id 15,.id 16,.id 17,.id 18,.id 19,.id 20,.id 21,.id 22,.id 23,.id 24,.id 25,.id 26],⟨rfl,hr,rfl⟩,by rw [lv]; (exact zD)⟩
theorem lopen_ok (most:Int) (ls:List Lv):SFun prog 78 [.ptr 0 0] (mkS (lvS most ls.length (encLs ls) [])) fun l t=>l=.int .i64 (opE ls)∧t=mkS (lvN most (opL ls).length (encLs (opL ls))):=by
 refine lv_move (nt:=19) (L:=[2]) (ts:=[2]) (by kernel_rfl) rfl rfl (by kernel_rfl) rfl fun h=>Ls.cases h ?_ ?_ ?_ ?_ ?_ ?_
 ·intro x0 e; subst e; exact lopen_1 most x0 h
 ·intro x0 x1 e; subst e; exact lopen_2 most x0 x1 h
 ·intro x0 x1 x2 e; subst e; exact lopen_3 most x0 x1 x2 h
 ·intro x0 x1 x2 x3 e; subst e; exact lopen_4 most x0 x1 x2 x3 h
 ·intro x0 x1 x2 x3 x4 e; subst e; exact lopen_5 most x0 x1 x2 x3 x4 h
 ·intro x0 x1 x2 x3 x4 x5 e; subst e; exact lopen_6 most x0 x1 x2 x3 x4 x5 h
def lopenE (cs:List LV):Int:=opE (decLs cs)
def lopenD (cs:List LV):Nat:=(opL (decLs cs)).length
def lopenC (cs:List LV):List LV:=encLs (opL (decLs cs))
theorem lopen_c (most:Int) (d:Nat) (cs:List LV) (k1:okR most cs d=true):SFun prog 78 [.ptr 0 0] (mkS (lvS most d cs [])) fun l t=>l=.int .i64 (lopenE cs)∧t=mkS (lvN most (lopenD cs) (lopenC cs)):=by
 obtain⟨ls,rfl,rfl,h,h1,h2⟩:=okR_iff.1 k1
 simp only [lopenE,lopenD,lopenC,decLs_enc]
 exact lopen_ok most ls
def lopenG:Gc:=fun args s=>match args,s.g with
 | [.ptr b 0],[]=>(match s.h.get b with
   | some (.cells [.int .i64 most,.slo o 0 d 0] none)=>(match s.h.get o with
     | some (.obj F_o cs e)=>(match s.h.get e with
       | some (.dead)=>cond (nodupB [b,o,e]) (match s.lay [b,o,e] [.cells [.int .i64 most,.slo s.n 0 (lopenD cs) 0] none,.dead,.dead] [.obj lvF (lopenC cs) (Nat.succ s.n),.dead] with
         | some s'=>some ([okR most cs d,isF F_o lvF],.int .i64 (lopenE cs),s')
         | none=>none) none
       | _=>none)
     | _=>none)
   | _=>none)
 | _,_=>none
theorem lopenG_ok:GOk prog 78 lopenG:=by
 intro args s bs l s' hg hb hfr
 unfold lopenG at hg
 split at hg
 ·rename_i b hgl
  split at hg
  ·rename_i most o d hb0
   split at hg
   ·rename_i F_o cs e hb1
    split at hg
    ·rename_i  hb2
     cases hbc:nodupB [b,o,e] with
     | false=>rw [hbc] at hg; cases hg
     | true =>
       rw [hbc] at hg
       simp only [cond_true] at hg
       split at hg
       ·rename_i s1 hs1
        simp only [Option.some.injEq,Prod.mk.injEq] at hg
        obtain⟨rfl,rfl,rfl⟩:=hg
        simp only [allT_cons] at hb
        obtain⟨k1,k2,_⟩:=hb
        have e_o:=isF_eq k2
        subst e_o
        refine SFun.lay (bs:=[.cells [.int .i64 most,.slo 1 0 d 0] none,.obj lvF cs 2,.dead]) (args0:=[.ptr 0 0]) (bs':=[.cells [.int .i64 most,.slo 3 0 (lopenD cs) 0] none,.dead,.dead,.obj lvF (lopenC cs) 4,.dead]) (v0:=.int .i64 (lopenE cs)) hfr hs1 (nodupB_nd hbc)
         ⟨⟨there hfr hb0,_,hb0,by first | exact lb_same rfl | exact lb_cells (lws_cons (lw_int) (lws_cons (lw_slo rfl) lws_nil)) (by simp),fun κ hκ=>lb_cells (lws_cons (lw_int) (lws_cons (lw_slo (hκ 1 o rfl)) lws_nil)) (by simp)⟩,⟨there hfr hb1,_,hb1,lb_obj rfl,fun κ hκ=>lb_obj (hκ 2 e rfl)⟩,⟨there hfr hb2,_,hb2,lb_dead,fun κ hκ=>lb_dead⟩,trivial⟩ (by(exact zTl)) ?_
         fun κ h1 h2=>⟨⟨lb_cells (lws_cons (lw_int) (lws_cons (lw_slo (h2 0 (by simp))) lws_nil)) (by simp),lb_dead,lb_dead,lb_obj (h2 1 (by simp)),lb_dead,trivial⟩,lw_int⟩
        rw [hgl]; exact(lopen_c most d cs k1)
       ·cases hg
    ·cases hg
   ·cases hg
  ·cases hg
 ·cases hg
theorem ldrop_ok (most:Int) (ls:List Lv):SFun prog 81 [.ptr 0 0] (mkS (lvS most ls.length (encLs ls) [])) fun l t=>l=.int .i64 (clE ls)∧t=mkS (lvN most (drL ls).length (encLs (drL ls))):=by
 refine lv_move (nt:=23) (L:=[2]) (ts:=[2]) (by kernel_rfl) rfl rfl (by kernel_rfl) rfl fun h=>Ls.cases h ?_ ?_ ?_ ?_ ?_ ?_
 ·intro x0 e; subst e; exact ldrop_1 most x0 h
 ·intro x0 x1 e; subst e; exact ldrop_2 most x0 x1 h
 ·intro x0 x1 x2 e; subst e; exact ldrop_3 most x0 x1 x2 h
 ·intro x0 x1 x2 x3 e; subst e; exact ldrop_4 most x0 x1 x2 x3 h
 ·intro x0 x1 x2 x3 x4 e; subst e; exact ldrop_5 most x0 x1 x2 x3 x4 h
 ·intro x0 x1 x2 x3 x4 x5 e; subst e; exact ldrop_6 most x0 x1 x2 x3 x4 x5 h
def ldropE (cs:List LV):Int:=clE (decLs cs)
def ldropD (cs:List LV):Nat:=(drL (decLs cs)).length
def ldropC (cs:List LV):List LV:=encLs (drL (decLs cs))
theorem ldrop_c (most:Int) (d:Nat) (cs:List LV) (k1:okR most cs d=true):SFun prog 81 [.ptr 0 0] (mkS (lvS most d cs [])) fun l t=>l=.int .i64 (ldropE cs)∧t=mkS (lvN most (ldropD cs) (ldropC cs)):=by
 obtain⟨ls,rfl,rfl,h,h1,h2⟩:=okR_iff.1 k1
 simp only [ldropE,ldropD,ldropC,decLs_enc]
 exact ldrop_ok most ls
def ldropG:Gc:=fun args s=>match args,s.g with
 | [.ptr b 0],[]=>(match s.h.get b with
   | some (.cells [.int .i64 most,.slo o 0 d 0] none)=>(match s.h.get o with
     | some (.obj F_o cs e)=>(match s.h.get e with
       | some (.dead)=>cond (nodupB [b,o,e]) (match s.lay [b,o,e] [.cells [.int .i64 most,.slo s.n 0 (ldropD cs) 0] none,.dead,.dead] [.obj lvF (ldropC cs) (Nat.succ s.n),.dead] with
         | some s'=>some ([okR most cs d,isF F_o lvF],.int .i64 (ldropE cs),s')
         | none=>none) none
       | _=>none)
     | _=>none)
   | _=>none)
 | _,_=>none
theorem ldropG_ok:GOk prog 81 ldropG:=by
 intro args s bs l s' hg hb hfr
 unfold ldropG at hg
 split at hg
 ·rename_i b hgl
  split at hg
  ·rename_i most o d hb0
   split at hg
   ·rename_i F_o cs e hb1
    split at hg
    ·rename_i  hb2
     cases hbc:nodupB [b,o,e] with
     | false=>rw [hbc] at hg; cases hg
     | true =>
       rw [hbc] at hg
       simp only [cond_true] at hg
       split at hg
       ·rename_i s1 hs1
        simp only [Option.some.injEq,Prod.mk.injEq] at hg
        obtain⟨rfl,rfl,rfl⟩:=hg
        simp only [allT_cons] at hb
        obtain⟨k1,k2,_⟩:=hb
        have e_o:=isF_eq k2
        subst e_o
        refine SFun.lay (bs:=[.cells [.int .i64 most,.slo 1 0 d 0] none,.obj lvF cs 2,.dead]) (args0:=[.ptr 0 0]) (bs':=[.cells [.int .i64 most,.slo 3 0 (ldropD cs) 0] none,.dead,.dead,.obj lvF (ldropC cs) 4,.dead]) (v0:=.int .i64 (ldropE cs)) hfr hs1 (nodupB_nd hbc)
         ⟨⟨there hfr hb0,_,hb0,by first | exact lb_same rfl | exact lb_cells (lws_cons (lw_int) (lws_cons (lw_slo rfl) lws_nil)) (by simp),fun κ hκ=>lb_cells (lws_cons (lw_int) (lws_cons (lw_slo (hκ 1 o rfl)) lws_nil)) (by simp)⟩,⟨there hfr hb1,_,hb1,lb_obj rfl,fun κ hκ=>lb_obj (hκ 2 e rfl)⟩,⟨there hfr hb2,_,hb2,lb_dead,fun κ hκ=>lb_dead⟩,trivial⟩ (by(exact zTl)) ?_
         fun κ h1 h2=>⟨⟨lb_cells (lws_cons (lw_int) (lws_cons (lw_slo (h2 0 (by simp))) lws_nil)) (by simp),lb_dead,lb_dead,lb_obj (h2 1 (by simp)),lb_dead,trivial⟩,lw_int⟩
        rw [hgl]; exact(ldrop_c most d cs k1)
       ·cases hg
    ·cases hg
   ·cases hg
  ·cases hg
 ·cases hg
theorem lkeep_ok (most:Int) (ls:List Lv):SFun prog 79 [.ptr 0 0] (mkS (lvS most ls.length (encLs ls) [])) fun l t=>l=.int .i64 (clE ls)∧t=mkS (lvN most (kpL ls).length (encLs (kpL ls))):=by
 refine lv_move (nt:=37) (L:=[2]) (ts:=[2]) (by kernel_rfl) rfl rfl (by kernel_rfl) rfl fun h=>Ls.cases h ?_ ?_ ?_ ?_ ?_ ?_
 ·intro x0 e; subst e; exact lkeep_1 most x0 h
 ·intro x0 x1 e; subst e; exact lkeep_2 most x0 x1 h
 ·intro x0 x1 x2 e; subst e; exact lkeep_3 most x0 x1 x2 h
 ·intro x0 x1 x2 x3 e; subst e; exact lkeep_4 most x0 x1 x2 x3 h
 ·intro x0 x1 x2 x3 x4 e; subst e; exact lkeep_5 most x0 x1 x2 x3 x4 h
 ·intro x0 x1 x2 x3 x4 x5 e; subst e; exact lkeep_6 most x0 x1 x2 x3 x4 x5 h
def lkeepE (cs:List LV):Int:=clE (decLs cs)
def lkeepD (cs:List LV):Nat:=(kpL (decLs cs)).length
def lkeepC (cs:List LV):List LV:=encLs (kpL (decLs cs))
theorem lkeep_c (most:Int) (d:Nat) (cs:List LV) (k1:okR most cs d=true):SFun prog 79 [.ptr 0 0] (mkS (lvS most d cs [])) fun l t=>l=.int .i64 (lkeepE cs)∧t=mkS (lvN most (lkeepD cs) (lkeepC cs)):=by
 obtain⟨ls,rfl,rfl,h,h1,h2⟩:=okR_iff.1 k1
 simp only [lkeepE,lkeepD,lkeepC,decLs_enc]
 exact lkeep_ok most ls
def lkeepG:Gc:=fun args s=>match args,s.g with
 | [.ptr b 0],[]=>(match s.h.get b with
   | some (.cells [.int .i64 most,.slo o 0 d 0] none)=>(match s.h.get o with
     | some (.obj F_o cs e)=>(match s.h.get e with
       | some (.dead)=>cond (nodupB [b,o,e]) (match s.lay [b,o,e] [.cells [.int .i64 most,.slo s.n 0 (lkeepD cs) 0] none,.dead,.dead] [.obj lvF (lkeepC cs) (Nat.succ s.n),.dead] with
         | some s'=>some ([okR most cs d,isF F_o lvF],.int .i64 (lkeepE cs),s')
         | none=>none) none
       | _=>none)
     | _=>none)
   | _=>none)
 | _,_=>none
theorem lkeepG_ok:GOk prog 79 lkeepG:=by
 intro args s bs l s' hg hb hfr
 unfold lkeepG at hg
 split at hg
 ·rename_i b hgl
  split at hg
  ·rename_i most o d hb0
   split at hg
   ·rename_i F_o cs e hb1
    split at hg
    ·rename_i  hb2
     cases hbc:nodupB [b,o,e] with
     | false=>rw [hbc] at hg; cases hg
     | true =>
       rw [hbc] at hg
       simp only [cond_true] at hg
       split at hg
       ·rename_i s1 hs1
        simp only [Option.some.injEq,Prod.mk.injEq] at hg
        obtain⟨rfl,rfl,rfl⟩:=hg
        simp only [allT_cons] at hb
        obtain⟨k1,k2,_⟩:=hb
        have e_o:=isF_eq k2
        subst e_o
        refine SFun.lay (bs:=[.cells [.int .i64 most,.slo 1 0 d 0] none,.obj lvF cs 2,.dead]) (args0:=[.ptr 0 0]) (bs':=[.cells [.int .i64 most,.slo 3 0 (lkeepD cs) 0] none,.dead,.dead,.obj lvF (lkeepC cs) 4,.dead]) (v0:=.int .i64 (lkeepE cs)) hfr hs1 (nodupB_nd hbc)
         ⟨⟨there hfr hb0,_,hb0,by first | exact lb_same rfl | exact lb_cells (lws_cons (lw_int) (lws_cons (lw_slo rfl) lws_nil)) (by simp),fun κ hκ=>lb_cells (lws_cons (lw_int) (lws_cons (lw_slo (hκ 1 o rfl)) lws_nil)) (by simp)⟩,⟨there hfr hb1,_,hb1,lb_obj rfl,fun κ hκ=>lb_obj (hκ 2 e rfl)⟩,⟨there hfr hb2,_,hb2,lb_dead,fun κ hκ=>lb_dead⟩,trivial⟩ (by(exact zTl)) ?_
         fun κ h1 h2=>⟨⟨lb_cells (lws_cons (lw_int) (lws_cons (lw_slo (h2 0 (by simp))) lws_nil)) (by simp),lb_dead,lb_dead,lb_obj (h2 1 (by simp)),lb_dead,trivial⟩,lw_int⟩
        rw [hgl]; exact(lkeep_c most d cs k1)
       ·cases hg
    ·cases hg
   ·cases hg
  ·cases hg
 ·cases hg
end
end Go.Lev
