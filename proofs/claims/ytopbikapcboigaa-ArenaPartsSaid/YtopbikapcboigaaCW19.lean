/- chapter 9: the reference's levels: Copy as a contract -/
import Derived.Test.YtopbikapcboigaaCW17
import Derived.Test.YtopbikapcboigaaLc
import Derived.Test.YtopbikapcboigaaChecked
import Derived.KernelRfl
namespace Go.Lev
set_option linter.unusedSimpArgs false
set_option linter.unusedVariables false
open Go.RowKit
open Go.Proofs.Try (prog)
set_option maxRecDepth 100000
noncomputable section
theorem cells_all {xs:CL}:xcut (encL cell xs) 0 (xs.length * 2)=encL cell xs:=xcut_all (by rw [cell_n]; omega)
theorem ints_all1 {xs:List Int}:xcut (encL (cI .i64) xs) 0 xs.length=encL (cI .i64) xs:=ints_all (Nat.le_refl _)
def orCU (most:Int) (ls:List Lv):List LB:=[.cells [.int .i64 most,.slo 1 0 ls.length 0] none,.cells (slos 5 ls).reverse (some 2),.dead,.cells [.int .i64 most,.slo 4 0 ls.length 0] none,.cells (slos (5+2 * ls.length) ls).reverse (some 2)]++hidR 5 ls++hidR (5+2 * ls.length) ls
def cpQ (most:Int) (ls:List Lv):LV→List LB→Prop:=fun l b=>l=.ptr 3 0∧OkLs ls∧b=orCU most ls
abbrev cpZ1 (most:Int) (n0 m0:Nat) (q0 f0:List LV):List LB:=[.cells [.int .i64 most,.slo 1 0 1 0] none,.cells [.slo 5 0 n0 0,.slo 6 0 m0 0] (some 2),.dead,.cells [.int .i64 most,.slo 4 0 1 0] none,.cells [.slo 7 0 n0 0,.slo 8 0 m0 0] (some 2),.cells q0 (some 2),.cells f0 (some 1),.cells q0 (some 2),.cells f0 (some 1)]
theorem ocopy_1 (most:Int) (c0:CL) (e0:List Int) (h:OkLs [(c0,e0)]):SSp prog 49 ((sp prog 83).drop 0) 3 (tm0 [.ptr 0 0]) (mkS (orU most [(c0,e0)] [])) (vK [2] (endK 3 [2] [2] [] (cpQ most [(c0,e0)]))):=by
 have hc:=h.c; have hf:=h.f; simp only [totC] at hc; simp only [totF] at hf
 have nc0:=noids_c c0; have nf0:=noIds_Ii64 e0
 refine zE noCx_ok ?_
 show xsp _ _ _ _ _ _ (mkS (orH1 most c0.length e0.length (encL cell c0) (encL (cI .i64) e0))) _
 rw [cp_1]
 (refine zN4 @cells_all @ints_all1 @cell_n @encIi64_len ?_)
 (refine zR ?_)
 exact⟨trivial,rfl,.ptr 3 0,cpZ1 most c0.length e0.length (encL cell c0) (encL (cI .i64) e0),[.id 0,.id 1,.id 2,.id 5,.id 9,.id 3,.id 4,.id 6,.id 7],⟨rfl,h,rfl⟩,by(exact zC)⟩
abbrev cpZ2 (most:Int) (n0 m0 n1 m1:Nat) (q0 f0 q1 f1:List LV):List LB:=[.cells [.int .i64 most,.slo 1 0 2 0] none,.cells [.slo 7 0 n1 0,.slo 8 0 m1 0,.slo 5 0 n0 0,.slo 6 0 m0 0] (some 2),.dead,.cells [.int .i64 most,.slo 4 0 2 0] none,.cells [.slo 11 0 n1 0,.slo 12 0 m1 0,.slo 9 0 n0 0,.slo 10 0 m0 0] (some 2),.cells q0 (some 2),.cells f0 (some 1),.cells q1 (some 2),.cells f1 (some 1),.cells q0 (some 2),.cells f0 (some 1),.cells q1 (some 2),.cells f1 (some 1)]
theorem ocopy_2 (most:Int) (c0:CL) (e0:List Int) (c1:CL) (e1:List Int) (h:OkLs [(c0,e0),(c1,e1)]):SSp prog 49 ((sp prog 83).drop 0) 3 (tm0 [.ptr 0 0]) (mkS (orU most [(c0,e0),(c1,e1)] [])) (vK [2] (endK 3 [2] [2] [] (cpQ most [(c0,e0),(c1,e1)]))):=by
 have hc:=h.c; have hf:=h.f; simp only [totC] at hc; simp only [totF] at hf
 have nc0:=noids_c c0; have nf0:=noIds_Ii64 e0
 have nc1:=noids_c c1; have nf1:=noIds_Ii64 e1
 refine zE noCx_ok ?_
 show xsp _ _ _ _ _ _ (mkS (orH2 most c0.length e0.length c1.length e1.length (encL cell c0) (encL (cI .i64) e0) (encL cell c1) (encL (cI .i64) e1))) _
 rw [cp_2]
 (refine zN4 @cells_all @ints_all1 @cell_n @encIi64_len ?_)
 (refine zR ?_)
 exact⟨trivial,rfl,.ptr 3 0,cpZ2 most c0.length e0.length c1.length e1.length (encL cell c0) (encL (cI .i64) e0) (encL cell c1) (encL (cI .i64) e1),[.id 0,.id 1,.id 2,.id 7,.id 15,.id 3,.id 4,.id 5,.id 6,.id 12,.id 13,.id 8,.id 9],⟨rfl,h,rfl⟩,by(exact zC)⟩
abbrev cpZ3 (most:Int) (n0 m0 n1 m1 n2 m2:Nat) (q0 f0 q1 f1 q2 f2:List LV):List LB:=[.cells [.int .i64 most,.slo 1 0 3 0] none,.cells [.slo 9 0 n2 0,.slo 10 0 m2 0,.slo 7 0 n1 0,.slo 8 0 m1 0,.slo 5 0 n0 0,.slo 6 0 m0 0] (some 2),.dead,.cells [.int .i64 most,.slo 4 0 3 0] none,.cells [.slo 15 0 n2 0,.slo 16 0 m2 0,.slo 13 0 n1 0,.slo 14 0 m1 0,.slo 11 0 n0 0,.slo 12 0 m0 0] (some 2),.cells q0 (some 2),.cells f0 (some 1),.cells q1 (some 2),.cells f1 (some 1),.cells q2 (some 2),.cells f2 (some 1),.cells q0 (some 2),.cells f0 (some 1),.cells q1 (some 2),.cells f1 (some 1),.cells q2 (some 2),.cells f2 (some 1)]
theorem ocopy_3 (most:Int) (c0:CL) (e0:List Int) (c1:CL) (e1:List Int) (c2:CL) (e2:List Int) (h:OkLs [(c0,e0),(c1,e1),(c2,e2)]):SSp prog 49 ((sp prog 83).drop 0) 3 (tm0 [.ptr 0 0]) (mkS (orU most [(c0,e0),(c1,e1),(c2,e2)] [])) (vK [2] (endK 3 [2] [2] [] (cpQ most [(c0,e0),(c1,e1),(c2,e2)]))):=by
 have hc:=h.c; have hf:=h.f; simp only [totC] at hc; simp only [totF] at hf
 have nc0:=noids_c c0; have nf0:=noIds_Ii64 e0
 have nc1:=noids_c c1; have nf1:=noIds_Ii64 e1
 have nc2:=noids_c c2; have nf2:=noIds_Ii64 e2
 refine zE noCx_ok ?_
 show xsp _ _ _ _ _ _ (mkS (orH3 most c0.length e0.length c1.length e1.length c2.length e2.length (encL cell c0) (encL (cI .i64) e0) (encL cell c1) (encL (cI .i64) e1) (encL cell c2) (encL (cI .i64) e2))) _
 rw [cp_3]
 (refine zN4 @cells_all @ints_all1 @cell_n @encIi64_len ?_)
 (refine zR ?_)
 exact⟨trivial,rfl,.ptr 3 0,cpZ3 most c0.length e0.length c1.length e1.length c2.length e2.length (encL cell c0) (encL (cI .i64) e0) (encL cell c1) (encL (cI .i64) e1) (encL cell c2) (encL (cI .i64) e2),[.id 0,.id 1,.id 2,.id 9,.id 21,.id 3,.id 4,.id 5,.id 6,.id 7,.id 8,.id 18,.id 19,.id 14,.id 15,.id 10,.id 11],⟨rfl,h,rfl⟩,by(exact zC)⟩
abbrev cpZ4 (most:Int) (n0 m0 n1 m1 n2 m2 n3 m3:Nat) (q0 f0 q1 f1 q2 f2 q3 f3:List LV):List LB:=[.cells [.int .i64 most,.slo 1 0 4 0] none,.cells [.slo 11 0 n3 0,.slo 12 0 m3 0,.slo 9 0 n2 0,.slo 10 0 m2 0,.slo 7 0 n1 0,.slo 8 0 m1 0,.slo 5 0 n0 0,.slo 6 0 m0 0] (some 2),.dead,.cells [.int .i64 most,.slo 4 0 4 0] none,.cells [.slo 19 0 n3 0,.slo 20 0 m3 0,.slo 17 0 n2 0,.slo 18 0 m2 0,.slo 15 0 n1 0,.slo 16 0 m1 0,.slo 13 0 n0 0,.slo 14 0 m0 0] (some 2),.cells q0 (some 2),.cells f0 (some 1),.cells q1 (some 2),.cells f1 (some 1),.cells q2 (some 2),.cells f2 (some 1),.cells q3 (some 2),.cells f3 (some 1),.cells q0 (some 2),.cells f0 (some 1),.cells q1 (some 2),.cells f1 (some 1),.cells q2 (some 2),.cells f2 (some 1),.cells q3 (some 2),.cells f3 (some 1)]
theorem ocopy_4 (most:Int) (c0:CL) (e0:List Int) (c1:CL) (e1:List Int) (c2:CL) (e2:List Int) (c3:CL) (e3:List Int) (h:OkLs [(c0,e0),(c1,e1),(c2,e2),(c3,e3)]):SSp prog 49 ((sp prog 83).drop 0) 3 (tm0 [.ptr 0 0]) (mkS (orU most [(c0,e0),(c1,e1),(c2,e2),(c3,e3)] [])) (vK [2] (endK 3 [2] [2] [] (cpQ most [(c0,e0),(c1,e1),(c2,e2),(c3,e3)]))):=by
 have hc:=h.c; have hf:=h.f; simp only [totC] at hc; simp only [totF] at hf
 have nc0:=noids_c c0; have nf0:=noIds_Ii64 e0
 have nc1:=noids_c c1; have nf1:=noIds_Ii64 e1
 have nc2:=noids_c c2; have nf2:=noIds_Ii64 e2
 have nc3:=noids_c c3; have nf3:=noIds_Ii64 e3
 refine zE noCx_ok ?_
 show xsp _ _ _ _ _ _ (mkS (orH4 most c0.length e0.length c1.length e1.length c2.length e2.length c3.length e3.length (encL cell c0) (encL (cI .i64) e0) (encL cell c1) (encL (cI .i64) e1) (encL cell c2) (encL (cI .i64) e2) (encL cell c3) (encL (cI .i64) e3))) _
 rw [cp_4]
 (refine zN4 @cells_all @ints_all1 @cell_n @encIi64_len ?_)
 (refine zR ?_)
 exact⟨trivial,rfl,.ptr 3 0,cpZ4 most c0.length e0.length c1.length e1.length c2.length e2.length c3.length e3.length (encL cell c0) (encL (cI .i64) e0) (encL cell c1) (encL (cI .i64) e1) (encL cell c2) (encL (cI .i64) e2) (encL cell c3) (encL (cI .i64) e3),[.id 0,.id 1,.id 2,.id 11,.id 27,.id 3,.id 4,.id 5,.id 6,.id 7,.id 8,.id 9,.id 10,.id 24,.id 25,.id 20,.id 21,.id 16,.id 17,.id 12,.id 13],⟨rfl,h,rfl⟩,by(exact zC)⟩
abbrev cpZ5 (most:Int) (n0 m0 n1 m1 n2 m2 n3 m3 n4 m4:Nat) (q0 f0 q1 f1 q2 f2 q3 f3 q4 f4:List LV):List LB:=[.cells [.int .i64 most,.slo 1 0 5 0] none,.cells [.slo 13 0 n4 0,.slo 14 0 m4 0,.slo 11 0 n3 0,.slo 12 0 m3 0,.slo 9 0 n2 0,.slo 10 0 m2 0,.slo 7 0 n1 0,.slo 8 0 m1 0,.slo 5 0 n0 0,.slo 6 0 m0 0] (some 2),.dead,.cells [.int .i64 most,.slo 4 0 5 0] none,.cells [.slo 23 0 n4 0,.slo 24 0 m4 0,.slo 21 0 n3 0,.slo 22 0 m3 0,.slo 19 0 n2 0,.slo 20 0 m2 0,.slo 17 0 n1 0,.slo 18 0 m1 0,.slo 15 0 n0 0,.slo 16 0 m0 0] (some 2),.cells q0 (some 2),.cells f0 (some 1),.cells q1 (some 2),.cells f1 (some 1),.cells q2 (some 2),.cells f2 (some 1),.cells q3 (some 2),.cells f3 (some 1),.cells q4 (some 2),.cells f4 (some 1),.cells q0 (some 2),.cells f0 (some 1),.cells q1 (some 2),.cells f1 (some 1),.cells q2 (some 2),.cells f2 (some 1),.cells q3 (some 2),.cells f3 (some 1),.cells q4 (some 2),.cells f4 (some 1)]
theorem ocopy_5 (most:Int) (c0:CL) (e0:List Int) (c1:CL) (e1:List Int) (c2:CL) (e2:List Int) (c3:CL) (e3:List Int) (c4:CL) (e4:List Int) (h:OkLs [(c0,e0),(c1,e1),(c2,e2),(c3,e3),(c4,e4)]):SSp prog 49 ((sp prog 83).drop 0) 3 (tm0 [.ptr 0 0]) (mkS (orU most [(c0,e0),(c1,e1),(c2,e2),(c3,e3),(c4,e4)] [])) (vK [2] (endK 3 [2] [2] [] (cpQ most [(c0,e0),(c1,e1),(c2,e2),(c3,e3),(c4,e4)]))):=by
 have hc:=h.c; have hf:=h.f; simp only [totC] at hc; simp only [totF] at hf
 have nc0:=noids_c c0; have nf0:=noIds_Ii64 e0
 have nc1:=noids_c c1; have nf1:=noIds_Ii64 e1
 have nc2:=noids_c c2; have nf2:=noIds_Ii64 e2
 have nc3:=noids_c c3; have nf3:=noIds_Ii64 e3
 have nc4:=noids_c c4; have nf4:=noIds_Ii64 e4
 refine zE noCx_ok ?_
 show xsp _ _ _ _ _ _ (mkS (orH5 most c0.length e0.length c1.length e1.length c2.length e2.length c3.length e3.length c4.length e4.length (encL cell c0) (encL (cI .i64) e0) (encL cell c1) (encL (cI .i64) e1) (encL cell c2) (encL (cI .i64) e2) (encL cell c3) (encL (cI .i64) e3) (encL cell c4) (encL (cI .i64) e4))) _
 rw [cp_5]
 (refine zN4 @cells_all @ints_all1 @cell_n @encIi64_len ?_)
 (refine zR ?_)
 exact⟨trivial,rfl,.ptr 3 0,cpZ5 most c0.length e0.length c1.length e1.length c2.length e2.length c3.length e3.length c4.length e4.length (encL cell c0) (encL (cI .i64) e0) (encL cell c1) (encL (cI .i64) e1) (encL cell c2) (encL (cI .i64) e2) (encL cell c3) (encL (cI .i64) e3) (encL cell c4) (encL (cI .i64) e4),[.id 0,.id 1,.id 2,.id 13,.id 33,.id 3,.id 4,.id 5,.id 6,.id 7,.id 8,.id 9,.id 10,.id 11,.id 12,.id 30,.id 31,.id 26,.id 27,.id 22,.id 23,.id 18,.id 19,.id 14,.id 15],⟨rfl,h,rfl⟩,by(exact zC)⟩
abbrev cpZ6 (most:Int) (n0 m0 n1 m1 n2 m2 n3 m3 n4 m4 n5 m5:Nat) (q0 f0 q1 f1 q2 f2 q3 f3 q4 f4 q5 f5:List LV):List LB:=[.cells [.int .i64 most,.slo 1 0 6 0] none,.cells [.slo 15 0 n5 0,.slo 16 0 m5 0,.slo 13 0 n4 0,.slo 14 0 m4 0,.slo 11 0 n3 0,.slo 12 0 m3 0,.slo 9 0 n2 0,.slo 10 0 m2 0,.slo 7 0 n1 0,.slo 8 0 m1 0,.slo 5 0 n0 0,.slo 6 0 m0 0] (some 2),.dead,.cells [.int .i64 most,.slo 4 0 6 0] none,.cells [.slo 27 0 n5 0,.slo 28 0 m5 0,.slo 25 0 n4 0,.slo 26 0 m4 0,.slo 23 0 n3 0,.slo 24 0 m3 0,.slo 21 0 n2 0,.slo 22 0 m2 0,.slo 19 0 n1 0,.slo 20 0 m1 0,.slo 17 0 n0 0,.slo 18 0 m0 0] (some 2),.cells q0 (some 2),.cells f0 (some 1),.cells q1 (some 2),.cells f1 (some 1),.cells q2 (some 2),.cells f2 (some 1),.cells q3 (some 2),.cells f3 (some 1),.cells q4 (some 2),.cells f4 (some 1),.cells q5 (some 2),.cells f5 (some 1),.cells q0 (some 2),.cells f0 (some 1),.cells q1 (some 2),.cells f1 (some 1),.cells q2 (some 2),.cells f2 (some 1),.cells q3 (some 2),.cells f3 (some 1),.cells q4 (some 2),.cells f4 (some 1),.cells q5 (some 2),.cells f5 (some 1)]
theorem ocopy_6 (most:Int) (c0:CL) (e0:List Int) (c1:CL) (e1:List Int) (c2:CL) (e2:List Int) (c3:CL) (e3:List Int) (c4:CL) (e4:List Int) (c5:CL) (e5:List Int) (h:OkLs [(c0,e0),(c1,e1),(c2,e2),(c3,e3),(c4,e4),(c5,e5)]):SSp prog 49 ((sp prog 83).drop 0) 3 (tm0 [.ptr 0 0]) (mkS (orU most [(c0,e0),(c1,e1),(c2,e2),(c3,e3),(c4,e4),(c5,e5)] [])) (vK [2] (endK 3 [2] [2] [] (cpQ most [(c0,e0),(c1,e1),(c2,e2),(c3,e3),(c4,e4),(c5,e5)]))):=by
 have hc:=h.c; have hf:=h.f; simp only [totC] at hc; simp only [totF] at hf
 have nc0:=noids_c c0; have nf0:=noIds_Ii64 e0
 have nc1:=noids_c c1; have nf1:=noIds_Ii64 e1
 have nc2:=noids_c c2; have nf2:=noIds_Ii64 e2
 have nc3:=noids_c c3; have nf3:=noIds_Ii64 e3
 have nc4:=noids_c c4; have nf4:=noIds_Ii64 e4
 have nc5:=noids_c c5; have nf5:=noIds_Ii64 e5
 refine zE noCx_ok ?_
 show xsp _ _ _ _ _ _ (mkS (orH6 most c0.length e0.length c1.length e1.length c2.length e2.length c3.length e3.length c4.length e4.length c5.length e5.length (encL cell c0) (encL (cI .i64) e0) (encL cell c1) (encL (cI .i64) e1) (encL cell c2) (encL (cI .i64) e2) (encL cell c3) (encL (cI .i64) e3) (encL cell c4) (encL (cI .i64) e4) (encL cell c5) (encL (cI .i64) e5))) _
 rw [cp_6]
 (refine zN4 @cells_all @ints_all1 @cell_n @encIi64_len ?_)
 (refine zR ?_)
 exact⟨trivial,rfl,.ptr 3 0,cpZ6 most c0.length e0.length c1.length e1.length c2.length e2.length c3.length e3.length c4.length e4.length c5.length e5.length (encL cell c0) (encL (cI .i64) e0) (encL cell c1) (encL (cI .i64) e1) (encL cell c2) (encL (cI .i64) e2) (encL cell c3) (encL (cI .i64) e3) (encL cell c4) (encL (cI .i64) e4) (encL cell c5) (encL (cI .i64) e5),[.id 0,.id 1,.id 2,.id 15,.id 39,.id 3,.id 4,.id 5,.id 6,.id 7,.id 8,.id 9,.id 10,.id 11,.id 12,.id 13,.id 14,.id 36,.id 37,.id 32,.id 33,.id 28,.id 29,.id 24,.id 25,.id 20,.id 21,.id 16,.id 17],⟨rfl,h,rfl⟩,by(exact zC)⟩
theorem blksOf_mkS (bs:List LB) (g:Glb):blksOf (mkS bs g)=somes bs:=by
 refine List.ext_getElem? fun i=>?_
 simp only [blksOf,blksFrom_get,mkS_n,Nat.zero_add,mkS_get,somes_get]
 by_cases h:i < bs.length
 ·rw [if_pos h,List.getElem?_eq_getElem h]; rfl
 ·rw [if_neg h,List.getElem?_eq_none (by omega)]; rfl
abbrev cpA (most:Int) (ls:List Lv):List LB:=[.cells [.int .i64 most,.slo 1 0 ls.length 0] none,.cells (slos 5 ls).reverse (some 2),.dead,.cells [.int .i64 most,.slo 4 0 ls.length 0] none,.cells (slos (5+2 * ls.length) ls).reverse (some 2)]++hidR 5 ls
abbrev cpD (most:Int) (ls:List Lv):List LB:=[.cells [.int .i64 most,.slo 1 0 ls.length 0] none,.cells (slos 5 ls).reverse (some 2),.dead,.cells [.int .i64 most,.slo 4 0 ls.length 0] none,.obj orF (encLs ls) (5+2 * ls.length)]++hidR 5 ls++[.dead]
abbrev cpE (most:Int) (ls:List Lv):List LB:=[.cells [.int .i64 most,.slo 1 0 ls.length 0] none,.cells (slos 6 ls).reverse (some 2),.dead,.cells [.int .i64 most,.slo 4 0 ls.length 0] none,.obj orF (encLs ls) 5,.dead]
theorem cpA_len (most:Int) (ls:List Lv):(cpA most ls).length=5+2 * ls.length:=by simp only [cpA,List.length_append,hidR_len]; rfl
theorem cp_sort (most:Int) {ls:List Lv} (h:OkLs ls):∃ ρ,convOk 3 1 [0] [.ptr 3 0] (somes (cpD most ls)) ρ [(0,.ptr 3 0)] (cpE most ls++hidR 6 ls):=by
 refine Ls.cases h ?_ ?_ ?_ ?_ ?_ ?_
 ·intro x0 e; subst e
  refine⟨[.id 0,.id 1,.id 2,.id 3,.id 4,.id 7,.id 5,.id 6],?_⟩
  show convOk 3 1 [0] [.ptr 3 0] [some (.cells [.int .i64 most,.slo 1 0 1 0] none),some (.cells [.slo 5 0 x0.1.length 0,.slo 6 0 x0.2.length 0] (some 2)),some (.dead),some (.cells [.int .i64 most,.slo 4 0 1 0] none),some (.obj orF (encLs [x0]) 7),some (.cells (encL cell x0.1) (some 2)),some (.cells (encL (cI .i64) x0.2) (some 1)),some (.dead)] _ _ [.cells [.int .i64 most,.slo 1 0 1 0] none,.cells [.slo 6 0 x0.1.length 0,.slo 7 0 x0.2.length 0] (some 2),.dead,.cells [.int .i64 most,.slo 4 0 1 0] none,.obj orF (encLs [x0]) 5,.dead,.cells (encL cell x0.1) (some 2),.cells (encL (cI .i64) x0.2) (some 1)]
  (exact zC)
 ·intro x0 x1 e; subst e
  refine⟨[.id 0,.id 1,.id 2,.id 3,.id 4,.id 9,.id 5,.id 6,.id 7,.id 8],?_⟩
  show convOk 3 1 [0] [.ptr 3 0] [some (.cells [.int .i64 most,.slo 1 0 2 0] none),some (.cells [.slo 7 0 x1.1.length 0,.slo 8 0 x1.2.length 0,.slo 5 0 x0.1.length 0,.slo 6 0 x0.2.length 0] (some 2)),some (.dead),some (.cells [.int .i64 most,.slo 4 0 2 0] none),some (.obj orF (encLs [x0,x1]) 9),some (.cells (encL cell x0.1) (some 2)),some (.cells (encL (cI .i64) x0.2) (some 1)),some (.cells (encL cell x1.1) (some 2)),some (.cells (encL (cI .i64) x1.2) (some 1)),some (.dead)] _ _ [.cells [.int .i64 most,.slo 1 0 2 0] none,.cells [.slo 8 0 x1.1.length 0,.slo 9 0 x1.2.length 0,.slo 6 0 x0.1.length 0,.slo 7 0 x0.2.length 0] (some 2),.dead,.cells [.int .i64 most,.slo 4 0 2 0] none,.obj orF (encLs [x0,x1]) 5,.dead,.cells (encL cell x0.1) (some 2),.cells (encL (cI .i64) x0.2) (some 1),.cells (encL cell x1.1) (some 2),.cells (encL (cI .i64) x1.2) (some 1)]
  (exact zC)
 ·intro x0 x1 x2 e; subst e
  refine⟨[.id 0,.id 1,.id 2,.id 3,.id 4,.id 11,.id 5,.id 6,.id 7,.id 8,.id 9,.id 10],?_⟩
  show convOk 3 1 [0] [.ptr 3 0] [some (.cells [.int .i64 most,.slo 1 0 3 0] none),some (.cells [.slo 9 0 x2.1.length 0,.slo 10 0 x2.2.length 0,.slo 7 0 x1.1.length 0,.slo 8 0 x1.2.length 0,.slo 5 0 x0.1.length 0,.slo 6 0 x0.2.length 0] (some 2)),some (.dead),some (.cells [.int .i64 most,.slo 4 0 3 0] none),some (.obj orF (encLs [x0,x1,x2]) 11),some (.cells (encL cell x0.1) (some 2)),some (.cells (encL (cI .i64) x0.2) (some 1)),some (.cells (encL cell x1.1) (some 2)),some (.cells (encL (cI .i64) x1.2) (some 1)),some (.cells (encL cell x2.1) (some 2)),some (.cells (encL (cI .i64) x2.2) (some 1)),some (.dead)] _ _ [.cells [.int .i64 most,.slo 1 0 3 0] none,.cells [.slo 10 0 x2.1.length 0,.slo 11 0 x2.2.length 0,.slo 8 0 x1.1.length 0,.slo 9 0 x1.2.length 0,.slo 6 0 x0.1.length 0,.slo 7 0 x0.2.length 0] (some 2),.dead,.cells [.int .i64 most,.slo 4 0 3 0] none,.obj orF (encLs [x0,x1,x2]) 5,.dead,.cells (encL cell x0.1) (some 2),.cells (encL (cI .i64) x0.2) (some 1),.cells (encL cell x1.1) (some 2),.cells (encL (cI .i64) x1.2) (some 1),.cells (encL cell x2.1) (some 2),.cells (encL (cI .i64) x2.2) (some 1)]
  (exact zC)
 ·intro x0 x1 x2 x3 e; subst e
  refine⟨[.id 0,.id 1,.id 2,.id 3,.id 4,.id 13,.id 5,.id 6,.id 7,.id 8,.id 9,.id 10,.id 11,.id 12],?_⟩
  show convOk 3 1 [0] [.ptr 3 0] [some (.cells [.int .i64 most,.slo 1 0 4 0] none),some (.cells [.slo 11 0 x3.1.length 0,.slo 12 0 x3.2.length 0,.slo 9 0 x2.1.length 0,.slo 10 0 x2.2.length 0,.slo 7 0 x1.1.length 0,.slo 8 0 x1.2.length 0,.slo 5 0 x0.1.length 0,.slo 6 0 x0.2.length 0] (some 2)),some (.dead),some (.cells [.int .i64 most,.slo 4 0 4 0] none),some (.obj orF (encLs [x0,x1,x2,x3]) 13),some (.cells (encL cell x0.1) (some 2)),some (.cells (encL (cI .i64) x0.2) (some 1)),some (.cells (encL cell x1.1) (some 2)),some (.cells (encL (cI .i64) x1.2) (some 1)),some (.cells (encL cell x2.1) (some 2)),some (.cells (encL (cI .i64) x2.2) (some 1)),some (.cells (encL cell x3.1) (some 2)),some (.cells (encL (cI .i64) x3.2) (some 1)),some (.dead)] _ _ [.cells [.int .i64 most,.slo 1 0 4 0] none,.cells [.slo 12 0 x3.1.length 0,.slo 13 0 x3.2.length 0,.slo 10 0 x2.1.length 0,.slo 11 0 x2.2.length 0,.slo 8 0 x1.1.length 0,.slo 9 0 x1.2.length 0,.slo 6 0 x0.1.length 0,.slo 7 0 x0.2.length 0] (some 2),.dead,.cells [.int .i64 most,.slo 4 0 4 0] none,.obj orF (encLs [x0,x1,x2,x3]) 5,.dead,.cells (encL cell x0.1) (some 2),.cells (encL (cI .i64) x0.2) (some 1),.cells (encL cell x1.1) (some 2),.cells (encL (cI .i64) x1.2) (some 1),.cells (encL cell x2.1) (some 2),.cells (encL (cI .i64) x2.2) (some 1),.cells (encL cell x3.1) (some 2),.cells (encL (cI .i64) x3.2) (some 1)]
  (exact zC)
 ·intro x0 x1 x2 x3 x4 e; subst e
  refine⟨[.id 0,.id 1,.id 2,.id 3,.id 4,.id 15,.id 5,.id 6,.id 7,.id 8,.id 9,.id 10,.id 11,.id 12,.id 13,.id 14],?_⟩
  show convOk 3 1 [0] [.ptr 3 0] [some (.cells [.int .i64 most,.slo 1 0 5 0] none),some (.cells [.slo 13 0 x4.1.length 0,.slo 14 0 x4.2.length 0,.slo 11 0 x3.1.length 0,.slo 12 0 x3.2.length 0,.slo 9 0 x2.1.length 0,.slo 10 0 x2.2.length 0,.slo 7 0 x1.1.length 0,.slo 8 0 x1.2.length 0,.slo 5 0 x0.1.length 0,.slo 6 0 x0.2.length 0] (some 2)),some (.dead),some (.cells [.int .i64 most,.slo 4 0 5 0] none),some (.obj orF (encLs [x0,x1,x2,x3,x4]) 15),some (.cells (encL cell x0.1) (some 2)),some (.cells (encL (cI .i64) x0.2) (some 1)),some (.cells (encL cell x1.1) (some 2)),some (.cells (encL (cI .i64) x1.2) (some 1)),some (.cells (encL cell x2.1) (some 2)),some (.cells (encL (cI .i64) x2.2) (some 1)),some (.cells (encL cell x3.1) (some 2)),some (.cells (encL (cI .i64) x3.2) (some 1)),some (.cells (encL cell x4.1) (some 2)),some (.cells (encL (cI .i64) x4.2) (some 1)),some (.dead)] _ _ [.cells [.int .i64 most,.slo 1 0 5 0] none,.cells [.slo 14 0 x4.1.length 0,.slo 15 0 x4.2.length 0,.slo 12 0 x3.1.length 0,.slo 13 0 x3.2.length 0,.slo 10 0 x2.1.length 0,.slo 11 0 x2.2.length 0,.slo 8 0 x1.1.length 0,.slo 9 0 x1.2.length 0,.slo 6 0 x0.1.length 0,.slo 7 0 x0.2.length 0] (some 2),.dead,.cells [.int .i64 most,.slo 4 0 5 0] none,.obj orF (encLs [x0,x1,x2,x3,x4]) 5,.dead,.cells (encL cell x0.1) (some 2),.cells (encL (cI .i64) x0.2) (some 1),.cells (encL cell x1.1) (some 2),.cells (encL (cI .i64) x1.2) (some 1),.cells (encL cell x2.1) (some 2),.cells (encL (cI .i64) x2.2) (some 1),.cells (encL cell x3.1) (some 2),.cells (encL (cI .i64) x3.2) (some 1),.cells (encL cell x4.1) (some 2),.cells (encL (cI .i64) x4.2) (some 1)]
  (exact zC)
 ·intro x0 x1 x2 x3 x4 x5 e; subst e
  refine⟨[.id 0,.id 1,.id 2,.id 3,.id 4,.id 17,.id 5,.id 6,.id 7,.id 8,.id 9,.id 10,.id 11,.id 12,.id 13,.id 14,.id 15,.id 16],?_⟩
  show convOk 3 1 [0] [.ptr 3 0] [some (.cells [.int .i64 most,.slo 1 0 6 0] none),some (.cells [.slo 15 0 x5.1.length 0,.slo 16 0 x5.2.length 0,.slo 13 0 x4.1.length 0,.slo 14 0 x4.2.length 0,.slo 11 0 x3.1.length 0,.slo 12 0 x3.2.length 0,.slo 9 0 x2.1.length 0,.slo 10 0 x2.2.length 0,.slo 7 0 x1.1.length 0,.slo 8 0 x1.2.length 0,.slo 5 0 x0.1.length 0,.slo 6 0 x0.2.length 0] (some 2)),some (.dead),some (.cells [.int .i64 most,.slo 4 0 6 0] none),some (.obj orF (encLs [x0,x1,x2,x3,x4,x5]) 17),some (.cells (encL cell x0.1) (some 2)),some (.cells (encL (cI .i64) x0.2) (some 1)),some (.cells (encL cell x1.1) (some 2)),some (.cells (encL (cI .i64) x1.2) (some 1)),some (.cells (encL cell x2.1) (some 2)),some (.cells (encL (cI .i64) x2.2) (some 1)),some (.cells (encL cell x3.1) (some 2)),some (.cells (encL (cI .i64) x3.2) (some 1)),some (.cells (encL cell x4.1) (some 2)),some (.cells (encL (cI .i64) x4.2) (some 1)),some (.cells (encL cell x5.1) (some 2)),some (.cells (encL (cI .i64) x5.2) (some 1)),some (.dead)] _ _ [.cells [.int .i64 most,.slo 1 0 6 0] none,.cells [.slo 16 0 x5.1.length 0,.slo 17 0 x5.2.length 0,.slo 14 0 x4.1.length 0,.slo 15 0 x4.2.length 0,.slo 12 0 x3.1.length 0,.slo 13 0 x3.2.length 0,.slo 10 0 x2.1.length 0,.slo 11 0 x2.2.length 0,.slo 8 0 x1.1.length 0,.slo 9 0 x1.2.length 0,.slo 6 0 x0.1.length 0,.slo 7 0 x0.2.length 0] (some 2),.dead,.cells [.int .i64 most,.slo 4 0 6 0] none,.obj orF (encLs [x0,x1,x2,x3,x4,x5]) 5,.dead,.cells (encL cell x0.1) (some 2),.cells (encL (cI .i64) x0.2) (some 1),.cells (encL cell x1.1) (some 2),.cells (encL (cI .i64) x1.2) (some 1),.cells (encL cell x2.1) (some 2),.cells (encL (cI .i64) x2.2) (some 1),.cells (encL cell x3.1) (some 2),.cells (encL (cI .i64) x3.2) (some 1),.cells (encL cell x4.1) (some 2),.cells (encL (cI .i64) x4.2) (some 1),.cells (encL cell x5.1) (some 2),.cells (encL (cI .i64) x5.2) (some 1)]
  (exact zC)
theorem ocopy_ok (most:Int) (ls:List Lv):SFun prog 83 [.ptr 0 0] (mkS (orS most ls.length (encLs ls) [])) fun l t=>l=.ptr 3 0∧t=mkS [.cells [.int .i64 most,.slo 1 0 ls.length 0] none,.obj orF (encLs ls) 6,.dead,.cells [.int .i64 most,.slo 4 0 ls.length 0] none,.obj orF (encLs ls) 5,.dead,.dead]:=by
 have h1:SFun prog 83 [.ptr 0 0] (mkS (orS most ls.length (encLs ls) [])) fun l t=>∃ b0,cpQ most ls l b0∧t=mkS b0:=by
  refine SFun.pieces (Q:=cpQ most ls) 49 3 [2] [2] (by kernel_rfl) rfl rfl rfl ?_
  refine SSp.unpack orK_ok 1 (by kernel_rfl) (Nat.le_refl _) rfl fun⟨ls1,h⟩ e=>?_
  obtain rfl:ls1=ls:=encLs_inj e
  refine Ls.cases h ?_ ?_ ?_ ?_ ?_ ?_
  ·intro x0 e; subst e; exact ocopy_1 most x0.1 x0.2 h
  ·intro x0 x1 e; subst e; exact ocopy_2 most x0.1 x0.2 x1.1 x1.2 h
  ·intro x0 x1 x2 e; subst e; exact ocopy_3 most x0.1 x0.2 x1.1 x1.2 x2.1 x2.2 h
  ·intro x0 x1 x2 x3 e; subst e; exact ocopy_4 most x0.1 x0.2 x1.1 x1.2 x2.1 x2.2 x3.1 x3.2 h
  ·intro x0 x1 x2 x3 x4 e; subst e; exact ocopy_5 most x0.1 x0.2 x1.1 x1.2 x2.1 x2.2 x3.1 x3.2 x4.1 x4.2 h
  ·intro x0 x1 x2 x3 x4 x5 e; subst e; exact ocopy_6 most x0.1 x0.2 x1.1 x1.2 x2.1 x2.2 x3.1 x3.2 x4.1 x4.2 x5.1 x5.2 h
 have h2:SFun prog 83 [.ptr 0 0] (mkS (orS most ls.length (encLs ls) [])) fun l t=>l=.ptr 3 0∧OkLs ls∧t=mkS (cpD most ls):=by
  refine SFun.pack orK_ok 4 h1 fun l t ⟨b0,⟨e1,e2,e3⟩,e4⟩=>⟨⟨ls,e2⟩,cpA most ls,hidR (5+2 * ls.length) ls,by rw [e4,e3]; rfl,by simp [cpA],?_,?_,fun ρ hρ=>⟨?_,?_⟩,e1,e2,?_⟩
  ·rw [cpA_len]; rfl
  ·rw [cpA_len]; rfl
  ·rw [cpA_len] at hρ
   obtain⟨q1,q2⟩:=hidR_re (ρ:=ρ) ls 5 5 fun i hi=>hρ _ (by omega)
   exact bk_cons (lb_cells (lws_cons lw_int (lws_cons (lw_slo (hρ 1 (by omega))) lws_nil)) (by simp)) (bk_cons (lb_cells (lws_rev q2) (by rw [List.mem_reverse]; exact any_slos _ _)) (bk_cons lb_dead (bk_cons (lb_cells (lws_cons lw_int (lws_cons (lw_slo (hρ 4 (by omega))) lws_nil)) (by simp)) (bk_cons lb_dead q1))))
  ·rw [cpA_len] at hρ
   rw [e1]; exact lw_ptr (hρ 3 (by omega))
  ·rw [cpA_len]; rfl
 have h3:SFun prog 83 [.ptr 0 0] (mkS (orS most ls.length (encLs ls) [])) fun l t=>l=.ptr 3 0∧OkLs ls∧t=mkS (cpE most ls++hidR 6 ls):=by
  refine SFun.conv h2 fun l t ⟨e1,e2,e3⟩=>?_
  obtain⟨ρ,k⟩:=cp_sort most e2
  subst e1 e3
  refine⟨.ptr 3 0,_,ρ,⟨rfl,e2,rfl⟩,?_⟩
  rw [blksOf_mkS]; exact k
 refine SFun.pack orK_ok 1 h3 fun l t ⟨e1,e2,e3⟩=>⟨⟨ls,e2⟩,cpE most ls,hidR 6 ls,e3,by simp [cpE],rfl,rfl,fun ρ hρ=>⟨?_,?_⟩,e1,rfl⟩
 ·exact bk_cons (lb_cells (lws_cons lw_int (lws_cons (lw_slo (hρ 1 (by simp [cpE]))) lws_nil)) (by simp)) (bk_cons lb_dead (bk_cons lb_dead (bk_cons (lb_cells (lws_cons lw_int (lws_cons (lw_slo (hρ 4 (by simp [cpE]))) lws_nil)) (by simp)) (bk_cons (lb_obj (hρ 5 (by simp [cpE]))) (bk_cons lb_dead bk_nil)))))
 ·rw [e1]; exact lw_ptr (hρ 3 (by simp [cpE]))
theorem ocopy_c (most:Int) (d:Nat) (cs:List LV) (k1:okR most cs d=true):SFun prog 83 [.ptr 0 0] (mkS (orS most d cs [])) fun l t=>l=.ptr 3 0∧t=mkS [.cells [.int .i64 most,.slo 1 0 d 0] none,.obj orF cs 6,.dead,.cells [.int .i64 most,.slo 4 0 d 0] none,.obj orF cs 5,.dead,.dead]:=by
 obtain⟨ls,rfl,rfl,h,h1,h2⟩:=okR_iff.1 k1
 exact ocopy_ok most ls
def ocopyG:Gc:=fun args s=>match args,s.g with
 | [.ptr b 0],[]=>(match s.h.get b with
   | some (.cells [.int .i64 most,.slo o 0 d 0] none)=>(match s.h.get o with
     | some (.obj F_o cs e)=>(match s.h.get e with
       | some (.dead)=>cond (nodupB [b,o,e]) (match s.lay [b,o,e] [.cells [.int .i64 most,.slo o 0 d 0] none,.obj orF cs (Nat.succ (Nat.succ (Nat.succ s.n))),.dead] [.cells [.int .i64 most,.slo (Nat.succ s.n) 0 d 0] none,.obj orF cs (Nat.succ (Nat.succ s.n)),.dead,.dead] with
         | some s'=>some ([okR most cs d,isF F_o orF],.ptr s.n 0,s')
         | none=>none) none
       | _=>none)
     | _=>none)
   | _=>none)
 | _,_=>none
theorem ocopyG_ok:GOk prog 83 ocopyG:=by
 intro args s bs l s' hg hb hfr
 unfold ocopyG at hg
 split at hg
 ·rename_i b hgl
  split at hg
  ·rename_i most o d hb0
   split at hg
   ·rename_i F_o cs e hb1
    split at hg
    ·rename_i  hb2
     cases hbc:nodupB [b,o,e] with
     | false=>rw [hbc] at hg; cases hg
     | true =>
       rw [hbc] at hg
       simp only [cond_true] at hg
       split at hg
       ·rename_i s1 hs1
        simp only [Option.some.injEq,Prod.mk.injEq] at hg
        obtain⟨rfl,rfl,rfl⟩:=hg
        simp only [allT_cons] at hb
        obtain⟨k1,k2,_⟩:=hb
        have e_o:=isF_eq k2
        subst e_o
        refine SFun.lay (bs:=[.cells [.int .i64 most,.slo 1 0 d 0] none,.obj orF cs 2,.dead]) (args0:=[.ptr 0 0]) (bs':=[.cells [.int .i64 most,.slo 1 0 d 0] none,.obj orF cs 6,.dead,.cells [.int .i64 most,.slo 4 0 d 0] none,.obj orF cs 5,.dead,.dead]) (v0:=.ptr 3 0) hfr hs1 (nodupB_nd hbc)
         ⟨⟨there hfr hb0,_,hb0,by first | exact lb_same rfl | exact lb_cells (lws_cons (lw_int) (lws_cons (lw_slo rfl) lws_nil)) (by simp),fun κ hκ=>lb_cells (lws_cons (lw_int) (lws_cons (lw_slo (hκ 1 o rfl)) lws_nil)) (by simp)⟩,⟨there hfr hb1,_,hb1,lb_obj rfl,fun κ hκ=>lb_obj (hκ 2 e rfl)⟩,⟨there hfr hb2,_,hb2,lb_dead,fun κ hκ=>lb_dead⟩,trivial⟩ (by(exact zTl)) ?_
         fun κ h1 h2=>⟨⟨lb_cells (lws_cons (lw_int) (lws_cons (lw_slo (h1 1 o rfl)) lws_nil)) (by simp),lb_obj (h2 3 (by simp)),lb_dead,lb_cells (lws_cons (lw_int) (lws_cons (lw_slo (h2 1 (by simp))) lws_nil)) (by simp),lb_obj (h2 2 (by simp)),lb_dead,lb_dead,trivial⟩,lw_ptr (h2 0 (by simp))⟩
        rw [hgl]; exact(ocopy_c most d cs k1)
       ·cases hg
    ·cases hg
   ·cases hg
  ·cases hg
 ·cases hg
end
end Go.Lev
