/- chapter 9: the code's levels: Cells, Frees, New -/
import Derived.Test.YtopbikapcboigaaCW11
import Derived.Test.YtopbikapcboigaaLc
import Derived.Test.YtopbikapcboigaaChecked
import Derived.KernelRfl
namespace Go.Lev
set_option linter.unusedSimpArgs false
set_option linter.unusedVariables false
open Go.RowKit
open Go.Proofs.Try (prog)
set_option maxRecDepth 100000
noncomputable section
theorem lc_1 (most:Int) (n0 m0:Nat) (q0 f0:List LV) (K:Pk):(xsp prog cxl4 60 26 ((sp prog 64).drop 0) (tm0 [.ptr 0 0]) (mkS (lvH1 most n0 m0 q0 f0)) (vK [2] K))=(
 ck (xle n0 1000000) <|
 ck (xeq (xln q0) (xmul n0 2)) <|
 ck (xnoid q0) <|
 ck (okC [] 0) <|
 ck (okC q0 n0) <|
 ck (xle (xadd 0 n0) 900000) <|
 ck (xle (wtN 96 [] q0) 1000000) <|
 ck (xeq (xln (wtC 96 [] q0)) (xmul (wtN 96 [] q0) 2)) <|
 ck (xnoid (wtC 96 [] q0)) <|
 K .ret [.slo 11 0 (wtN 96 [] q0) 0] (sN [.int .i64 most,.slo 1 0 1 0]::sC [.ptr 3 0] 1::sD::bL 4 n0 m0 q0 f0 [sN [.int .i64 96,.slo 10 0 (wtN 96 [] q0) 0],sD,sC q0 2,sC (wtC 96 [] q0) 2,sC (wtC 96 [] q0) 2]) []):=by kernel_rfl
theorem lc_2 (most:Int) (n0 m0 n1 m1:Nat) (q0 f0 q1 f1:List LV) (K:Pk):(xsp prog cxl4 60 26 ((sp prog 64).drop 0) (tm0 [.ptr 0 0]) (mkS (lvH2 most n0 m0 n1 m1 q0 f0 q1 f1)) (vK [2] K))=(
 ck (xle n1 1000000) <|
 ck (xeq (xln q1) (xmul n1 2)) <|
 ck (xnoid q1) <|
 ck (okC [] 0) <|
 ck (okC q1 n1) <|
 ck (xle (xadd 0 n1) 900000) <|
 ck (xle n0 1000000) <|
 ck (xeq (xln q0) (xmul n0 2)) <|
 ck (xnoid q0) <|
 ck (okC (wtC 96 [] q1) (wtN 96 [] q1)) <|
 ck (okC q0 n0) <|
 ck (xle (xadd (wtN 96 [] q1) n0) 900000) <|
 ck (xle (wtN 96 (wtC 96 [] q1) q0) 1000000) <|
 ck (xeq (xln (wtC 96 (wtC 96 [] q1) q0)) (xmul (wtN 96 (wtC 96 [] q1) q0) 2)) <|
 ck (xnoid (wtC 96 (wtC 96 [] q1) q0)) <|
 K .ret [.slo 17 0 (wtN 96 (wtC 96 [] q1) q0) 0] (sN [.int .i64 most,.slo 1 0 2 0]::sC [.ptr 7 0,.ptr 3 0] 1::sD::bL 4 n0 m0 q0 f0 (bL 8 n1 m1 q1 f1 [sN [.int .i64 96,.slo 16 0 (wtN 96 (wtC 96 [] q1) q0) 0],sD,sC q1 2,sD,sC q0 2,sC (wtC 96 (wtC 96 [] q1) q0) 2,sC (wtC 96 (wtC 96 [] q1) q0) 2])) []):=by kernel_rfl
theorem lc_3 (most:Int) (n0 m0 n1 m1 n2 m2:Nat) (q0 f0 q1 f1 q2 f2:List LV) (K:Pk):(xsp prog cxl4 60 26 ((sp prog 64).drop 0) (tm0 [.ptr 0 0]) (mkS (lvH3 most n0 m0 n1 m1 n2 m2 q0 f0 q1 f1 q2 f2)) (vK [2] K))=(
 ck (xle n2 1000000) <|
 ck (xeq (xln q2) (xmul n2 2)) <|
 ck (xnoid q2) <|
 ck (okC [] 0) <|
 ck (okC q2 n2) <|
 ck (xle (xadd 0 n2) 900000) <|
 ck (xle n1 1000000) <|
 ck (xeq (xln q1) (xmul n1 2)) <|
 ck (xnoid q1) <|
 ck (okC (wtC 96 [] q2) (wtN 96 [] q2)) <|
 ck (okC q1 n1) <|
 ck (xle (xadd (wtN 96 [] q2) n1) 900000) <|
 ck (xle n0 1000000) <|
 ck (xeq (xln q0) (xmul n0 2)) <|
 ck (xnoid q0) <|
 ck (okC (wtC 96 (wtC 96 [] q2) q1) (wtN 96 (wtC 96 [] q2) q1)) <|
 ck (okC q0 n0) <|
 ck (xle (xadd (wtN 96 (wtC 96 [] q2) q1) n0) 900000) <|
 ck (xle (wtN 96 (wtC 96 (wtC 96 [] q2) q1) q0) 1000000) <|
 ck (xeq (xln (wtC 96 (wtC 96 (wtC 96 [] q2) q1) q0)) (xmul (wtN 96 (wtC 96 (wtC 96 [] q2) q1) q0) 2)) <|
 ck (xnoid (wtC 96 (wtC 96 (wtC 96 [] q2) q1) q0)) <|
 K .ret [.slo 23 0 (wtN 96 (wtC 96 (wtC 96 [] q2) q1) q0) 0] (sN [.int .i64 most,.slo 1 0 3 0]::sC [.ptr 11 0,.ptr 7 0,.ptr 3 0] 1::sD::bL 4 n0 m0 q0 f0 (bL 8 n1 m1 q1 f1 (bL 12 n2 m2 q2 f2 [sN [.int .i64 96,.slo 22 0 (wtN 96 (wtC 96 (wtC 96 [] q2) q1) q0) 0],sD,sC q2 2,sD,sC q1 2,sD,sC q0 2,sC (wtC 96 (wtC 96 (wtC 96 [] q2) q1) q0) 2,sC (wtC 96 (wtC 96 (wtC 96 [] q2) q1) q0) 2]))) []):=by kernel_rfl
theorem lc_4 (most:Int) (n0 m0 n1 m1 n2 m2 n3 m3:Nat) (q0 f0 q1 f1 q2 f2 q3 f3:List LV) (K:Pk):(xsp prog cxl4 60 26 ((sp prog 64).drop 0) (tm0 [.ptr 0 0]) (mkS (lvH4 most n0 m0 n1 m1 n2 m2 n3 m3 q0 f0 q1 f1 q2 f2 q3 f3)) (vK [2] K))=(
 ck (xle n3 1000000) <|
 ck (xeq (xln q3) (xmul n3 2)) <|
 ck (xnoid q3) <|
 ck (okC [] 0) <|
 ck (okC q3 n3) <|
 ck (xle (xadd 0 n3) 900000) <|
 ck (xle n2 1000000) <|
 ck (xeq (xln q2) (xmul n2 2)) <|
 ck (xnoid q2) <|
 ck (okC (wtC 96 [] q3) (wtN 96 [] q3)) <|
 ck (okC q2 n2) <|
 ck (xle (xadd (wtN 96 [] q3) n2) 900000) <|
 ck (xle n1 1000000) <|
 ck (xeq (xln q1) (xmul n1 2)) <|
 ck (xnoid q1) <|
 ck (okC (wtC 96 (wtC 96 [] q3) q2) (wtN 96 (wtC 96 [] q3) q2)) <|
 ck (okC q1 n1) <|
 ck (xle (xadd (wtN 96 (wtC 96 [] q3) q2) n1) 900000) <|
 ck (xle n0 1000000) <|
 ck (xeq (xln q0) (xmul n0 2)) <|
 ck (xnoid q0) <|
 ck (okC (wtC 96 (wtC 96 (wtC 96 [] q3) q2) q1) (wtN 96 (wtC 96 (wtC 96 [] q3) q2) q1)) <|
 ck (okC q0 n0) <|
 ck (xle (xadd (wtN 96 (wtC 96 (wtC 96 [] q3) q2) q1) n0) 900000) <|
 ck (xle (wtN 96 (wtC 96 (wtC 96 (wtC 96 [] q3) q2) q1) q0) 1000000) <|
 ck (xeq (xln (wtC 96 (wtC 96 (wtC 96 (wtC 96 [] q3) q2) q1) q0)) (xmul (wtN 96 (wtC 96 (wtC 96 (wtC 96 [] q3) q2) q1) q0) 2)) <|
 ck (xnoid (wtC 96 (wtC 96 (wtC 96 (wtC 96 [] q3) q2) q1) q0)) <|
 K .ret [.slo 29 0 (wtN 96 (wtC 96 (wtC 96 (wtC 96 [] q3) q2) q1) q0) 0] (sN [.int .i64 most,.slo 1 0 4 0]::sC [.ptr 15 0,.ptr 11 0,.ptr 7 0,.ptr 3 0] 1::sD::bL 4 n0 m0 q0 f0 (bL 8 n1 m1 q1 f1 (bL 12 n2 m2 q2 f2 (bL 16 n3 m3 q3 f3 [sN [.int .i64 96,.slo 28 0 (wtN 96 (wtC 96 (wtC 96 (wtC 96 [] q3) q2) q1) q0) 0],sD,sC q3 2,sD,sC q2 2,sD,sC q1 2,sD,sC q0 2,sC (wtC 96 (wtC 96 (wtC 96 (wtC 96 [] q3) q2) q1) q0) 2,sC (wtC 96 (wtC 96 (wtC 96 (wtC 96 [] q3) q2) q1) q0) 2])))) []):=by kernel_rfl
theorem lc_5 (most:Int) (n0 m0 n1 m1 n2 m2 n3 m3 n4 m4:Nat) (q0 f0 q1 f1 q2 f2 q3 f3 q4 f4:List LV) (K:Pk):(xsp prog cxl4 60 26 ((sp prog 64).drop 0) (tm0 [.ptr 0 0]) (mkS (lvH5 most n0 m0 n1 m1 n2 m2 n3 m3 n4 m4 q0 f0 q1 f1 q2 f2 q3 f3 q4 f4)) (vK [2] K))=(
 ck (xle n4 1000000) <|
 ck (xeq (xln q4) (xmul n4 2)) <|
 ck (xnoid q4) <|
 ck (okC [] 0) <|
 ck (okC q4 n4) <|
 ck (xle (xadd 0 n4) 900000) <|
 ck (xle n3 1000000) <|
 ck (xeq (xln q3) (xmul n3 2)) <|
 ck (xnoid q3) <|
 ck (okC (wtC 96 [] q4) (wtN 96 [] q4)) <|
 ck (okC q3 n3) <|
 ck (xle (xadd (wtN 96 [] q4) n3) 900000) <|
 ck (xle n2 1000000) <|
 ck (xeq (xln q2) (xmul n2 2)) <|
 ck (xnoid q2) <|
 ck (okC (wtC 96 (wtC 96 [] q4) q3) (wtN 96 (wtC 96 [] q4) q3)) <|
 ck (okC q2 n2) <|
 ck (xle (xadd (wtN 96 (wtC 96 [] q4) q3) n2) 900000) <|
 ck (xle n1 1000000) <|
 ck (xeq (xln q1) (xmul n1 2)) <|
 ck (xnoid q1) <|
 ck (okC (wtC 96 (wtC 96 (wtC 96 [] q4) q3) q2) (wtN 96 (wtC 96 (wtC 96 [] q4) q3) q2)) <|
 ck (okC q1 n1) <|
 ck (xle (xadd (wtN 96 (wtC 96 (wtC 96 [] q4) q3) q2) n1) 900000) <|
 ck (xle n0 1000000) <|
 ck (xeq (xln q0) (xmul n0 2)) <|
 ck (xnoid q0) <|
 ck (okC (wtC 96 (wtC 96 (wtC 96 (wtC 96 [] q4) q3) q2) q1) (wtN 96 (wtC 96 (wtC 96 (wtC 96 [] q4) q3) q2) q1)) <|
 ck (okC q0 n0) <|
 ck (xle (xadd (wtN 96 (wtC 96 (wtC 96 (wtC 96 [] q4) q3) q2) q1) n0) 900000) <|
 ck (xle (wtN 96 (wtC 96 (wtC 96 (wtC 96 (wtC 96 [] q4) q3) q2) q1) q0) 1000000) <|
 ck (xeq (xln (wtC 96 (wtC 96 (wtC 96 (wtC 96 (wtC 96 [] q4) q3) q2) q1) q0)) (xmul (wtN 96 (wtC 96 (wtC 96 (wtC 96 (wtC 96 [] q4) q3) q2) q1) q0) 2)) <|
 ck (xnoid (wtC 96 (wtC 96 (wtC 96 (wtC 96 (wtC 96 [] q4) q3) q2) q1) q0)) <|
 K .ret [.slo 35 0 (wtN 96 (wtC 96 (wtC 96 (wtC 96 (wtC 96 [] q4) q3) q2) q1) q0) 0] (sN [.int .i64 most,.slo 1 0 5 0]::sC [.ptr 19 0,.ptr 15 0,.ptr 11 0,.ptr 7 0,.ptr 3 0] 1::sD::bL 4 n0 m0 q0 f0 (bL 8 n1 m1 q1 f1 (bL 12 n2 m2 q2 f2 (bL 16 n3 m3 q3 f3 (bL 20 n4 m4 q4 f4 [sN [.int .i64 96,.slo 34 0 (wtN 96 (wtC 96 (wtC 96 (wtC 96 (wtC 96 [] q4) q3) q2) q1) q0) 0],sD,sC q4 2,sD,sC q3 2,sD,sC q2 2,sD,sC q1 2,sD,sC q0 2,sC (wtC 96 (wtC 96 (wtC 96 (wtC 96 (wtC 96 [] q4) q3) q2) q1) q0) 2,sC (wtC 96 (wtC 96 (wtC 96 (wtC 96 (wtC 96 [] q4) q3) q2) q1) q0) 2]))))) []):=by kernel_rfl
theorem lc_6 (most:Int) (n0 m0 n1 m1 n2 m2 n3 m3 n4 m4 n5 m5:Nat) (q0 f0 q1 f1 q2 f2 q3 f3 q4 f4 q5 f5:List LV) (K:Pk):(xsp prog cxl4 60 26 ((sp prog 64).drop 0) (tm0 [.ptr 0 0]) (mkS (lvH6 most n0 m0 n1 m1 n2 m2 n3 m3 n4 m4 n5 m5 q0 f0 q1 f1 q2 f2 q3 f3 q4 f4 q5 f5)) (vK [2] K))=(
 ck (xle n5 1000000) <|
 ck (xeq (xln q5) (xmul n5 2)) <|
 ck (xnoid q5) <|
 ck (okC [] 0) <|
 ck (okC q5 n5) <|
 ck (xle (xadd 0 n5) 900000) <|
 ck (xle n4 1000000) <|
 ck (xeq (xln q4) (xmul n4 2)) <|
 ck (xnoid q4) <|
 ck (okC (wtC 96 [] q5) (wtN 96 [] q5)) <|
 ck (okC q4 n4) <|
 ck (xle (xadd (wtN 96 [] q5) n4) 900000) <|
 ck (xle n3 1000000) <|
 ck (xeq (xln q3) (xmul n3 2)) <|
 ck (xnoid q3) <|
 ck (okC (wtC 96 (wtC 96 [] q5) q4) (wtN 96 (wtC 96 [] q5) q4)) <|
 ck (okC q3 n3) <|
 ck (xle (xadd (wtN 96 (wtC 96 [] q5) q4) n3) 900000) <|
 ck (xle n2 1000000) <|
 ck (xeq (xln q2) (xmul n2 2)) <|
 ck (xnoid q2) <|
 ck (okC (wtC 96 (wtC 96 (wtC 96 [] q5) q4) q3) (wtN 96 (wtC 96 (wtC 96 [] q5) q4) q3)) <|
 ck (okC q2 n2) <|
 ck (xle (xadd (wtN 96 (wtC 96 (wtC 96 [] q5) q4) q3) n2) 900000) <|
 ck (xle n1 1000000) <|
 ck (xeq (xln q1) (xmul n1 2)) <|
 ck (xnoid q1) <|
 ck (okC (wtC 96 (wtC 96 (wtC 96 (wtC 96 [] q5) q4) q3) q2) (wtN 96 (wtC 96 (wtC 96 (wtC 96 [] q5) q4) q3) q2)) <|
 ck (okC q1 n1) <|
 ck (xle (xadd (wtN 96 (wtC 96 (wtC 96 (wtC 96 [] q5) q4) q3) q2) n1) 900000) <|
 ck (xle n0 1000000) <|
 ck (xeq (xln q0) (xmul n0 2)) <|
 ck (xnoid q0) <|
 ck (okC (wtC 96 (wtC 96 (wtC 96 (wtC 96 (wtC 96 [] q5) q4) q3) q2) q1) (wtN 96 (wtC 96 (wtC 96 (wtC 96 (wtC 96 [] q5) q4) q3) q2) q1)) <|
 ck (okC q0 n0) <|
 ck (xle (xadd (wtN 96 (wtC 96 (wtC 96 (wtC 96 (wtC 96 [] q5) q4) q3) q2) q1) n0) 900000) <|
 ck (xle (wtN 96 (wtC 96 (wtC 96 (wtC 96 (wtC 96 (wtC 96 [] q5) q4) q3) q2) q1) q0) 1000000) <|
 ck (xeq (xln (wtC 96 (wtC 96 (wtC 96 (wtC 96 (wtC 96 (wtC 96 [] q5) q4) q3) q2) q1) q0)) (xmul (wtN 96 (wtC 96 (wtC 96 (wtC 96 (wtC 96 (wtC 96 [] q5) q4) q3) q2) q1) q0) 2)) <|
 ck (xnoid (wtC 96 (wtC 96 (wtC 96 (wtC 96 (wtC 96 (wtC 96 [] q5) q4) q3) q2) q1) q0)) <|
 K .ret [.slo 41 0 (wtN 96 (wtC 96 (wtC 96 (wtC 96 (wtC 96 (wtC 96 [] q5) q4) q3) q2) q1) q0) 0] (sN [.int .i64 most,.slo 1 0 6 0]::sC [.ptr 23 0,.ptr 19 0,.ptr 15 0,.ptr 11 0,.ptr 7 0,.ptr 3 0] 1::sD::bL 4 n0 m0 q0 f0 (bL 8 n1 m1 q1 f1 (bL 12 n2 m2 q2 f2 (bL 16 n3 m3 q3 f3 (bL 20 n4 m4 q4 f4 (bL 24 n5 m5 q5 f5 [sN [.int .i64 96,.slo 40 0 (wtN 96 (wtC 96 (wtC 96 (wtC 96 (wtC 96 (wtC 96 [] q5) q4) q3) q2) q1) q0) 0],sD,sC q5 2,sD,sC q4 2,sD,sC q3 2,sD,sC q2 2,sD,sC q1 2,sD,sC q0 2,sC (wtC 96 (wtC 96 (wtC 96 (wtC 96 (wtC 96 (wtC 96 [] q5) q4) q3) q2) q1) q0) 2,sC (wtC 96 (wtC 96 (wtC 96 (wtC 96 (wtC 96 (wtC 96 [] q5) q4) q3) q2) q1) q0) 2])))))) []):=by kernel_rfl
theorem ln_x (m:Int) (K:Pk):(xsp prog cxl4 60 10 ((sp prog 62).drop 0) (tm0 [.int .i64 m]) (mkS []) (vK [2] K))=(
 K .ret [.ptr 4 0] [sN [.int .i64 96,.slo 1 0 0 0],sC [] 2,sN [.ptr 0 0,.nils],sN [.ptr 2 0],sN [.int .i64 (xmn (xmx m 0) 96),.sl 3 0 1 1]] []):=by kernel_rfl
theorem celL_wf:∀ {ls:List Lv},(∀ x∈ls,uniq x.1∧inK x.1)→uniq (celL ls)∧inK (celL ls)∧(celL ls).length≤totC ls
 | [],_=>⟨trivial,fun c hc=>(by cases hc),Nat.le_refl _⟩
 | x::r,h=>by
   obtain⟨q1,q2,q3⟩:=celL_wf (ls:=r) fun y hy=>h y (by simp [hy])
   have hx:=h x (by simp)
   have:=pls_len x.1 (celL r)
   simp only [celL,totC]
   exact⟨uniq_pls _ q1,inK_pls _ q2 hx.2,by omega⟩
theorem lcells_1 (most:Int) (x0:Lv) (h:OkLs [x0]):SSp prog 26 ((sp prog 64).drop 0) 3 (tm0 [.ptr 0 0]) (mkS (lvU most [x0] [])) (vK [2] (endK 3 [2] [2] [] (lvQ most [x0] (Row (celL [x0])) (.slo 3 0 (celL [x0]).length 0)))):=by
 have hc:=h.c; have hf:=h.f; simp only [totC] at hc; simp only [totF] at hf
 have ok0:=okC_e x0.1 (by omega); have le0:=le_e x0.1 (by omega)
 have okn:okC [] 0=true:=okC_enc (xs:=[]) (by simp); have dn:decC ([]:List LV)=[]:=rfl
 have l0:=cell_n x0.1; have xn0:=xnoid_c x0.1
 have t0:=(celL_wf (ls:=[x0]) fun y hy=>h.uq y (List.mem_of_mem_drop (i:=0) (l:=[x0]) hy)).2.2
 simp only [totC] at t0
 have w0:wTc 96 [] x0.1=celL [x0]:=wTc_pls (h.uq x0 (by simp)).2 (by simp only [List.length_nil]; omega)
 have kc0:okC (encL cell (celL [x0])) (celL [x0]).length=true:=okC_enc (by omega)
 have nn:=noids_c (celL [x0]); have ln:=cell_n (celL [x0]); have nx:=xnoid_c (celL [x0])
 refine zE cxl4_ok ?_
 show xsp _ _ _ _ _ _ (mkS (at1 (lvH1 most) x0)) _
 rw [lc_1]
 simp only [okn,dn,wtN,wtC,decC_enc,w0,ok0,le0,xn0,kc0,nx,cond_true]
 (refine zN2 @l0 @ln ?_)
 (refine zR ?_)
 exact⟨trivial,rfl,.slo 3 0 (celL [x0]).length 0,at1 (lvI1 most (celL [x0]).length (encL cell (celL [x0]))) x0,[.id 0,.id 1,.id 2,.id 11,.id 3,.id 4,.id 5,.id 6],⟨rfl,h,rfl⟩,by(exact zC)⟩
theorem lcells_2 (most:Int) (x0 x1:Lv) (h:OkLs [x0,x1]):SSp prog 26 ((sp prog 64).drop 0) 3 (tm0 [.ptr 0 0]) (mkS (lvU most [x0,x1] [])) (vK [2] (endK 3 [2] [2] [] (lvQ most [x0,x1] (Row (celL [x0,x1])) (.slo 3 0 (celL [x0,x1]).length 0)))):=by
 have hc:=h.c; have hf:=h.f; simp only [totC] at hc; simp only [totF] at hf
 have ok0:=okC_e x0.1 (by omega); have le0:=le_e x0.1 (by omega)
 have ok1:=okC_e x1.1 (by omega); have le1:=le_e x1.1 (by omega)
 have okn:okC [] 0=true:=okC_enc (xs:=[]) (by simp); have dn:decC ([]:List LV)=[]:=rfl
 have l0:=cell_n x0.1; have xn0:=xnoid_c x0.1; have l1:=cell_n x1.1; have xn1:=xnoid_c x1.1
 have t1:=(celL_wf (ls:=[x1]) fun y hy=>h.uq y (List.mem_of_mem_drop (i:=1) (l:=[x0,x1]) hy)).2.2
 simp only [totC] at t1
 have w1:wTc 96 [] x1.1=celL [x1]:=wTc_pls (h.uq x1 (by simp)).2 (by simp only [List.length_nil]; omega)
 have kc1:okC (encL cell (celL [x1])) (celL [x1]).length=true:=okC_enc (by omega)
 have t0:=(celL_wf (ls:=[x0,x1]) fun y hy=>h.uq y (List.mem_of_mem_drop (i:=0) (l:=[x0,x1]) hy)).2.2
 simp only [totC] at t0
 have w0:wTc 96 (celL [x1]) x0.1=celL [x0,x1]:=wTc_pls (h.uq x0 (by simp)).2 (by omega)
 have kc0:okC (encL cell (celL [x0,x1])) (celL [x0,x1]).length=true:=okC_enc (by omega)
 have nn:=noids_c (celL [x0,x1]); have ln:=cell_n (celL [x0,x1]); have nx:=xnoid_c (celL [x0,x1])
 refine zE cxl4_ok ?_
 show xsp _ _ _ _ _ _ (mkS (at2 (lvH2 most) x0 x1)) _
 rw [lc_2]
 simp only [okn,dn,wtN,wtC,decC_enc,w1,w0,ok0,le0,xn0,ok1,le1,xn1,kc0,kc1,nx,cond_true]
 simp only [wd_nat,wd_asV,wd_isV,wd_ix,wd_add,wd_mul,wd_ln,Nat.zero_add,Nat.mul_one,wd_isI,wd_asI,wd_isB,wd_asB,wd_nn,cI_tlen,cB_tlen,cII_tlen,decide_true,cond_true,wd_not_t,wd_not_f,wd_and_t,wd_and_f,l0,l1,ln]
 (refine zR ?_)
 exact⟨trivial,rfl,.slo 3 0 (celL [x0,x1]).length 0,at2 (lvI2 most (celL [x0,x1]).length (encL cell (celL [x0,x1]))) x0 x1,[.id 0,.id 1,.id 2,.id 17,.id 3,.id 4,.id 5,.id 6,.id 7,.id 8,.id 9,.id 10],⟨rfl,h,rfl⟩,by(exact zC)⟩
theorem lcells_3 (most:Int) (x0 x1 x2:Lv) (h:OkLs [x0,x1,x2]):SSp prog 26 ((sp prog 64).drop 0) 3 (tm0 [.ptr 0 0]) (mkS (lvU most [x0,x1,x2] [])) (vK [2] (endK 3 [2] [2] [] (lvQ most [x0,x1,x2] (Row (celL [x0,x1,x2])) (.slo 3 0 (celL [x0,x1,x2]).length 0)))):=by
 have hc:=h.c; have hf:=h.f; simp only [totC] at hc; simp only [totF] at hf
 have ok0:=okC_e x0.1 (by omega); have le0:=le_e x0.1 (by omega)
 have ok1:=okC_e x1.1 (by omega); have le1:=le_e x1.1 (by omega)
 have ok2:=okC_e x2.1 (by omega); have le2:=le_e x2.1 (by omega)
 have okn:okC [] 0=true:=okC_enc (xs:=[]) (by simp); have dn:decC ([]:List LV)=[]:=rfl
 have l0:=cell_n x0.1; have xn0:=xnoid_c x0.1; have l1:=cell_n x1.1; have xn1:=xnoid_c x1.1; have l2:=cell_n x2.1; have xn2:=xnoid_c x2.1
 have t2:=(celL_wf (ls:=[x2]) fun y hy=>h.uq y (List.mem_of_mem_drop (i:=2) (l:=[x0,x1,x2]) hy)).2.2
 simp only [totC] at t2
 have w2:wTc 96 [] x2.1=celL [x2]:=wTc_pls (h.uq x2 (by simp)).2 (by simp only [List.length_nil]; omega)
 have kc2:okC (encL cell (celL [x2])) (celL [x2]).length=true:=okC_enc (by omega)
 have t1:=(celL_wf (ls:=[x1,x2]) fun y hy=>h.uq y (List.mem_of_mem_drop (i:=1) (l:=[x0,x1,x2]) hy)).2.2
 simp only [totC] at t1
 have w1:wTc 96 (celL [x2]) x1.1=celL [x1,x2]:=wTc_pls (h.uq x1 (by simp)).2 (by omega)
 have kc1:okC (encL cell (celL [x1,x2])) (celL [x1,x2]).length=true:=okC_enc (by omega)
 have t0:=(celL_wf (ls:=[x0,x1,x2]) fun y hy=>h.uq y (List.mem_of_mem_drop (i:=0) (l:=[x0,x1,x2]) hy)).2.2
 simp only [totC] at t0
 have w0:wTc 96 (celL [x1,x2]) x0.1=celL [x0,x1,x2]:=wTc_pls (h.uq x0 (by simp)).2 (by omega)
 have kc0:okC (encL cell (celL [x0,x1,x2])) (celL [x0,x1,x2]).length=true:=okC_enc (by omega)
 have nn:=noids_c (celL [x0,x1,x2]); have ln:=cell_n (celL [x0,x1,x2]); have nx:=xnoid_c (celL [x0,x1,x2])
 refine zE cxl4_ok ?_
 show xsp _ _ _ _ _ _ (mkS (at3 (lvH3 most) x0 x1 x2)) _
 rw [lc_3]
 simp only [okn,dn,wtN,wtC,decC_enc,w2,w1,w0,ok0,le0,xn0,ok1,le1,xn1,ok2,le2,xn2,kc0,kc1,kc2,nx,cond_true]
 simp only [wd_nat,wd_asV,wd_isV,wd_ix,wd_add,wd_mul,wd_ln,Nat.zero_add,Nat.mul_one,wd_isI,wd_asI,wd_isB,wd_asB,wd_nn,cI_tlen,cB_tlen,cII_tlen,decide_true,cond_true,wd_not_t,wd_not_f,wd_and_t,wd_and_f,l0,l1,l2,ln]
 (refine zR ?_)
 exact⟨trivial,rfl,.slo 3 0 (celL [x0,x1,x2]).length 0,at3 (lvI3 most (celL [x0,x1,x2]).length (encL cell (celL [x0,x1,x2]))) x0 x1 x2,[.id 0,.id 1,.id 2,.id 23,.id 3,.id 4,.id 5,.id 6,.id 7,.id 8,.id 9,.id 10,.id 11,.id 12,.id 13,.id 14],⟨rfl,h,rfl⟩,by(exact zC)⟩
theorem lcells_4 (most:Int) (x0 x1 x2 x3:Lv) (h:OkLs [x0,x1,x2,x3]):SSp prog 26 ((sp prog 64).drop 0) 3 (tm0 [.ptr 0 0]) (mkS (lvU most [x0,x1,x2,x3] [])) (vK [2] (endK 3 [2] [2] [] (lvQ most [x0,x1,x2,x3] (Row (celL [x0,x1,x2,x3])) (.slo 3 0 (celL [x0,x1,x2,x3]).length 0)))):=by
 have hc:=h.c; have hf:=h.f; simp only [totC] at hc; simp only [totF] at hf
 have ok0:=okC_e x0.1 (by omega); have le0:=le_e x0.1 (by omega)
 have ok1:=okC_e x1.1 (by omega); have le1:=le_e x1.1 (by omega)
 have ok2:=okC_e x2.1 (by omega); have le2:=le_e x2.1 (by omega)
 have ok3:=okC_e x3.1 (by omega); have le3:=le_e x3.1 (by omega)
 have okn:okC [] 0=true:=okC_enc (xs:=[]) (by simp); have dn:decC ([]:List LV)=[]:=rfl
 have l0:=cell_n x0.1; have xn0:=xnoid_c x0.1; have l1:=cell_n x1.1; have xn1:=xnoid_c x1.1; have l2:=cell_n x2.1; have xn2:=xnoid_c x2.1; have l3:=cell_n x3.1; have xn3:=xnoid_c x3.1
 have t3:=(celL_wf (ls:=[x3]) fun y hy=>h.uq y (List.mem_of_mem_drop (i:=3) (l:=[x0,x1,x2,x3]) hy)).2.2
 simp only [totC] at t3
 have w3:wTc 96 [] x3.1=celL [x3]:=wTc_pls (h.uq x3 (by simp)).2 (by simp only [List.length_nil]; omega)
 have kc3:okC (encL cell (celL [x3])) (celL [x3]).length=true:=okC_enc (by omega)
 have t2:=(celL_wf (ls:=[x2,x3]) fun y hy=>h.uq y (List.mem_of_mem_drop (i:=2) (l:=[x0,x1,x2,x3]) hy)).2.2
 simp only [totC] at t2
 have w2:wTc 96 (celL [x3]) x2.1=celL [x2,x3]:=wTc_pls (h.uq x2 (by simp)).2 (by omega)
 have kc2:okC (encL cell (celL [x2,x3])) (celL [x2,x3]).length=true:=okC_enc (by omega)
 have t1:=(celL_wf (ls:=[x1,x2,x3]) fun y hy=>h.uq y (List.mem_of_mem_drop (i:=1) (l:=[x0,x1,x2,x3]) hy)).2.2
 simp only [totC] at t1
 have w1:wTc 96 (celL [x2,x3]) x1.1=celL [x1,x2,x3]:=wTc_pls (h.uq x1 (by simp)).2 (by omega)
 have kc1:okC (encL cell (celL [x1,x2,x3])) (celL [x1,x2,x3]).length=true:=okC_enc (by omega)
 have t0:=(celL_wf (ls:=[x0,x1,x2,x3]) fun y hy=>h.uq y (List.mem_of_mem_drop (i:=0) (l:=[x0,x1,x2,x3]) hy)).2.2
 simp only [totC] at t0
 have w0:wTc 96 (celL [x1,x2,x3]) x0.1=celL [x0,x1,x2,x3]:=wTc_pls (h.uq x0 (by simp)).2 (by omega)
 have kc0:okC (encL cell (celL [x0,x1,x2,x3])) (celL [x0,x1,x2,x3]).length=true:=okC_enc (by omega)
 have nn:=noids_c (celL [x0,x1,x2,x3]); have ln:=cell_n (celL [x0,x1,x2,x3]); have nx:=xnoid_c (celL [x0,x1,x2,x3])
 refine zE cxl4_ok ?_
 show xsp _ _ _ _ _ _ (mkS (at4 (lvH4 most) x0 x1 x2 x3)) _
 rw [lc_4]
 simp only [okn,dn,wtN,wtC,decC_enc,w3,w2,w1,w0,ok0,le0,xn0,ok1,le1,xn1,ok2,le2,xn2,ok3,le3,xn3,kc0,kc1,kc2,kc3,nx,cond_true]
 simp only [wd_nat,wd_asV,wd_isV,wd_ix,wd_add,wd_mul,wd_ln,Nat.zero_add,Nat.mul_one,wd_isI,wd_asI,wd_isB,wd_asB,wd_nn,cI_tlen,cB_tlen,cII_tlen,decide_true,cond_true,wd_not_t,wd_not_f,wd_and_t,wd_and_f,l0,l1,l2,l3,ln]
 (refine zR ?_)
 exact⟨trivial,rfl,.slo 3 0 (celL [x0,x1,x2,x3]).length 0,at4 (lvI4 most (celL [x0,x1,x2,x3]).length (encL cell (celL [x0,x1,x2,x3]))) x0 x1 x2 x3,[.id 0,.id 1,.id 2,.id 29,.id 3,.id 4,.id 5,.id 6,.id 7,.id 8,.id 9,.id 10,.id 11,.id 12,.id 13,.id 14,.id 15,.id 16,.id 17,.id 18],⟨rfl,h,rfl⟩,by(exact zC)⟩
theorem lcells_5 (most:Int) (x0 x1 x2 x3 x4:Lv) (h:OkLs [x0,x1,x2,x3,x4]):SSp prog 26 ((sp prog 64).drop 0) 3 (tm0 [.ptr 0 0]) (mkS (lvU most [x0,x1,x2,x3,x4] [])) (vK [2] (endK 3 [2] [2] [] (lvQ most [x0,x1,x2,x3,x4] (Row (celL [x0,x1,x2,x3,x4])) (.slo 3 0 (celL [x0,x1,x2,x3,x4]).length 0)))):=by
 have hc:=h.c; have hf:=h.f; simp only [totC] at hc; simp only [totF] at hf
 have ok0:=okC_e x0.1 (by omega); have le0:=le_e x0.1 (by omega)
 have ok1:=okC_e x1.1 (by omega); have le1:=le_e x1.1 (by omega)
 have ok2:=okC_e x2.1 (by omega); have le2:=le_e x2.1 (by omega)
 have ok3:=okC_e x3.1 (by omega); have le3:=le_e x3.1 (by omega)
 have ok4:=okC_e x4.1 (by omega); have le4:=le_e x4.1 (by omega)
 have okn:okC [] 0=true:=okC_enc (xs:=[]) (by simp); have dn:decC ([]:List LV)=[]:=rfl
 have l0:=cell_n x0.1; have xn0:=xnoid_c x0.1; have l1:=cell_n x1.1; have xn1:=xnoid_c x1.1; have l2:=cell_n x2.1; have xn2:=xnoid_c x2.1; have l3:=cell_n x3.1; have xn3:=xnoid_c x3.1; have l4:=cell_n x4.1; have xn4:=xnoid_c x4.1
 have t4:=(celL_wf (ls:=[x4]) fun y hy=>h.uq y (List.mem_of_mem_drop (i:=4) (l:=[x0,x1,x2,x3,x4]) hy)).2.2
 simp only [totC] at t4
 have w4:wTc 96 [] x4.1=celL [x4]:=wTc_pls (h.uq x4 (by simp)).2 (by simp only [List.length_nil]; omega)
 have kc4:okC (encL cell (celL [x4])) (celL [x4]).length=true:=okC_enc (by omega)
 have t3:=(celL_wf (ls:=[x3,x4]) fun y hy=>h.uq y (List.mem_of_mem_drop (i:=3) (l:=[x0,x1,x2,x3,x4]) hy)).2.2
 simp only [totC] at t3
 have w3:wTc 96 (celL [x4]) x3.1=celL [x3,x4]:=wTc_pls (h.uq x3 (by simp)).2 (by omega)
 have kc3:okC (encL cell (celL [x3,x4])) (celL [x3,x4]).length=true:=okC_enc (by omega)
 have t2:=(celL_wf (ls:=[x2,x3,x4]) fun y hy=>h.uq y (List.mem_of_mem_drop (i:=2) (l:=[x0,x1,x2,x3,x4]) hy)).2.2
 simp only [totC] at t2
 have w2:wTc 96 (celL [x3,x4]) x2.1=celL [x2,x3,x4]:=wTc_pls (h.uq x2 (by simp)).2 (by omega)
 have kc2:okC (encL cell (celL [x2,x3,x4])) (celL [x2,x3,x4]).length=true:=okC_enc (by omega)
 have t1:=(celL_wf (ls:=[x1,x2,x3,x4]) fun y hy=>h.uq y (List.mem_of_mem_drop (i:=1) (l:=[x0,x1,x2,x3,x4]) hy)).2.2
 simp only [totC] at t1
 have w1:wTc 96 (celL [x2,x3,x4]) x1.1=celL [x1,x2,x3,x4]:=wTc_pls (h.uq x1 (by simp)).2 (by omega)
 have kc1:okC (encL cell (celL [x1,x2,x3,x4])) (celL [x1,x2,x3,x4]).length=true:=okC_enc (by omega)
 have t0:=(celL_wf (ls:=[x0,x1,x2,x3,x4]) fun y hy=>h.uq y (List.mem_of_mem_drop (i:=0) (l:=[x0,x1,x2,x3,x4]) hy)).2.2
 simp only [totC] at t0
 have w0:wTc 96 (celL [x1,x2,x3,x4]) x0.1=celL [x0,x1,x2,x3,x4]:=wTc_pls (h.uq x0 (by simp)).2 (by omega)
 have kc0:okC (encL cell (celL [x0,x1,x2,x3,x4])) (celL [x0,x1,x2,x3,x4]).length=true:=okC_enc (by omega)
 have nn:=noids_c (celL [x0,x1,x2,x3,x4]); have ln:=cell_n (celL [x0,x1,x2,x3,x4]); have nx:=xnoid_c (celL [x0,x1,x2,x3,x4])
 refine zE cxl4_ok ?_
 show xsp _ _ _ _ _ _ (mkS (at5 (lvH5 most) x0 x1 x2 x3 x4)) _
 rw [lc_5]
 simp only [okn,dn,wtN,wtC,decC_enc,w4,w3,w2,w1,w0,ok0,le0,xn0,ok1,le1,xn1,ok2,le2,xn2,ok3,le3,xn3,ok4,le4,xn4,kc0,kc1,kc2,kc3,kc4,nx,cond_true]
 simp only [wd_nat,wd_asV,wd_isV,wd_ix,wd_add,wd_mul,wd_ln,Nat.zero_add,Nat.mul_one,wd_isI,wd_asI,wd_isB,wd_asB,wd_nn,cI_tlen,cB_tlen,cII_tlen,decide_true,cond_true,wd_not_t,wd_not_f,wd_and_t,wd_and_f,l0,l1,l2,l3,l4,ln]
 (refine zR ?_)
 exact⟨trivial,rfl,.slo 3 0 (celL [x0,x1,x2,x3,x4]).length 0,at5 (lvI5 most (celL [x0,x1,x2,x3,x4]).length (encL cell (celL [x0,x1,x2,x3,x4]))) x0 x1 x2 x3 x4,[.id 0,.id 1,.id 2,.id 35,.id 3,.id 4,.id 5,.id 6,.id 7,.id 8,.id 9,.id 10,.id 11,.id 12,.id 13,.id 14,.id 15,.id 16,.id 17,.id 18,.id 19,.id 20,.id 21,.id 22],⟨rfl,h,rfl⟩,by(exact zC)⟩
theorem lcells_6 (most:Int) (x0 x1 x2 x3 x4 x5:Lv) (h:OkLs [x0,x1,x2,x3,x4,x5]):SSp prog 26 ((sp prog 64).drop 0) 3 (tm0 [.ptr 0 0]) (mkS (lvU most [x0,x1,x2,x3,x4,x5] [])) (vK [2] (endK 3 [2] [2] [] (lvQ most [x0,x1,x2,x3,x4,x5] (Row (celL [x0,x1,x2,x3,x4,x5])) (.slo 3 0 (celL [x0,x1,x2,x3,x4,x5]).length 0)))):=by
 have hc:=h.c; have hf:=h.f; simp only [totC] at hc; simp only [totF] at hf
 have ok0:=okC_e x0.1 (by omega); have le0:=le_e x0.1 (by omega)
 have ok1:=okC_e x1.1 (by omega); have le1:=le_e x1.1 (by omega)
 have ok2:=okC_e x2.1 (by omega); have le2:=le_e x2.1 (by omega)
 have ok3:=okC_e x3.1 (by omega); have le3:=le_e x3.1 (by omega)
 have ok4:=okC_e x4.1 (by omega); have le4:=le_e x4.1 (by omega)
 have ok5:=okC_e x5.1 (by omega); have le5:=le_e x5.1 (by omega)
 have okn:okC [] 0=true:=okC_enc (xs:=[]) (by simp); have dn:decC ([]:List LV)=[]:=rfl
 have l0:=cell_n x0.1; have xn0:=xnoid_c x0.1; have l1:=cell_n x1.1; have xn1:=xnoid_c x1.1; have l2:=cell_n x2.1; have xn2:=xnoid_c x2.1; have l3:=cell_n x3.1; have xn3:=xnoid_c x3.1; have l4:=cell_n x4.1; have xn4:=xnoid_c x4.1; have l5:=cell_n x5.1; have xn5:=xnoid_c x5.1
 have t5:=(celL_wf (ls:=[x5]) fun y hy=>h.uq y (List.mem_of_mem_drop (i:=5) (l:=[x0,x1,x2,x3,x4,x5]) hy)).2.2
 simp only [totC] at t5
 have w5:wTc 96 [] x5.1=celL [x5]:=wTc_pls (h.uq x5 (by simp)).2 (by simp only [List.length_nil]; omega)
 have kc5:okC (encL cell (celL [x5])) (celL [x5]).length=true:=okC_enc (by omega)
 have t4:=(celL_wf (ls:=[x4,x5]) fun y hy=>h.uq y (List.mem_of_mem_drop (i:=4) (l:=[x0,x1,x2,x3,x4,x5]) hy)).2.2
 simp only [totC] at t4
 have w4:wTc 96 (celL [x5]) x4.1=celL [x4,x5]:=wTc_pls (h.uq x4 (by simp)).2 (by omega)
 have kc4:okC (encL cell (celL [x4,x5])) (celL [x4,x5]).length=true:=okC_enc (by omega)
 have t3:=(celL_wf (ls:=[x3,x4,x5]) fun y hy=>h.uq y (List.mem_of_mem_drop (i:=3) (l:=[x0,x1,x2,x3,x4,x5]) hy)).2.2
 simp only [totC] at t3
 have w3:wTc 96 (celL [x4,x5]) x3.1=celL [x3,x4,x5]:=wTc_pls (h.uq x3 (by simp)).2 (by omega)
 have kc3:okC (encL cell (celL [x3,x4,x5])) (celL [x3,x4,x5]).length=true:=okC_enc (by omega)
 have t2:=(celL_wf (ls:=[x2,x3,x4,x5]) fun y hy=>h.uq y (List.mem_of_mem_drop (i:=2) (l:=[x0,x1,x2,x3,x4,x5]) hy)).2.2
 simp only [totC] at t2
 have w2:wTc 96 (celL [x3,x4,x5]) x2.1=celL [x2,x3,x4,x5]:=wTc_pls (h.uq x2 (by simp)).2 (by omega)
 have kc2:okC (encL cell (celL [x2,x3,x4,x5])) (celL [x2,x3,x4,x5]).length=true:=okC_enc (by omega)
 have t1:=(celL_wf (ls:=[x1,x2,x3,x4,x5]) fun y hy=>h.uq y (List.mem_of_mem_drop (i:=1) (l:=[x0,x1,x2,x3,x4,x5]) hy)).2.2
 simp only [totC] at t1
 have w1:wTc 96 (celL [x2,x3,x4,x5]) x1.1=celL [x1,x2,x3,x4,x5]:=wTc_pls (h.uq x1 (by simp)).2 (by omega)
 have kc1:okC (encL cell (celL [x1,x2,x3,x4,x5])) (celL [x1,x2,x3,x4,x5]).length=true:=okC_enc (by omega)
 have t0:=(celL_wf (ls:=[x0,x1,x2,x3,x4,x5]) fun y hy=>h.uq y (List.mem_of_mem_drop (i:=0) (l:=[x0,x1,x2,x3,x4,x5]) hy)).2.2
 simp only [totC] at t0
 have w0:wTc 96 (celL [x1,x2,x3,x4,x5]) x0.1=celL [x0,x1,x2,x3,x4,x5]:=wTc_pls (h.uq x0 (by simp)).2 (by omega)
 have kc0:okC (encL cell (celL [x0,x1,x2,x3,x4,x5])) (celL [x0,x1,x2,x3,x4,x5]).length=true:=okC_enc (by omega)
 have nn:=noids_c (celL [x0,x1,x2,x3,x4,x5]); have ln:=cell_n (celL [x0,x1,x2,x3,x4,x5]); have nx:=xnoid_c (celL [x0,x1,x2,x3,x4,x5])
 refine zE cxl4_ok ?_
 show xsp _ _ _ _ _ _ (mkS (at6 (lvH6 most) x0 x1 x2 x3 x4 x5)) _
 rw [lc_6]
 simp only [okn,dn,wtN,wtC,decC_enc,w5,w4,w3,w2,w1,w0,ok0,le0,xn0,ok1,le1,xn1,ok2,le2,xn2,ok3,le3,xn3,ok4,le4,xn4,ok5,le5,xn5,kc0,kc1,kc2,kc3,kc4,kc5,nx,cond_true]
 simp only [wd_nat,wd_asV,wd_isV,wd_ix,wd_add,wd_mul,wd_ln,Nat.zero_add,Nat.mul_one,wd_isI,wd_asI,wd_isB,wd_asB,wd_nn,cI_tlen,cB_tlen,cII_tlen,decide_true,cond_true,wd_not_t,wd_not_f,wd_and_t,wd_and_f,l0,l1,l2,l3,l4,l5,ln]
 (refine zR ?_)
 exact⟨trivial,rfl,.slo 3 0 (celL [x0,x1,x2,x3,x4,x5]).length 0,at6 (lvI6 most (celL [x0,x1,x2,x3,x4,x5]).length (encL cell (celL [x0,x1,x2,x3,x4,x5]))) x0 x1 x2 x3 x4 x5,[.id 0,.id 1,.id 2,.id 41,.id 3,.id 4,.id 5,.id 6,.id 7,.id 8,.id 9,.id 10,.id 11,.id 12,.id 13,.id 14,.id 15,.id 16,.id 17,.id 18,.id 19,.id 20,.id 21,.id 22,.id 23,.id 24,.id 25,.id 26],⟨rfl,h,rfl⟩,by(exact zC)⟩
theorem lcells_ok (most:Int) (ls:List Lv):SFun prog 64 [.ptr 0 0] (mkS (lvS most ls.length (encLs ls) [])) fun l t=>l=.slo 3 0 (celL ls).length 0∧t=mkS (lvS' most ls.length (encLs ls) (Row (celL ls))):=by
 refine lv_meth (nt:=26) (L:=[2]) (ts:=[2]) (A:=[]) (by kernel_rfl) rfl rfl (by kernel_rfl) (own3_row _) (by simp) (fun ρ h=>lw_slo (h 3 (by simp))) fun h=>Ls.cases h ?_ ?_ ?_ ?_ ?_ ?_
 ·intro x0 e; subst e; exact lcells_1 most x0 h
 ·intro x0 x1 e; subst e; exact lcells_2 most x0 x1 h
 ·intro x0 x1 x2 e; subst e; exact lcells_3 most x0 x1 x2 h
 ·intro x0 x1 x2 x3 e; subst e; exact lcells_4 most x0 x1 x2 x3 h
 ·intro x0 x1 x2 x3 x4 e; subst e; exact lcells_5 most x0 x1 x2 x3 x4 h
 ·intro x0 x1 x2 x3 x4 x5 e; subst e; exact lcells_6 most x0 x1 x2 x3 x4 x5 h
end
end Go.Lev
