/- chapter 9: the reference's levels: Whole -/
import Derived.Test.YtbeolgofafknmaaGreatDoorCW22
import Derived.Test.YtbeolgofafknmaaGreatDoorLc
import Derived.Test.YtbeolgofafknmaaGreatDoorChecked
import Derived.KernelRfl
namespace Go.Lev
set_option linter.unusedSimpArgs false
set_option linter.unusedVariables false
open Go.RowKit
open Go.Proofs.Tryz (prog)
set_option maxRecDepth 100000
noncomputable section
theorem xcat_nil {ys:List LV}:xcat [] ys=ys:=rfl
theorem xcut_nil {a n:Nat}:xcut [] a n=[]:=by simp [xcut]
theorem pl_new:∀ {acc:CL} {c:Int×Int},¬ keyIn c.1 acc→pl acc c=acc++[c]
 | [],c,_=>rfl
 | b::r,c,h=>by
   rw [pl,if_neg fun e=>h (key_cons.2 (.inl e)),pl_new fun e=>h (key_cons.2 (.inr e))]; rfl
theorem pls_new':∀ (y acc:CL),uniq y→(∀ a,keyIn a y→¬ keyIn a acc)→pls acc y=acc++y
 | [],acc,_,_=>by simp
 | c::r,acc,h,k=>by
   have e:pl acc c=acc++[c]:=pl_new (k c.1 (key_cons.2 (.inl rfl)))
   show pls (pl acc c) r=_
   rw [e,pls_new' r (acc++[c]) h.2 fun a ha hb=>?_]
   ·simp
   ·obtain⟨d,hd,rfl⟩:=hb
    rcases List.mem_append.1 hd with hd | hd
    ·exact k d.1 (key_cons.2 (.inr ha)) ⟨d,hd,rfl⟩
    ·rw [List.mem_singleton.1 hd] at ha; exact h.1 ha
theorem pls_self {y:CL} (h:uniq y):pls [] y=y:=by rw [pls_new' y [] h fun a _ k=>key_nil k]; rfl
theorem celL_kp {ls:List Lv} (h:OkLs ls):celL (kpL ls)=celL ls:=by
 match ls,h with
 | [],_=>rfl
 | [x],_=>rfl
 | x::y::r,h=>simp only [kpL,celL]; exact pls_pls (celL r) x.1 y.1 (h.uq y (by simp)).1
theorem kpL_len {ls:List Lv} (h:1 < ls.length):(kpL ls).length+1=ls.length:=by
 match ls,h with
 | x::y::r,_=>rfl
 | [x],h=>simp at h
 | [],h=>simp at h
def whU (most:Int) (ls:List Lv):List LB:=[.cells [.int .i64 most,.slo 1 0 ls.length 0] none,.cells (slos 6 ls).reverse (some 2),.dead,.dead,.cells (encL cell (celL ls)) (some 2),.cells (encL (cI .i64) (freL ls)) (some 1)]++hidR 6 ls
def whQ (most:Int) (ls:List Lv):LV→List LB→Prop:=fun l b=>l=.agg [.slo 4 0 (celL ls).length 0,.slo 5 0 (freL ls).length 0]∧OkLs ls∧b=whU most ls
abbrev whE (most:Int) (ls:List Lv) (fs:List Int):List LB:=.cells [.int .i64 most,.slo 1 0 ls.length 0] none::.cells (slos 8 ls).reverse (some 2)::.dead::.cells [.nils,.nils] none::.dead::.cells [.slo 6 0 (celL ls).length 0,.slo 7 0 fs.length 0] none::.cells (encL cell (celL ls)) (some 2)::.cells (encL (cI .i64) fs) (some 1)::hidR 8 ls
theorem owh_1 (most:Int) (x0:Lv) (h:OkLs [x0]):SSp prog 46 ((sp prog 26).drop 5) 3 (mkTm 46 (whS 0)) (mkS (whE most [x0] [])) (vK whL (endC prog 3 2 65 whL [] (whQ most [x0]))):=by
 have hc:=h.c; have hf:=h.f; simp only [totC] at hc; simp only [totF] at hf
 have hn:freL [x0]=x0.2:=by simp only [freL,List.nil_append]
 have hl:(freL [x0]).length=x0.2.length:=by simp only [hn,List.length_append]
 have ncc:=noids_c (celL [x0])
 refine zE noCx_ok ?_
 show xsp _ _ _ _ _ _ (mkS (at1 (whF1 most (celL [x0]).length 0 (encL cell (celL [x0])) []) x0)) _
 rw [wf_1]
 (refine zN7 @encIi64_len @ints_all @ints_cat2 @lapp @lrefl @xcat_nil @xcut_nil ?_)
 (refine zR ?_)
 refine⟨trivial,rfl,3,_,_,_,.agg [.slo 4 0 (celL [x0]).length 0,.slo 5 0 (freL [x0]).length 0],whU most [x0],[.id 0,.id 1,.id 2,.id 4,.id 6,.id 10,.id 8,.id 9],rfl,rfl,rfl,⟨rfl,h,rfl⟩,?_⟩
 show convOk _ _ _ _ _ _ _ [.cells [.int .i64 most,.slo 1 0 1 0] none,.cells [.slo 6 0 x0.1.length 0,.slo 7 0 x0.2.length 0] (some 2),.dead,.dead,.cells (encL cell (celL [x0])) (some 2),.cells (encL (cI .i64) (freL [x0])) (some 1),.cells (encL cell x0.1) (some 2),.cells (encL (cI .i64) x0.2) (some 1)]
 rw [hl,hn]; (exact zC)
theorem owh_2 (most:Int) (x0 x1:Lv) (h:OkLs [x0,x1]):SSp prog 46 ((sp prog 26).drop 5) 3 (mkTm 46 (whS 0)) (mkS (whE most [x0,x1] [])) (vK whL (endC prog 3 2 65 whL [] (whQ most [x0,x1]))):=by
 have hc:=h.c; have hf:=h.f; simp only [totC] at hc; simp only [totF] at hf
 have hn:freL [x0,x1]=x1.2++x0.2:=by simp only [freL,List.nil_append]
 have hl:(freL [x0,x1]).length=x1.2.length+x0.2.length:=by simp only [hn,List.length_append]
 have ncc:=noids_c (celL [x0,x1])
 refine zE noCx_ok ?_
 show xsp _ _ _ _ _ _ (mkS (at2 (whF2 most (celL [x0,x1]).length 0 (encL cell (celL [x0,x1])) []) x0 x1)) _
 rw [wf_2]
 (refine zN7 @encIi64_len @ints_all @ints_cat2 @lapp @lrefl @xcat_nil @xcut_nil ?_)
 (refine zR ?_)
 refine⟨trivial,rfl,3,_,_,_,.agg [.slo 4 0 (celL [x0,x1]).length 0,.slo 5 0 (freL [x0,x1]).length 0],whU most [x0,x1],[.id 0,.id 1,.id 2,.id 4,.id 6,.id 13,.id 8,.id 9,.id 10,.id 11],rfl,rfl,rfl,⟨rfl,h,rfl⟩,?_⟩
 show convOk _ _ _ _ _ _ _ [.cells [.int .i64 most,.slo 1 0 2 0] none,.cells [.slo 8 0 x1.1.length 0,.slo 9 0 x1.2.length 0,.slo 6 0 x0.1.length 0,.slo 7 0 x0.2.length 0] (some 2),.dead,.dead,.cells (encL cell (celL [x0,x1])) (some 2),.cells (encL (cI .i64) (freL [x0,x1])) (some 1),.cells (encL cell x0.1) (some 2),.cells (encL (cI .i64) x0.2) (some 1),.cells (encL cell x1.1) (some 2),.cells (encL (cI .i64) x1.2) (some 1)]
 rw [hl,hn]; (exact zC)
theorem owh_3 (most:Int) (x0 x1 x2:Lv) (h:OkLs [x0,x1,x2]):SSp prog 46 ((sp prog 26).drop 5) 3 (mkTm 46 (whS 0)) (mkS (whE most [x0,x1,x2] [])) (vK whL (endC prog 3 2 65 whL [] (whQ most [x0,x1,x2]))):=by
 have hc:=h.c; have hf:=h.f; simp only [totC] at hc; simp only [totF] at hf
 have hn:freL [x0,x1,x2]=x2.2++x1.2++x0.2:=by simp only [freL,List.nil_append]
 have hl:(freL [x0,x1,x2]).length=x2.2.length+x1.2.length+x0.2.length:=by simp only [hn,List.length_append]
 have ncc:=noids_c (celL [x0,x1,x2])
 refine zE noCx_ok ?_
 show xsp _ _ _ _ _ _ (mkS (at3 (whF3 most (celL [x0,x1,x2]).length 0 (encL cell (celL [x0,x1,x2])) []) x0 x1 x2)) _
 rw [wf_3]
 (refine zN7 @encIi64_len @ints_all @ints_cat2 @lapp @lrefl @xcat_nil @xcut_nil ?_)
 (refine zR ?_)
 refine⟨trivial,rfl,3,_,_,_,.agg [.slo 4 0 (celL [x0,x1,x2]).length 0,.slo 5 0 (freL [x0,x1,x2]).length 0],whU most [x0,x1,x2],[.id 0,.id 1,.id 2,.id 4,.id 6,.id 16,.id 8,.id 9,.id 10,.id 11,.id 12,.id 13],rfl,rfl,rfl,⟨rfl,h,rfl⟩,?_⟩
 show convOk _ _ _ _ _ _ _ [.cells [.int .i64 most,.slo 1 0 3 0] none,.cells [.slo 10 0 x2.1.length 0,.slo 11 0 x2.2.length 0,.slo 8 0 x1.1.length 0,.slo 9 0 x1.2.length 0,.slo 6 0 x0.1.length 0,.slo 7 0 x0.2.length 0] (some 2),.dead,.dead,.cells (encL cell (celL [x0,x1,x2])) (some 2),.cells (encL (cI .i64) (freL [x0,x1,x2])) (some 1),.cells (encL cell x0.1) (some 2),.cells (encL (cI .i64) x0.2) (some 1),.cells (encL cell x1.1) (some 2),.cells (encL (cI .i64) x1.2) (some 1),.cells (encL cell x2.1) (some 2),.cells (encL (cI .i64) x2.2) (some 1)]
 rw [hl,hn]; (exact zC)
theorem owh_4 (most:Int) (x0 x1 x2 x3:Lv) (h:OkLs [x0,x1,x2,x3]):SSp prog 46 ((sp prog 26).drop 5) 3 (mkTm 46 (whS 0)) (mkS (whE most [x0,x1,x2,x3] [])) (vK whL (endC prog 3 2 65 whL [] (whQ most [x0,x1,x2,x3]))):=by
 have hc:=h.c; have hf:=h.f; simp only [totC] at hc; simp only [totF] at hf
 have hn:freL [x0,x1,x2,x3]=x3.2++x2.2++x1.2++x0.2:=by simp only [freL,List.nil_append]
 have hl:(freL [x0,x1,x2,x3]).length=x3.2.length+x2.2.length+x1.2.length+x0.2.length:=by simp only [hn,List.length_append]
 have ncc:=noids_c (celL [x0,x1,x2,x3])
 refine zE noCx_ok ?_
 show xsp _ _ _ _ _ _ (mkS (at4 (whF4 most (celL [x0,x1,x2,x3]).length 0 (encL cell (celL [x0,x1,x2,x3])) []) x0 x1 x2 x3)) _
 rw [wf_4]
 (refine zN7 @encIi64_len @ints_all @ints_cat2 @lapp @lrefl @xcat_nil @xcut_nil ?_)
 (refine zR ?_)
 refine⟨trivial,rfl,3,_,_,_,.agg [.slo 4 0 (celL [x0,x1,x2,x3]).length 0,.slo 5 0 (freL [x0,x1,x2,x3]).length 0],whU most [x0,x1,x2,x3],[.id 0,.id 1,.id 2,.id 4,.id 6,.id 19,.id 8,.id 9,.id 10,.id 11,.id 12,.id 13,.id 14,.id 15],rfl,rfl,rfl,⟨rfl,h,rfl⟩,?_⟩
 show convOk _ _ _ _ _ _ _ [.cells [.int .i64 most,.slo 1 0 4 0] none,.cells [.slo 12 0 x3.1.length 0,.slo 13 0 x3.2.length 0,.slo 10 0 x2.1.length 0,.slo 11 0 x2.2.length 0,.slo 8 0 x1.1.length 0,.slo 9 0 x1.2.length 0,.slo 6 0 x0.1.length 0,.slo 7 0 x0.2.length 0] (some 2),.dead,.dead,.cells (encL cell (celL [x0,x1,x2,x3])) (some 2),.cells (encL (cI .i64) (freL [x0,x1,x2,x3])) (some 1),.cells (encL cell x0.1) (some 2),.cells (encL (cI .i64) x0.2) (some 1),.cells (encL cell x1.1) (some 2),.cells (encL (cI .i64) x1.2) (some 1),.cells (encL cell x2.1) (some 2),.cells (encL (cI .i64) x2.2) (some 1),.cells (encL cell x3.1) (some 2),.cells (encL (cI .i64) x3.2) (some 1)]
 rw [hl,hn]; (exact zC)
theorem owh_5 (most:Int) (x0 x1 x2 x3 x4:Lv) (h:OkLs [x0,x1,x2,x3,x4]):SSp prog 46 ((sp prog 26).drop 5) 3 (mkTm 46 (whS 0)) (mkS (whE most [x0,x1,x2,x3,x4] [])) (vK whL (endC prog 3 2 65 whL [] (whQ most [x0,x1,x2,x3,x4]))):=by
 have hc:=h.c; have hf:=h.f; simp only [totC] at hc; simp only [totF] at hf
 have hn:freL [x0,x1,x2,x3,x4]=x4.2++x3.2++x2.2++x1.2++x0.2:=by simp only [freL,List.nil_append]
 have hl:(freL [x0,x1,x2,x3,x4]).length=x4.2.length+x3.2.length+x2.2.length+x1.2.length+x0.2.length:=by simp only [hn,List.length_append]
 have ncc:=noids_c (celL [x0,x1,x2,x3,x4])
 refine zE noCx_ok ?_
 show xsp _ _ _ _ _ _ (mkS (at5 (whF5 most (celL [x0,x1,x2,x3,x4]).length 0 (encL cell (celL [x0,x1,x2,x3,x4])) []) x0 x1 x2 x3 x4)) _
 rw [wf_5]
 (refine zN7 @encIi64_len @ints_all @ints_cat2 @lapp @lrefl @xcat_nil @xcut_nil ?_)
 (refine zR ?_)
 refine⟨trivial,rfl,3,_,_,_,.agg [.slo 4 0 (celL [x0,x1,x2,x3,x4]).length 0,.slo 5 0 (freL [x0,x1,x2,x3,x4]).length 0],whU most [x0,x1,x2,x3,x4],[.id 0,.id 1,.id 2,.id 4,.id 6,.id 22,.id 8,.id 9,.id 10,.id 11,.id 12,.id 13,.id 14,.id 15,.id 16,.id 17],rfl,rfl,rfl,⟨rfl,h,rfl⟩,?_⟩
 show convOk _ _ _ _ _ _ _ [.cells [.int .i64 most,.slo 1 0 5 0] none,.cells [.slo 14 0 x4.1.length 0,.slo 15 0 x4.2.length 0,.slo 12 0 x3.1.length 0,.slo 13 0 x3.2.length 0,.slo 10 0 x2.1.length 0,.slo 11 0 x2.2.length 0,.slo 8 0 x1.1.length 0,.slo 9 0 x1.2.length 0,.slo 6 0 x0.1.length 0,.slo 7 0 x0.2.length 0] (some 2),.dead,.dead,.cells (encL cell (celL [x0,x1,x2,x3,x4])) (some 2),.cells (encL (cI .i64) (freL [x0,x1,x2,x3,x4])) (some 1),.cells (encL cell x0.1) (some 2),.cells (encL (cI .i64) x0.2) (some 1),.cells (encL cell x1.1) (some 2),.cells (encL (cI .i64) x1.2) (some 1),.cells (encL cell x2.1) (some 2),.cells (encL (cI .i64) x2.2) (some 1),.cells (encL cell x3.1) (some 2),.cells (encL (cI .i64) x3.2) (some 1),.cells (encL cell x4.1) (some 2),.cells (encL (cI .i64) x4.2) (some 1)]
 rw [hl,hn]; (exact zC)
theorem owh_6 (most:Int) (x0 x1 x2 x3 x4 x5:Lv) (h:OkLs [x0,x1,x2,x3,x4,x5]):SSp prog 46 ((sp prog 26).drop 5) 3 (mkTm 46 (whS 0)) (mkS (whE most [x0,x1,x2,x3,x4,x5] [])) (vK whL (endC prog 3 2 65 whL [] (whQ most [x0,x1,x2,x3,x4,x5]))):=by
 have hc:=h.c; have hf:=h.f; simp only [totC] at hc; simp only [totF] at hf
 have hn:freL [x0,x1,x2,x3,x4,x5]=x5.2++x4.2++x3.2++x2.2++x1.2++x0.2:=by simp only [freL,List.nil_append]
 have hl:(freL [x0,x1,x2,x3,x4,x5]).length=x5.2.length+x4.2.length+x3.2.length+x2.2.length+x1.2.length+x0.2.length:=by simp only [hn,List.length_append]
 have ncc:=noids_c (celL [x0,x1,x2,x3,x4,x5])
 refine zE noCx_ok ?_
 show xsp _ _ _ _ _ _ (mkS (at6 (whF6 most (celL [x0,x1,x2,x3,x4,x5]).length 0 (encL cell (celL [x0,x1,x2,x3,x4,x5])) []) x0 x1 x2 x3 x4 x5)) _
 rw [wf_6]
 (refine zN7 @encIi64_len @ints_all @ints_cat2 @lapp @lrefl @xcat_nil @xcut_nil ?_)
 (refine zR ?_)
 refine⟨trivial,rfl,3,_,_,_,.agg [.slo 4 0 (celL [x0,x1,x2,x3,x4,x5]).length 0,.slo 5 0 (freL [x0,x1,x2,x3,x4,x5]).length 0],whU most [x0,x1,x2,x3,x4,x5],[.id 0,.id 1,.id 2,.id 4,.id 6,.id 25,.id 8,.id 9,.id 10,.id 11,.id 12,.id 13,.id 14,.id 15,.id 16,.id 17,.id 18,.id 19],rfl,rfl,rfl,⟨rfl,h,rfl⟩,?_⟩
 show convOk _ _ _ _ _ _ _ [.cells [.int .i64 most,.slo 1 0 6 0] none,.cells [.slo 16 0 x5.1.length 0,.slo 17 0 x5.2.length 0,.slo 14 0 x4.1.length 0,.slo 15 0 x4.2.length 0,.slo 12 0 x3.1.length 0,.slo 13 0 x3.2.length 0,.slo 10 0 x2.1.length 0,.slo 11 0 x2.2.length 0,.slo 8 0 x1.1.length 0,.slo 9 0 x1.2.length 0,.slo 6 0 x0.1.length 0,.slo 7 0 x0.2.length 0] (some 2),.dead,.dead,.cells (encL cell (celL [x0,x1,x2,x3,x4,x5])) (some 2),.cells (encL (cI .i64) (freL [x0,x1,x2,x3,x4,x5])) (some 1),.cells (encL cell x0.1) (some 2),.cells (encL (cI .i64) x0.2) (some 1),.cells (encL cell x1.1) (some 2),.cells (encL (cI .i64) x1.2) (some 1),.cells (encL cell x2.1) (some 2),.cells (encL (cI .i64) x2.2) (some 1),.cells (encL cell x3.1) (some 2),.cells (encL (cI .i64) x3.2) (some 1),.cells (encL cell x4.1) (some 2),.cells (encL (cI .i64) x4.2) (some 1),.cells (encL cell x5.1) (some 2),.cells (encL (cI .i64) x5.2) (some 1)]
 rw [hl,hn]; (exact zC)
theorem owhole_ok (most:Int) (ls:List Lv) (h:OkLs ls) (hm:(totC ls:Int)≤most) (hm2:most≤96):SFun prog 26 [.ptr 0 0] (mkS (whI most ls.length (encLs ls))) fun l t=>l=.agg [.slo 4 0 (celL ls).length 0,.slo 5 0 (freL ls).length 0]∧t=mkS [.cells [.int .i64 most,.slo 1 0 ls.length 0] none,.obj orF (encLs ls) 6,.dead,.dead,.cells (encL cell (celL ls)) (some 2),.cells (encL (cI .i64) (freL ls)) (some 1),.dead]:=by
 have h1:SFun prog 26 [.ptr 0 0] (mkS (whI most ls.length (encLs ls))) fun l t=>∃ b0,whQ most ls l b0∧t=mkS b0:=by
  refine SFun.piecesC (Q:=whQ most ls) 46 3 2 65 whL (by kernel_rfl) rfl rfl rfl ?_
  have fo:=isF_self orF
  have ok0:=okR_enc h hm hm2
  refine SSp.to cxo3_ok (n:=60) (g:=[]) 2 2 rfl (σ:=Unit) (fun _=>whT) (fun _=>whA most ls.length (encLs ls) ls.length (encLs ls)) (mkS_le (Nat.le_of_ble_eq_true rfl)) (by kernel_rfl) ?_ fun _=>?_
  ·rw [wh_a,ok0,fo]
   exact⟨rfl,(),[.id 0,.id 1,.id 2,.id 3,.id 7,.id 4,.id 5,.id 6],by(exact zC)⟩
  refine SSp.code_to (g:=[]) 3 rfl (σ:={z:Lv // uniq z.1∧z.1=celL ls}) (fun _=>whT) (fun z=>whA most ls.length (encLs ls) 1 (encLs [z.1])) (by kernel_rfl) ?_ fun⟨z,hz,ez⟩=>?_
  ·refine SCode.loop_vc cxo3_ok (n:=60) 0 (by kernel_rfl) (σ:={ks:List Lv // OkLs ks∧(totC ks:Int)≤most∧celL ks=celL ls}) (fun _=>whT) (fun ks=>whA most ls.length (encLs ls) ks.1.length (encLs ks.1)) (fun ks=>ks.1.length) (fun _=>Nat.le_of_ble_eq_true rfl) (fun⟨ks,k1,k2,k3⟩=>?_) ⟨ls,h,hm,rfl⟩
   dsimp only
   rw [wh_b]
   have h1:1≤ks.length:=List.length_pos_iff.2 k1.ne
   have okk:=okR_enc k1 k2 hm2
   by_cases c:1 < ks.length
   ·obtain⟨g1,g2⟩:=kpL_ok k1
    have g3:=kpL_len c
    simp only [okk,fo,lkeepE,lkeepD,lkeepC,decLs_enc]
    (refine zR ?_)
    exact⟨rfl,⟨kpL ks,g1,by omega,by rw [celL_kp k1]; exact k3⟩,by simp only; omega,[.id 0,.id 1,.id 2,.id 3,.id 4,.id 5,.id 8,.id 9],by(exact zC)⟩
   ·obtain⟨z,rfl⟩:∃ z,ks=[z]:=by
     match ks,h1,c with
     | [z],_,_=>exact⟨z,rfl⟩
     | [],h1,_=>simp at h1
     | _::_::_,_,c=>simp at c
    have hz:=(k1.uq z (by simp)).1
    simp only [okk,fo,List.length_cons,List.length_nil]
    (refine zR ?_)
    exact⟨rfl,⟨z,hz,by rw [← k3,celL,celL,pls_self hz]⟩,[.id 0,.id 1,.id 2,.id 3,.id 4,.id 5,.id 6,.id 7],by(exact zC)⟩
  refine SSp.unpack orK_ok 6 (by kernel_rfl) (Nat.le_of_ble_eq_true rfl) rfl fun⟨zs,hzs⟩ e=>?_
  obtain rfl:zs=[z]:=encLs_inj e
  have ncz:=noids_c z.1; have nfz:=noIds_Ii64 z.2; have ncl:=noids_c (celL ls)
  refine SSp.to cxo3_ok (n:=60) (g:=[]) 2 5 rfl (σ:=Unit) (fun _=>whS 0) (fun _=>whC most ls.length (encLs ls) (celL ls).length (encL cell (celL ls)) 0 []) (mkS_le (Nat.le_of_ble_eq_true rfl)) (by kernel_rfl) ?_ fun _=>?_
  ·show xsp _ _ _ _ _ _ (mkS (whK most ls.length (encLs ls) z.1.length z.2.length (encL cell z.1) (encL (cI .i64) z.2))) _
   rw [wh_c,ez]
   exact⟨rfl,(),[.id 0,.id 1,.id 2,.id 3,.id 4,.id 10,.id 8,.none],by(exact zC)⟩
  refine SSp.unpack orK_ok 1 (by kernel_rfl) (Nat.le_of_ble_eq_true rfl) rfl fun⟨l1,hl1⟩ e=>?_
  obtain rfl:l1=ls:=encLs_inj e
  refine Ls.cases h ?_ ?_ ?_ ?_ ?_ ?_
  ·intro x0 e; subst e; exact owh_1 most x0 h
  ·intro x0 x1 e; subst e; exact owh_2 most x0 x1 h
  ·intro x0 x1 x2 e; subst e; exact owh_3 most x0 x1 x2 h
  ·intro x0 x1 x2 x3 e; subst e; exact owh_4 most x0 x1 x2 x3 h
  ·intro x0 x1 x2 x3 x4 e; subst e; exact owh_5 most x0 x1 x2 x3 x4 h
  ·intro x0 x1 x2 x3 x4 x5 e; subst e; exact owh_6 most x0 x1 x2 x3 x4 x5 h
 refine SFun.pack orK_ok 1 h1 fun l t ⟨b0,⟨e1,e2,e3⟩,e4⟩=>⟨⟨ls,e2⟩,[.cells [.int .i64 most,.slo 1 0 ls.length 0] none,.cells (slos 6 ls).reverse (some 2),.dead,.dead,.cells (encL cell (celL ls)) (some 2),.cells (encL (cI .i64) (freL ls)) (some 1)],hidR 6 ls,by rw [e4,e3]; rfl,by simp,rfl,rfl,fun ρ hρ=>⟨?_,?_⟩,e1,rfl⟩
 ·exact bk_cons (lb_cells (lws_cons lw_int (lws_cons (lw_slo (hρ 1 (by simp))) lws_nil)) (by simp)) (bk_cons lb_dead (bk_cons lb_dead (bk_cons lb_dead (bk_cons (lb_same (noids_c _)) (bk_cons (lb_same (noIds_Ii64 _)) bk_nil)))))
 ·rw [e1]; exact lw_agg (lws_cons (lw_slo (hρ 4 (by simp))) (lws_cons (lw_slo (hρ 5 (by simp))) lws_nil))
theorem owhole_c (most:Int) (d:Nat) (cs:List LV) (k1:okR most cs d=true):SFun prog 26 [.ptr 0 0] (mkS (whI most d cs)) fun l t=>l=.agg [.slo 4 0 (lcN cs) 0,.slo 5 0 (lwN cs) 0]∧t=mkS [.cells [.int .i64 most,.slo 1 0 d 0] none,.obj orF cs 6,.dead,.dead,.cells (lcC cs) (some 2),.cells (lwC cs) (some 1),.dead]:=by
 obtain⟨ls,rfl,rfl,h,h1,h2⟩:=okR_iff.1 k1
 simp only [lcN,lwN,lcC,lwC,decLs_enc]
 exact owhole_ok most ls h h1 h2
def owholeG:Gc:=fun args s=>match args,s.g with
 | [.ptr b 0],[]=>(match s.h.get b with
   | some (.cells [.int .i64 most,.slo o 0 d 0] none)=>(match s.h.get o with
     | some (.obj F_o cs e)=>(match s.h.get e with
       | some (.dead)=>cond (nodupB [b,o,e]) (match s.lay [b,o,e] [.cells [.int .i64 most,.slo o 0 d 0] none,.obj orF cs (Nat.succ (Nat.succ (Nat.succ s.n))),.dead] [.dead,.cells (lcC cs) (some 2),.cells (lwC cs) (some 1),.dead] with
         | some s'=>some ([okR most cs d,isF F_o orF],.agg [.slo (Nat.succ s.n) 0 (lcN cs) 0,.slo (Nat.succ (Nat.succ s.n)) 0 (lwN cs) 0],s')
         | none=>none) none
       | _=>none)
     | _=>none)
   | _=>none)
 | _,_=>none
theorem owholeG_ok:GOk prog 26 owholeG:=by
 intro args s bs l s' hg hb hfr
 unfold owholeG at hg
 split at hg
 ·rename_i b hgl
  split at hg
  ·rename_i most o d hb0
   split at hg
   ·rename_i F_o cs e hb1
    split at hg
    ·rename_i  hb2
     cases hbc:nodupB [b,o,e] with
     | false=>rw [hbc] at hg; cases hg
     | true =>
       rw [hbc] at hg
       simp only [cond_true] at hg
       split at hg
       ·rename_i s1 hs1
        simp only [Option.some.injEq,Prod.mk.injEq] at hg
        obtain⟨rfl,rfl,rfl⟩:=hg
        simp only [allT_cons] at hb
        obtain⟨k1,k2,_⟩:=hb
        have e_o:=isF_eq k2
        subst e_o
        refine SFun.lay (bs:=[.cells [.int .i64 most,.slo 1 0 d 0] none,.obj orF cs 2,.dead]) (args0:=[.ptr 0 0]) (bs':=[.cells [.int .i64 most,.slo 1 0 d 0] none,.obj orF cs 6,.dead,.dead,.cells (lcC cs) (some 2),.cells (lwC cs) (some 1),.dead]) (v0:=.agg [.slo 4 0 (lcN cs) 0,.slo 5 0 (lwN cs) 0]) hfr hs1 (nodupB_nd hbc)
         ⟨⟨there hfr hb0,_,hb0,by first | exact lb_same rfl | exact lb_cells (lws_cons (lw_int) (lws_cons (lw_slo rfl) lws_nil)) (by simp),fun κ hκ=>lb_cells (lws_cons (lw_int) (lws_cons (lw_slo (hκ 1 o rfl)) lws_nil)) (by simp)⟩,⟨there hfr hb1,_,hb1,lb_obj rfl,fun κ hκ=>lb_obj (hκ 2 e rfl)⟩,⟨there hfr hb2,_,hb2,lb_dead,fun κ hκ=>lb_dead⟩,trivial⟩ (by(exact zTl)) ?_
         fun κ h1 h2=>⟨⟨lb_cells (lws_cons (lw_int) (lws_cons (lw_slo (h1 1 o rfl)) lws_nil)) (by simp),lb_obj (h2 3 (by simp)),lb_dead,lb_dead,lb_same (noids_c _),lb_same (noIds_Ii64 _),lb_dead,trivial⟩,(lw_agg (lws_cons (lw_slo (h2 1 (by simp))) (lws_cons (lw_slo (h2 2 (by simp))) lws_nil)))⟩
        rw [hgl]; exact(owhole_c most d cs k1)
       ·cases hg
    ·cases hg
   ·cases hg
  ·cases hg
 ·cases hg
end
end Go.Lev
