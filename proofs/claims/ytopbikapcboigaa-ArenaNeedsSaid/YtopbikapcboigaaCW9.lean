/- chapter 9: the code's levels: Open, Drop, Keep: lists and trees -/
import Derived.Test.YtopbikapcboigaaCW8
import Derived.Test.YtopbikapcboigaaLc
import Derived.Test.YtopbikapcboigaaChecked
import Derived.KernelRfl
namespace Go.Lev
set_option linter.unusedSimpArgs false
set_option linter.unusedVariables false
open Go.RowKit
open Go.Proofs.Try (prog)
set_option maxRecDepth 100000
noncomputable section
theorem wTk_pls {m:Int}:∀ (l xs:CL),inK l→(xs.length:Int)+l.length≤m→wTk m xs l=(0,pls xs l)
 | [],xs,_,_=>rfl
 | c::l,xs,h,hn=>by
   have h1:=h c (by simp)
   simp only [List.length_cons] at hn
   have h2:wPe m xs c.1=0:=by
    rw [wPe,if_neg (by omega)]
    split
    ·rfl
    ·rw [if_neg (by omega)]
   have h3:=pl_len xs c
   rw [wTk,if_pos h2]
   exact wTk_pls l (pl xs c) (fun b hb=>h b (by simp [hb])) (by omega)
theorem wTc_pls {m:Int} {l xs:CL} (h:inK l) (hn:(xs.length:Int)+l.length≤m):wTc m xs l=pls xs l:=by rw [wTc,wTk_pls l xs h hn]; rfl
theorem inK_pls:∀ (l:CL) {xs:CL},inK xs→inK l→inK (pls xs l)
 | [],xs,h,_=>h
 | c::l,xs,h,k=>by
   refine inK_pls l (xs:=pl xs c) (fun b hb=>?_) fun b hb=>k b (by simp [hb])
   rcases key_pl.1 (⟨b,hb,rfl⟩:keyIn b.1 (pl xs c)) with q | q
   ·exact inK_key h q
   ·rw [← q]; exact k c (by simp)
def opE (ls:List Lv):Int:=if 6≤ls.length then 9 else 0
def opL (ls:List Lv):List Lv:=if 6≤ls.length then ls else([],[])::ls
def clE (ls:List Lv):Int:=if ls.length=1 then 10 else 0
def drL:List Lv→List Lv
 | _::y::r=>y::r
 | ls=>ls
def kpL:List Lv→List Lv
 | x::y::r=>(pls y.1 x.1,y.2++x.2)::r
 | ls=>ls
theorem opL_ok {ls:List Lv} (h:OkLs ls):OkLs (opL ls)∧totC (opL ls)=totC ls:=by
 unfold opL
 by_cases c:6≤ls.length
 ·rw [if_pos c]; exact⟨h,rfl⟩
 ·rw [if_neg c]
  exact⟨⟨by simp,by simp only [List.length_cons]; omega,fun x hx=>by rcases List.mem_cons.1 hx with rfl | hx; exact⟨trivial,fun c hc=>by cases hc⟩; exact h.uq x hx,by simpa [totC] using h.c,by simpa [totF] using h.f⟩,by simp [totC]⟩
theorem drL_ok {ls:List Lv} (h:OkLs ls):OkLs (drL ls)∧totC (drL ls)≤totC ls:=by
 match ls,h with
 | [],h=>exact⟨h,Nat.le_refl _⟩
 | [x],h=>exact⟨h,Nat.le_refl _⟩
 | x::y::r,h =>
   have hc:=h.c; have hf:=h.f; have h6:=h.six
   simp only [totC] at hc; simp only [totF] at hf; simp only [List.length_cons] at h6
   exact⟨⟨by simp [drL],by simp only [drL,List.length_cons]; omega,fun z hz=>h.uq z (by simp only [drL] at hz; exact List.mem_cons_of_mem _ hz),by simp only [drL,totC]; omega,by simp only [drL,totF]; omega⟩,by simp only [drL,totC]; omega⟩
theorem kpL_ok {ls:List Lv} (h:OkLs ls):OkLs (kpL ls)∧totC (kpL ls)≤totC ls:=by
 match ls,h with
 | [],h=>exact⟨h,Nat.le_refl _⟩
 | [x],h=>exact⟨h,Nat.le_refl _⟩
 | x::y::r,h =>
   have hc:=h.c; have hf:=h.f; have h6:=h.six
   simp only [totC] at hc; simp only [totF] at hf; simp only [List.length_cons] at h6
   have hl:=pls_len x.1 y.1
   have hx:=h.uq x (by simp); have hy:=h.uq y (by simp)
   refine⟨⟨by simp [kpL],by simp only [kpL,List.length_cons]; omega,fun z hz=>?_,by simp only [kpL,totC]; omega,by simp only [kpL,totF,List.length_append]; omega⟩,by simp only [kpL,totC]; omega⟩
   simp only [kpL] at hz
   rcases List.mem_cons.1 hz with rfl | hz
   ·exact⟨uniq_pls _ hy.1,inK_pls _ hy.2 hx.2⟩
   ·exact h.uq z (by simp [hz])
def lvW (most:Int) (ls:List Lv):List LB:=.cells [.int .i64 most,.slo 3 0 ls.length 0] none::.dead::.dead::.cells (ptrs 4 ls).reverse (some 1)::hidC 4 ls
def orW (most:Int) (ls:List Lv):List LB:=.cells [.int .i64 most,.slo 3 0 ls.length 0] none::.dead::.dead::.cells (slos 4 ls).reverse (some 2)::hidR 4 ls
abbrev lvN (most:Int) (d:Nat) (cs:List LV):List LB:=[.cells [.int .i64 most,.slo 3 0 d 0] none,.dead,.dead,.obj lvF cs 4,.dead]
abbrev orN (most:Int) (d:Nat) (cs:List LV):List LB:=[.cells [.int .i64 most,.slo 3 0 d 0] none,.dead,.dead,.obj orF cs 4,.dead]
def lvP (most:Int) (ls:List Lv) (l:LV):LV→List LB→Prop:=fun l1 b=>l1=l∧OkLs ls∧b=lvW most ls
def orP (most:Int) (ls:List Lv) (l:LV):LV→List LB→Prop:=fun l1 b=>l1=l∧OkLs ls∧b=orW most ls
theorem lv_move {f nt:Nat} {L ts:List Nat} {args:List LV} {most:Int} {ls ls':List Lv} {l:LV} (hf:fnOk prog f nt ts args.length=true) (ht:(initTm args 0 .leaf).isSome=true) (hin:allIn ts L=true) (hs:Nat.blt 0 (sp prog f).length=true) (hl:noId l=true)
  (h:OkLs ls→SSp prog nt ((sp prog f).drop 0) 3 (tm0 args) (mkS (lvU most ls [])) (vK L (endK 3 ts L [] (lvP most ls' l)))) :
  SFun prog f args (mkS (lvS most ls.length (encLs ls) [])) fun l1 t=>l1=l∧t=mkS (lvN most ls'.length (encLs ls')):=by
 have key:=SFun.shut (P:=prog) (f:=f) (args:=args) (K:=lvK) (bs:=lvS most ls.length (encLs ls) []) (B:=[.cells [.int .i64 most,.slo 3 0 ls'.length 0] none,.dead,.dead,.dead]) (cs:=encLs ls') (l:=l) (g:=[]) lvK_ok 3 (by simp) (by simp) (fun ρ h=>⟨bk_cons (lb_cells (lws_cons lw_int (lws_cons (lw_slo (h 3 (by simp))) lws_nil)) (by simp)) (bk_cons lb_dead (bk_cons lb_dead (bk_cons lb_dead bk_nil))),lw_noid hl⟩) ?_
 ·exact key
 refine SFun.pieces (Q:=fun l1 b=>l1=l∧∃ v:lvK.σ,lvK.enc v=encLs ls'∧b=[.cells [.int .i64 most,.slo 3 0 ls'.length 0] none,.dead,.dead,(lvK.sh v 3 4).1]++(lvK.sh v 3 4).2) nt 3 L ts hf rfl ht hin ?_
 refine SSp.unpack lvK_ok 1 hs (Nat.le_refl _) rfl fun⟨ls1,h1⟩ e=>?_
 obtain rfl:ls1=ls:=encLs_inj e
 exact endK_mono (fun l1 b ⟨q1,q2,q3⟩=>⟨q1,⟨_,q2⟩,rfl,q3⟩) (h h1)
theorem or_move {f nt:Nat} {L ts:List Nat} {args:List LV} {most:Int} {ls ls':List Lv} {l:LV} (hf:fnOk prog f nt ts args.length=true) (ht:(initTm args 0 .leaf).isSome=true) (hin:allIn ts L=true) (hs:Nat.blt 0 (sp prog f).length=true) (hl:noId l=true)
  (h:OkLs ls→SSp prog nt ((sp prog f).drop 0) 3 (tm0 args) (mkS (orU most ls [])) (vK L (endK 3 ts L [] (orP most ls' l)))) :
  SFun prog f args (mkS (orS most ls.length (encLs ls) [])) fun l1 t=>l1=l∧t=mkS (orN most ls'.length (encLs ls')):=by
 have key:=SFun.shut (P:=prog) (f:=f) (args:=args) (K:=orK) (bs:=orS most ls.length (encLs ls) []) (B:=[.cells [.int .i64 most,.slo 3 0 ls'.length 0] none,.dead,.dead,.dead]) (cs:=encLs ls') (l:=l) (g:=[]) orK_ok 3 (by simp) (by simp) (fun ρ h=>⟨bk_cons (lb_cells (lws_cons lw_int (lws_cons (lw_slo (h 3 (by simp))) lws_nil)) (by simp)) (bk_cons lb_dead (bk_cons lb_dead (bk_cons lb_dead bk_nil))),lw_noid hl⟩) ?_
 ·exact key
 refine SFun.pieces (Q:=fun l1 b=>l1=l∧∃ v:orK.σ,orK.enc v=encLs ls'∧b=[.cells [.int .i64 most,.slo 3 0 ls'.length 0] none,.dead,.dead,(orK.sh v 3 4).1]++(orK.sh v 3 4).2) nt 3 L ts hf rfl ht hin ?_
 refine SSp.unpack orK_ok 1 hs (Nat.le_refl _) rfl fun⟨ls1,h1⟩ e=>?_
 obtain rfl:ls1=ls:=encLs_inj e
 exact endK_mono (fun l1 b ⟨q1,q2,q3⟩=>⟨q1,⟨_,q2⟩,rfl,q3⟩) (h h1)
def cxl4:Cx:=cxl [(86,wnewG),(87,wtakeG),(95,cloneG 2)]
abbrev lvX1 (most:Int) (n0 m0:Nat) (q0 f0:List LV):List LB:=[.cells [.int .i64 most,.slo 3 0 1 0] none,.dead,.dead,.cells [.ptr 4 0] (some 1),.cells [.ptr 5 0,.slo 7 0 m0 0] none,.cells [.int .i64 96,.slo 6 0 n0 0] none,.cells q0 (some 2),.cells f0 (some 1)]
theorem lo_1 (most:Int) (n0 m0:Nat) (q0 f0:List LV) (K:Pk):(xsp prog cxl4 60 19 ((sp prog 78).drop 0) (tm0 [.ptr 0 0]) (mkS (lvH1 most n0 m0 q0 f0)) (vK [2] K))=(
 K .ret [.int .i64 0] (sN [.int .i64 most,.slo 11 0 2 0]::sD::sD::bL 4 n0 m0 q0 f0 [sN [.int .i64 96,.slo 8 0 0 0],sC [] 2,sN [.ptr 7 0,.nils],sN [.ptr 9 0],sC [.ptr 3 0,.ptr 9 0] 1]) []):=by kernel_rfl
theorem ld_1 (most:Int) (n0 m0:Nat) (q0 f0:List LV) (K:Pk):(xsp prog cxl4 60 23 ((sp prog 81).drop 0) (tm0 [.ptr 0 0]) (mkS (lvH1 most n0 m0 q0 f0)) (vK [2] K))=(
 K .ret [.int .i64 10] (sN [.int .i64 most,.slo 1 0 1 0]::sC [.ptr 3 0] 1::sD::bL 4 n0 m0 q0 f0 []) []):=by kernel_rfl
theorem lk_1 (most:Int) (n0 m0:Nat) (q0 f0:List LV) (K:Pk):(xsp prog cxl4 60 37 ((sp prog 79).drop 0) (tm0 [.ptr 0 0]) (mkS (lvH1 most n0 m0 q0 f0)) (vK [2] K))=(
 K .ret [.int .i64 10] (sN [.int .i64 most,.slo 1 0 1 0]::sC [.ptr 3 0] 1::sD::bL 4 n0 m0 q0 f0 []) []):=by kernel_rfl
abbrev lvX2 (most:Int) (n0 m0 n1 m1:Nat) (q0 f0 q1 f1:List LV):List LB:=[.cells [.int .i64 most,.slo 3 0 2 0] none,.dead,.dead,.cells [.ptr 8 0,.ptr 4 0] (some 1),.cells [.ptr 5 0,.slo 7 0 m0 0] none,.cells [.int .i64 96,.slo 6 0 n0 0] none,.cells q0 (some 2),.cells f0 (some 1),.cells [.ptr 9 0,.slo 11 0 m1 0] none,.cells [.int .i64 96,.slo 10 0 n1 0] none,.cells q1 (some 2),.cells f1 (some 1)]
theorem lo_2 (most:Int) (n0 m0 n1 m1:Nat) (q0 f0 q1 f1:List LV) (K:Pk):(xsp prog cxl4 60 19 ((sp prog 78).drop 0) (tm0 [.ptr 0 0]) (mkS (lvH2 most n0 m0 n1 m1 q0 f0 q1 f1)) (vK [2] K))=(
 K .ret [.int .i64 0] (sN [.int .i64 most,.slo 15 0 3 0]::sD::sD::bL 4 n0 m0 q0 f0 (bL 8 n1 m1 q1 f1 [sN [.int .i64 96,.slo 12 0 0 0],sC [] 2,sN [.ptr 11 0,.nils],sN [.ptr 13 0],sC [.ptr 7 0,.ptr 3 0,.ptr 13 0] 1])) []):=by kernel_rfl
theorem ld_2 (most:Int) (n0 m0 n1 m1:Nat) (q0 f0 q1 f1:List LV) (K:Pk):(xsp prog cxl4 60 23 ((sp prog 81).drop 0) (tm0 [.ptr 0 0]) (mkS (lvH2 most n0 m0 n1 m1 q0 f0 q1 f1)) (vK [2] K))=(
 K .ret [.int .i64 0] (sN [.int .i64 most,.slo 1 0 1 0]::sC [.ptr 7 0,.ptr 3 0] 1::sD::bL 4 n0 m0 q0 f0 (bL 8 n1 m1 q1 f1 [])) []):=by kernel_rfl
theorem lk_2 (most:Int) (n0 m0 n1 m1:Nat) (q0 f0 q1 f1:List LV) (K:Pk):(xsp prog cxl4 60 37 ((sp prog 79).drop 0) (tm0 [.ptr 0 0]) (mkS (lvH2 most n0 m0 n1 m1 q0 f0 q1 f1)) (vK [2] K))=(
 ck (xle n0 1000000) <|
 ck (xeq (xln q0) (xmul n0 2)) <|
 ck (xnoid q0) <|
 ck (okC q1 n1) <|
 ck (okC q0 n0) <|
 ck (xle (xadd n1 n0) 900000) <|
 ck (xle (xadd 0 (xmul m0 1)) (xln f0)) <|
 ck (xle (xadd m1 m0) 1000000) <|
 ck (xle (xadd 0 (xmul m1 1)) (xln f1)) <|
 K .ret [.int .i64 0] (sN [.int .i64 most,.slo 1 0 1 0]::sC [.ptr 7 0,.ptr 3 0] 1::sD::bL 4 n0 m0 q0 f0 [sN [.ptr 8 0,.slo 13 0 (xadd m1 m0) 0],sN [.int .i64 96,.slo 12 0 (wtN 96 q1 q0) 0],sD,sD,sC q0 2,sC (wtC 96 q1 q0) 2,sC (xcat (xcut f1 0 (xmul m1 1)) (xcut f0 0 (xmul m0 1))) 1]) []):=by kernel_rfl
abbrev lvX3 (most:Int) (n0 m0 n1 m1 n2 m2:Nat) (q0 f0 q1 f1 q2 f2:List LV):List LB:=[.cells [.int .i64 most,.slo 3 0 3 0] none,.dead,.dead,.cells [.ptr 12 0,.ptr 8 0,.ptr 4 0] (some 1),.cells [.ptr 5 0,.slo 7 0 m0 0] none,.cells [.int .i64 96,.slo 6 0 n0 0] none,.cells q0 (some 2),.cells f0 (some 1),.cells [.ptr 9 0,.slo 11 0 m1 0] none,.cells [.int .i64 96,.slo 10 0 n1 0] none,.cells q1 (some 2),.cells f1 (some 1),.cells [.ptr 13 0,.slo 15 0 m2 0] none,.cells [.int .i64 96,.slo 14 0 n2 0] none,.cells q2 (some 2),.cells f2 (some 1)]
theorem lo_3 (most:Int) (n0 m0 n1 m1 n2 m2:Nat) (q0 f0 q1 f1 q2 f2:List LV) (K:Pk):(xsp prog cxl4 60 19 ((sp prog 78).drop 0) (tm0 [.ptr 0 0]) (mkS (lvH3 most n0 m0 n1 m1 n2 m2 q0 f0 q1 f1 q2 f2)) (vK [2] K))=(
 K .ret [.int .i64 0] (sN [.int .i64 most,.slo 19 0 4 0]::sD::sD::bL 4 n0 m0 q0 f0 (bL 8 n1 m1 q1 f1 (bL 12 n2 m2 q2 f2 [sN [.int .i64 96,.slo 16 0 0 0],sC [] 2,sN [.ptr 15 0,.nils],sN [.ptr 17 0],sC [.ptr 11 0,.ptr 7 0,.ptr 3 0,.ptr 17 0] 1]))) []):=by kernel_rfl
theorem ld_3 (most:Int) (n0 m0 n1 m1 n2 m2:Nat) (q0 f0 q1 f1 q2 f2:List LV) (K:Pk):(xsp prog cxl4 60 23 ((sp prog 81).drop 0) (tm0 [.ptr 0 0]) (mkS (lvH3 most n0 m0 n1 m1 n2 m2 q0 f0 q1 f1 q2 f2)) (vK [2] K))=(
 K .ret [.int .i64 0] (sN [.int .i64 most,.slo 1 0 2 0]::sC [.ptr 11 0,.ptr 7 0,.ptr 3 0] 1::sD::bL 4 n0 m0 q0 f0 (bL 8 n1 m1 q1 f1 (bL 12 n2 m2 q2 f2 []))) []):=by kernel_rfl
theorem lk_3 (most:Int) (n0 m0 n1 m1 n2 m2:Nat) (q0 f0 q1 f1 q2 f2:List LV) (K:Pk):(xsp prog cxl4 60 37 ((sp prog 79).drop 0) (tm0 [.ptr 0 0]) (mkS (lvH3 most n0 m0 n1 m1 n2 m2 q0 f0 q1 f1 q2 f2)) (vK [2] K))=(
 ck (xle n0 1000000) <|
 ck (xeq (xln q0) (xmul n0 2)) <|
 ck (xnoid q0) <|
 ck (okC q1 n1) <|
 ck (okC q0 n0) <|
 ck (xle (xadd n1 n0) 900000) <|
 ck (xle (xadd 0 (xmul m0 1)) (xln f0)) <|
 ck (xle (xadd m1 m0) 1000000) <|
 ck (xle (xadd 0 (xmul m1 1)) (xln f1)) <|
 K .ret [.int .i64 0] (sN [.int .i64 most,.slo 1 0 2 0]::sC [.ptr 11 0,.ptr 7 0,.ptr 3 0] 1::sD::bL 4 n0 m0 q0 f0 (sN [.ptr 8 0,.slo 17 0 (xadd m1 m0) 0]::sN [.int .i64 96,.slo 16 0 (wtN 96 q1 q0) 0]::sD::sD::bL 12 n2 m2 q2 f2 [sC q0 2,sC (wtC 96 q1 q0) 2,sC (xcat (xcut f1 0 (xmul m1 1)) (xcut f0 0 (xmul m0 1))) 1])) []):=by kernel_rfl
abbrev lvX4 (most:Int) (n0 m0 n1 m1 n2 m2 n3 m3:Nat) (q0 f0 q1 f1 q2 f2 q3 f3:List LV):List LB:=[.cells [.int .i64 most,.slo 3 0 4 0] none,.dead,.dead,.cells [.ptr 16 0,.ptr 12 0,.ptr 8 0,.ptr 4 0] (some 1),.cells [.ptr 5 0,.slo 7 0 m0 0] none,.cells [.int .i64 96,.slo 6 0 n0 0] none,.cells q0 (some 2),.cells f0 (some 1),.cells [.ptr 9 0,.slo 11 0 m1 0] none,.cells [.int .i64 96,.slo 10 0 n1 0] none,.cells q1 (some 2),.cells f1 (some 1),.cells [.ptr 13 0,.slo 15 0 m2 0] none,.cells [.int .i64 96,.slo 14 0 n2 0] none,.cells q2 (some 2),.cells f2 (some 1),.cells [.ptr 17 0,.slo 19 0 m3 0] none,.cells [.int .i64 96,.slo 18 0 n3 0] none,.cells q3 (some 2),.cells f3 (some 1)]
theorem lo_4 (most:Int) (n0 m0 n1 m1 n2 m2 n3 m3:Nat) (q0 f0 q1 f1 q2 f2 q3 f3:List LV) (K:Pk):(xsp prog cxl4 60 19 ((sp prog 78).drop 0) (tm0 [.ptr 0 0]) (mkS (lvH4 most n0 m0 n1 m1 n2 m2 n3 m3 q0 f0 q1 f1 q2 f2 q3 f3)) (vK [2] K))=(
 K .ret [.int .i64 0] (sN [.int .i64 most,.slo 23 0 5 0]::sD::sD::bL 4 n0 m0 q0 f0 (bL 8 n1 m1 q1 f1 (bL 12 n2 m2 q2 f2 (bL 16 n3 m3 q3 f3 [sN [.int .i64 96,.slo 20 0 0 0],sC [] 2,sN [.ptr 19 0,.nils],sN [.ptr 21 0],sC [.ptr 15 0,.ptr 11 0,.ptr 7 0,.ptr 3 0,.ptr 21 0] 1])))) []):=by kernel_rfl
theorem ld_4 (most:Int) (n0 m0 n1 m1 n2 m2 n3 m3:Nat) (q0 f0 q1 f1 q2 f2 q3 f3:List LV) (K:Pk):(xsp prog cxl4 60 23 ((sp prog 81).drop 0) (tm0 [.ptr 0 0]) (mkS (lvH4 most n0 m0 n1 m1 n2 m2 n3 m3 q0 f0 q1 f1 q2 f2 q3 f3)) (vK [2] K))=(
 K .ret [.int .i64 0] (sN [.int .i64 most,.slo 1 0 3 0]::sC [.ptr 15 0,.ptr 11 0,.ptr 7 0,.ptr 3 0] 1::sD::bL 4 n0 m0 q0 f0 (bL 8 n1 m1 q1 f1 (bL 12 n2 m2 q2 f2 (bL 16 n3 m3 q3 f3 [])))) []):=by kernel_rfl
theorem lk_4 (most:Int) (n0 m0 n1 m1 n2 m2 n3 m3:Nat) (q0 f0 q1 f1 q2 f2 q3 f3:List LV) (K:Pk):(xsp prog cxl4 60 37 ((sp prog 79).drop 0) (tm0 [.ptr 0 0]) (mkS (lvH4 most n0 m0 n1 m1 n2 m2 n3 m3 q0 f0 q1 f1 q2 f2 q3 f3)) (vK [2] K))=(
 ck (xle n0 1000000) <|
 ck (xeq (xln q0) (xmul n0 2)) <|
 ck (xnoid q0) <|
 ck (okC q1 n1) <|
 ck (okC q0 n0) <|
 ck (xle (xadd n1 n0) 900000) <|
 ck (xle (xadd 0 (xmul m0 1)) (xln f0)) <|
 ck (xle (xadd m1 m0) 1000000) <|
 ck (xle (xadd 0 (xmul m1 1)) (xln f1)) <|
 K .ret [.int .i64 0] (sN [.int .i64 most,.slo 1 0 3 0]::sC [.ptr 15 0,.ptr 11 0,.ptr 7 0,.ptr 3 0] 1::sD::bL 4 n0 m0 q0 f0 (sN [.ptr 8 0,.slo 21 0 (xadd m1 m0) 0]::sN [.int .i64 96,.slo 20 0 (wtN 96 q1 q0) 0]::sD::sD::bL 12 n2 m2 q2 f2 (bL 16 n3 m3 q3 f3 [sC q0 2,sC (wtC 96 q1 q0) 2,sC (xcat (xcut f1 0 (xmul m1 1)) (xcut f0 0 (xmul m0 1))) 1]))) []):=by kernel_rfl
abbrev lvX5 (most:Int) (n0 m0 n1 m1 n2 m2 n3 m3 n4 m4:Nat) (q0 f0 q1 f1 q2 f2 q3 f3 q4 f4:List LV):List LB:=[.cells [.int .i64 most,.slo 3 0 5 0] none,.dead,.dead,.cells [.ptr 20 0,.ptr 16 0,.ptr 12 0,.ptr 8 0,.ptr 4 0] (some 1),.cells [.ptr 5 0,.slo 7 0 m0 0] none,.cells [.int .i64 96,.slo 6 0 n0 0] none,.cells q0 (some 2),.cells f0 (some 1),.cells [.ptr 9 0,.slo 11 0 m1 0] none,.cells [.int .i64 96,.slo 10 0 n1 0] none,.cells q1 (some 2),.cells f1 (some 1),.cells [.ptr 13 0,.slo 15 0 m2 0] none,.cells [.int .i64 96,.slo 14 0 n2 0] none,.cells q2 (some 2),.cells f2 (some 1),.cells [.ptr 17 0,.slo 19 0 m3 0] none,.cells [.int .i64 96,.slo 18 0 n3 0] none,.cells q3 (some 2),.cells f3 (some 1),.cells [.ptr 21 0,.slo 23 0 m4 0] none,.cells [.int .i64 96,.slo 22 0 n4 0] none,.cells q4 (some 2),.cells f4 (some 1)]
theorem lo_5 (most:Int) (n0 m0 n1 m1 n2 m2 n3 m3 n4 m4:Nat) (q0 f0 q1 f1 q2 f2 q3 f3 q4 f4:List LV) (K:Pk):(xsp prog cxl4 60 19 ((sp prog 78).drop 0) (tm0 [.ptr 0 0]) (mkS (lvH5 most n0 m0 n1 m1 n2 m2 n3 m3 n4 m4 q0 f0 q1 f1 q2 f2 q3 f3 q4 f4)) (vK [2] K))=(
 K .ret [.int .i64 0] (sN [.int .i64 most,.slo 27 0 6 0]::sD::sD::bL 4 n0 m0 q0 f0 (bL 8 n1 m1 q1 f1 (bL 12 n2 m2 q2 f2 (bL 16 n3 m3 q3 f3 (bL 20 n4 m4 q4 f4 [sN [.int .i64 96,.slo 24 0 0 0],sC [] 2,sN [.ptr 23 0,.nils],sN [.ptr 25 0],sC [.ptr 19 0,.ptr 15 0,.ptr 11 0,.ptr 7 0,.ptr 3 0,.ptr 25 0] 1]))))) []):=by kernel_rfl
theorem ld_5 (most:Int) (n0 m0 n1 m1 n2 m2 n3 m3 n4 m4:Nat) (q0 f0 q1 f1 q2 f2 q3 f3 q4 f4:List LV) (K:Pk):(xsp prog cxl4 60 23 ((sp prog 81).drop 0) (tm0 [.ptr 0 0]) (mkS (lvH5 most n0 m0 n1 m1 n2 m2 n3 m3 n4 m4 q0 f0 q1 f1 q2 f2 q3 f3 q4 f4)) (vK [2] K))=(
 K .ret [.int .i64 0] (sN [.int .i64 most,.slo 1 0 4 0]::sC [.ptr 19 0,.ptr 15 0,.ptr 11 0,.ptr 7 0,.ptr 3 0] 1::sD::bL 4 n0 m0 q0 f0 (bL 8 n1 m1 q1 f1 (bL 12 n2 m2 q2 f2 (bL 16 n3 m3 q3 f3 (bL 20 n4 m4 q4 f4 []))))) []):=by kernel_rfl
theorem lk_5 (most:Int) (n0 m0 n1 m1 n2 m2 n3 m3 n4 m4:Nat) (q0 f0 q1 f1 q2 f2 q3 f3 q4 f4:List LV) (K:Pk):(xsp prog cxl4 60 37 ((sp prog 79).drop 0) (tm0 [.ptr 0 0]) (mkS (lvH5 most n0 m0 n1 m1 n2 m2 n3 m3 n4 m4 q0 f0 q1 f1 q2 f2 q3 f3 q4 f4)) (vK [2] K))=(
 ck (xle n0 1000000) <|
 ck (xeq (xln q0) (xmul n0 2)) <|
 ck (xnoid q0) <|
 ck (okC q1 n1) <|
 ck (okC q0 n0) <|
 ck (xle (xadd n1 n0) 900000) <|
 ck (xle (xadd 0 (xmul m0 1)) (xln f0)) <|
 ck (xle (xadd m1 m0) 1000000) <|
 ck (xle (xadd 0 (xmul m1 1)) (xln f1)) <|
 K .ret [.int .i64 0] (sN [.int .i64 most,.slo 1 0 4 0]::sC [.ptr 19 0,.ptr 15 0,.ptr 11 0,.ptr 7 0,.ptr 3 0] 1::sD::bL 4 n0 m0 q0 f0 (sN [.ptr 8 0,.slo 25 0 (xadd m1 m0) 0]::sN [.int .i64 96,.slo 24 0 (wtN 96 q1 q0) 0]::sD::sD::bL 12 n2 m2 q2 f2 (bL 16 n3 m3 q3 f3 (bL 20 n4 m4 q4 f4 [sC q0 2,sC (wtC 96 q1 q0) 2,sC (xcat (xcut f1 0 (xmul m1 1)) (xcut f0 0 (xmul m0 1))) 1])))) []):=by kernel_rfl
abbrev lvX6 (most:Int) (n0 m0 n1 m1 n2 m2 n3 m3 n4 m4 n5 m5:Nat) (q0 f0 q1 f1 q2 f2 q3 f3 q4 f4 q5 f5:List LV):List LB:=[.cells [.int .i64 most,.slo 3 0 6 0] none,.dead,.dead,.cells [.ptr 24 0,.ptr 20 0,.ptr 16 0,.ptr 12 0,.ptr 8 0,.ptr 4 0] (some 1),.cells [.ptr 5 0,.slo 7 0 m0 0] none,.cells [.int .i64 96,.slo 6 0 n0 0] none,.cells q0 (some 2),.cells f0 (some 1),.cells [.ptr 9 0,.slo 11 0 m1 0] none,.cells [.int .i64 96,.slo 10 0 n1 0] none,.cells q1 (some 2),.cells f1 (some 1),.cells [.ptr 13 0,.slo 15 0 m2 0] none,.cells [.int .i64 96,.slo 14 0 n2 0] none,.cells q2 (some 2),.cells f2 (some 1),.cells [.ptr 17 0,.slo 19 0 m3 0] none,.cells [.int .i64 96,.slo 18 0 n3 0] none,.cells q3 (some 2),.cells f3 (some 1),.cells [.ptr 21 0,.slo 23 0 m4 0] none,.cells [.int .i64 96,.slo 22 0 n4 0] none,.cells q4 (some 2),.cells f4 (some 1),.cells [.ptr 25 0,.slo 27 0 m5 0] none,.cells [.int .i64 96,.slo 26 0 n5 0] none,.cells q5 (some 2),.cells f5 (some 1)]
theorem lo_6 (most:Int) (n0 m0 n1 m1 n2 m2 n3 m3 n4 m4 n5 m5:Nat) (q0 f0 q1 f1 q2 f2 q3 f3 q4 f4 q5 f5:List LV) (K:Pk):(xsp prog cxl4 60 19 ((sp prog 78).drop 0) (tm0 [.ptr 0 0]) (mkS (lvH6 most n0 m0 n1 m1 n2 m2 n3 m3 n4 m4 n5 m5 q0 f0 q1 f1 q2 f2 q3 f3 q4 f4 q5 f5)) (vK [2] K))=(
 K .ret [.int .i64 9] (sN [.int .i64 most,.slo 1 0 6 0]::sC [.ptr 23 0,.ptr 19 0,.ptr 15 0,.ptr 11 0,.ptr 7 0,.ptr 3 0] 1::sD::bL 4 n0 m0 q0 f0 (bL 8 n1 m1 q1 f1 (bL 12 n2 m2 q2 f2 (bL 16 n3 m3 q3 f3 (bL 20 n4 m4 q4 f4 (bL 24 n5 m5 q5 f5 [])))))) []):=by kernel_rfl
theorem ld_6 (most:Int) (n0 m0 n1 m1 n2 m2 n3 m3 n4 m4 n5 m5:Nat) (q0 f0 q1 f1 q2 f2 q3 f3 q4 f4 q5 f5:List LV) (K:Pk):(xsp prog cxl4 60 23 ((sp prog 81).drop 0) (tm0 [.ptr 0 0]) (mkS (lvH6 most n0 m0 n1 m1 n2 m2 n3 m3 n4 m4 n5 m5 q0 f0 q1 f1 q2 f2 q3 f3 q4 f4 q5 f5)) (vK [2] K))=(
 K .ret [.int .i64 0] (sN [.int .i64 most,.slo 1 0 5 0]::sC [.ptr 23 0,.ptr 19 0,.ptr 15 0,.ptr 11 0,.ptr 7 0,.ptr 3 0] 1::sD::bL 4 n0 m0 q0 f0 (bL 8 n1 m1 q1 f1 (bL 12 n2 m2 q2 f2 (bL 16 n3 m3 q3 f3 (bL 20 n4 m4 q4 f4 (bL 24 n5 m5 q5 f5 [])))))) []):=by kernel_rfl
theorem lk_6 (most:Int) (n0 m0 n1 m1 n2 m2 n3 m3 n4 m4 n5 m5:Nat) (q0 f0 q1 f1 q2 f2 q3 f3 q4 f4 q5 f5:List LV) (K:Pk):(xsp prog cxl4 60 37 ((sp prog 79).drop 0) (tm0 [.ptr 0 0]) (mkS (lvH6 most n0 m0 n1 m1 n2 m2 n3 m3 n4 m4 n5 m5 q0 f0 q1 f1 q2 f2 q3 f3 q4 f4 q5 f5)) (vK [2] K))=(
 ck (xle n0 1000000) <|
 ck (xeq (xln q0) (xmul n0 2)) <|
 ck (xnoid q0) <|
 ck (okC q1 n1) <|
 ck (okC q0 n0) <|
 ck (xle (xadd n1 n0) 900000) <|
 ck (xle (xadd 0 (xmul m0 1)) (xln f0)) <|
 ck (xle (xadd m1 m0) 1000000) <|
 ck (xle (xadd 0 (xmul m1 1)) (xln f1)) <|
 K .ret [.int .i64 0] (sN [.int .i64 most,.slo 1 0 5 0]::sC [.ptr 23 0,.ptr 19 0,.ptr 15 0,.ptr 11 0,.ptr 7 0,.ptr 3 0] 1::sD::bL 4 n0 m0 q0 f0 (sN [.ptr 8 0,.slo 29 0 (xadd m1 m0) 0]::sN [.int .i64 96,.slo 28 0 (wtN 96 q1 q0) 0]::sD::sD::bL 12 n2 m2 q2 f2 (bL 16 n3 m3 q3 f3 (bL 20 n4 m4 q4 f4 (bL 24 n5 m5 q5 f5 [sC q0 2,sC (wtC 96 q1 q0) 2,sC (xcat (xcut f1 0 (xmul m1 1)) (xcut f0 0 (xmul m0 1))) 1]))))) []):=by kernel_rfl
end
end Go.Lev
