/- chapter 9: the code's levels: Open, Drop, Keep: lists and trees -/
import Derived.Test.YtbeolgofafknmaaGreatDoorCW8
import Derived.Test.YtbeolgofafknmaaGreatDoorLc
import Derived.Test.YtbeolgofafknmaaGreatDoorChecked
import Derived.KernelRfl
namespace Go.Lev
set_option linter.unusedSimpArgs false
set_option linter.unusedVariables false
open Go.RowKit
open Go.Proofs.Tryz (prog)
set_option maxRecDepth 100000
noncomputable section
theorem wTk_pls {m:Int}:∀ (l xs:CL),inK l→(xs.length:Int)+l.length≤m→wTk m xs l=(0,pls xs l)
 | [],xs,_,_=>rfl
 | c::l,xs,h,hn=>by
   have h1:=h c (by simp)
   simp only [List.length_cons] at hn
   have h2:wPe m xs c.1=0:=by
    rw [wPe,if_neg (by omega)]
    split
    ·rfl
    ·rw [if_neg (by omega)]
   have h3:=pl_len xs c
   rw [wTk,if_pos h2]
   exact wTk_pls l (pl xs c) (fun b hb=>h b (by simp [hb])) (by omega)
theorem wTc_pls {m:Int} {l xs:CL} (h:inK l) (hn:(xs.length:Int)+l.length≤m):wTc m xs l=pls xs l:=by rw [wTc,wTk_pls l xs h hn]; rfl
theorem inK_pls:∀ (l:CL) {xs:CL},inK xs→inK l→inK (pls xs l)
 | [],xs,h,_=>h
 | c::l,xs,h,k=>by
   refine inK_pls l (xs:=pl xs c) (fun b hb=>?_) fun b hb=>k b (by simp [hb])
   rcases key_pl.1 (⟨b,hb,rfl⟩:keyIn b.1 (pl xs c)) with q | q
   ·exact inK_key h q
   ·rw [← q]; exact k c (by simp)
def clE (ls:List Lv):Int:=if ls.length=1 then 10 else 0
def kpL:List Lv→List Lv
 | x::y::r=>(pls y.1 x.1,y.2++x.2)::r
 | ls=>ls
theorem kpL_ok {ls:List Lv} (h:OkLs ls):OkLs (kpL ls)∧totC (kpL ls)≤totC ls:=by
 match ls,h with
 | [],h=>exact⟨h,Nat.le_refl _⟩
 | [x],h=>exact⟨h,Nat.le_refl _⟩
 | x::y::r,h =>
   have hc:=h.c; have hf:=h.f; have h6:=h.six
   simp only [totC] at hc; simp only [totF] at hf; simp only [List.length_cons] at h6
   have hl:=pls_len x.1 y.1
   have hx:=h.uq x (by simp); have hy:=h.uq y (by simp)
   refine⟨⟨by simp [kpL],by simp only [kpL,List.length_cons]; omega,fun z hz=>?_,by simp only [kpL,totC]; omega,by simp only [kpL,totF,List.length_append]; omega⟩,by simp only [kpL,totC]; omega⟩
   simp only [kpL] at hz
   rcases List.mem_cons.1 hz with rfl | hz
   ·exact⟨uniq_pls _ hy.1,inK_pls _ hy.2 hx.2⟩
   ·exact h.uq z (by simp [hz])
def orW (most:Int) (ls:List Lv):List LB:=.cells [.int .i64 most,.slo 3 0 ls.length 0] none::.dead::.dead::.cells (slos 4 ls).reverse (some 2)::hidR 4 ls
abbrev orN (most:Int) (d:Nat) (cs:List LV):List LB:=[.cells [.int .i64 most,.slo 3 0 d 0] none,.dead,.dead,.obj orF cs 4,.dead]
def orP (most:Int) (ls:List Lv) (l:LV):LV→List LB→Prop:=fun l1 b=>l1=l∧OkLs ls∧b=orW most ls
theorem or_move {f nt:Nat} {L ts:List Nat} {args:List LV} {most:Int} {ls ls':List Lv} {l:LV} (hf:fnOk prog f nt ts args.length=true) (ht:(initTm args 0 .leaf).isSome=true) (hin:allIn ts L=true) (hs:Nat.blt 0 (sp prog f).length=true) (hl:noId l=true)
  (h:OkLs ls→SSp prog nt ((sp prog f).drop 0) 3 (tm0 args) (mkS (orU most ls [])) (vK L (endK 3 ts L [] (orP most ls' l)))) :
  SFun prog f args (mkS (orS most ls.length (encLs ls) [])) fun l1 t=>l1=l∧t=mkS (orN most ls'.length (encLs ls')):=by
 have key:=SFun.shut (P:=prog) (f:=f) (args:=args) (K:=orK) (bs:=orS most ls.length (encLs ls) []) (B:=[.cells [.int .i64 most,.slo 3 0 ls'.length 0] none,.dead,.dead,.dead]) (cs:=encLs ls') (l:=l) (g:=[]) orK_ok 3 (by simp) (by simp) (fun ρ h=>⟨bk_cons (lb_cells (lws_cons lw_int (lws_cons (lw_slo (h 3 (by simp))) lws_nil)) (by simp)) (bk_cons lb_dead (bk_cons lb_dead (bk_cons lb_dead bk_nil))),lw_noid hl⟩) ?_
 ·exact key
 refine SFun.pieces (Q:=fun l1 b=>l1=l∧∃ v:orK.σ,orK.enc v=encLs ls'∧b=[.cells [.int .i64 most,.slo 3 0 ls'.length 0] none,.dead,.dead,(orK.sh v 3 4).1]++(orK.sh v 3 4).2) nt 3 L ts hf rfl ht hin ?_
 refine SSp.unpack orK_ok 1 hs (Nat.le_refl _) rfl fun⟨ls1,h1⟩ e=>?_
 obtain rfl:ls1=ls:=encLs_inj e
 exact endK_mono (fun l1 b ⟨q1,q2,q3⟩=>⟨q1,⟨_,q2⟩,rfl,q3⟩) (h h1)
def cxl4:Cx:=cxl [(81,wnewG),(84,wtakeG),(96,cloneG 2)]
end
end Go.Lev
