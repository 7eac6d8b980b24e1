/- LevelsPlays: both tell the same; trees of the law -/
import Derived.Test.YtciccbphopgmaaaCW26
import Derived.Test.YtciccbphopgmaaaLc
import Derived.Test.YtciccbphopgmaaaChecked
import Derived.KernelRfl
namespace Go.Lev
set_option linter.unusedSimpArgs false
set_option linter.unusedVariables false
open Go.RowKit
open Go.Proofs.Try (prog)
set_option maxRecDepth 100000
noncomputable section
abbrev smO (most:Int) (d:Nat) (cs:List LV):List LB:=[.cells [.int .i64 most,.slo 1 0 d 0] none,.obj lvF cs 6,.dead,.cells [.int .i64 most,.slo 4 0 d 0] none,.obj orF cs 7,.dead,.dead,.dead]
theorem sm_z (most:Int) (d:Nat) (cs:List LV) (K:Pk):(xsp prog cxs 60 66 ((sp prog 8).drop 5) (mkTm 66 [(4,.bool true)]) (mkS (smO most d cs)) (vK smL K))=(
 K .ret [.any,.any,.bool true,.any,.any] [sN [.int .i64 most,.slo 1 0 d 0],some (.obj lvF cs 6),sD,sN [.int .i64 most,.slo 4 0 d 0],some (.obj orF cs 7),sD,sD,sD] []):=by kernel_rfl
theorem cxs_ok:CtrOk prog (ctrOf cxs):=cxl_ok ⟨owholeG_ok,lgetG_ok,ogetG_ok,lcellsG_ok,lfreesG_ok,sameCCellG_ok,sameIi64G_ok,lroomG_ok,oroomG_ok,trivial⟩
theorem bq_self (b:Bool):xbq b b=true:=by rw [wd_bq]; simp
theorem same_ok (most:Int) (ls:List Lv) (h:OkLs ls) (hm:(totC ls:Int)≤most) (hm2:most≤96):SFun prog 8 [.ptr 0 0,.ptr 3 0] (mkS (doI most ls.length (encLs ls))) fun l t=>l=.bool true∧t=mkS (smO most ls.length (encLs ls)):=by
 refine SFun.mono (SFun.pieces (Q:=fun l b=>l=.bool true∧b=smO most ls.length (encLs ls)) 66 6 smL [4] (by kernel_rfl) rfl rfl rfl ?_) fun l s' ⟨b0,⟨h1,h2⟩,h3⟩=>⟨h1,by rw [h3,h2]⟩
 have f1:=isF_self lvF; have f2:=isF_self orF
 have ok0:=okR_enc h hm hm2
 have hw:=celL_wf (ls:=ls) fun x hx=>h.uq x hx
 have hc:=h.c; have hf:=h.f; have hfl:=freL_le ls
 have eC:lcC (encLs ls)=encL cell (celL ls):=by rw [lcC,decLs_enc]
 have eN:lcN (encLs ls)=(celL ls).length:=by rw [lcN,decLs_enc]
 have eW:lwC (encLs ls)=encL (cI .i64) (freL ls):=by rw [lwC,decLs_enc]
 have eM:lwN (encLs ls)=(freL ls).length:=by rw [lwN,decLs_enc]
 have ncc:=noids_c (celL ls); have nff:=noIds_Ii64 (freL ls)
 have okc:okC (encL cell (celL ls)) (celL ls).length=true:=okC_enc (by omega)
 have oki:okIi64 (encL (cI .i64) (freL ls)) (freL ls).length=true:=okIi64_enc (by omega)
 refine SSp.to cxs_ok (n:=60) (g:=[]) 3 3 rfl (σ:=Unit) (fun _=>smT 0) (fun _=>smH most ls.length (encLs ls) (celL ls).length (freL ls).length (encL cell (celL ls)) (encL (cI .i64) (freL ls))) (mkS_le (Nat.le_of_ble_eq_true rfl)) (by kernel_rfl) ?_ fun _=>?_
 ·rw [sm_a,ok0,f2,eC,eN,eW,eM]
  exact⟨rfl,(),[.id 0,.id 1,.id 2,.id 3,.id 4,.id 5,.id 10,.id 7,.id 8,.id 2,.id 9],by(exact zC)⟩
 refine SSp.code_to (g:=[]) 4 rfl (σ:=Unit) (fun _=>smT 22) (fun _=>smH most ls.length (encLs ls) (celL ls).length (freL ls).length (encL cell (celL ls)) (encL (cI .i64) (freL ls))) (by kernel_rfl) ?_ fun _=>?_
 ·refine SCode.loop_vc cxs_ok (n:=60) 0 (by kernel_rfl) (σ:={i:Nat // i≤22}) (fun i=>smT i.1) (fun _=>smH most ls.length (encLs ls) (celL ls).length (freL ls).length (encL cell (celL ls)) (encL (cI .i64) (freL ls))) (fun i=>22 - i.1) (fun _=>Nat.le_of_ble_eq_true rfl) (fun⟨i,hi⟩=>?_) ⟨0,by omega⟩
  dsimp only
  rw [sm_b]
  by_cases c:i≤21
  ·have i3:xar .add .i64 (i:Int) 1=((i+1:Nat):Int):=inc_i64 (n:=22) (by omega) (by omega)
   simp only [ok0,f1,f2,bq_self,i3,wd_not_t]
   (refine zR ?_)
   exact⟨rfl,⟨i+1,by omega⟩,by simp only; omega,[.id 0,.id 1,.id 2,.id 3,.id 4,.id 5,.id 6,.id 7,.id 8,.id 11,.id 12],by(exact zC)⟩
  ·obtain rfl:i=22:=by omega
   (refine zR ?_)
   exact⟨rfl,(),[.id 0,.id 1,.id 2,.id 3,.id 4,.id 5,.id 6,.id 7,.id 8,.id 9,.id 10],by(exact zC)⟩
 refine SSp.code_to (g:=[]) 5 rfl (σ:=Unit) (fun _=>[(4,.bool true)]) (fun _=>smO most ls.length (encLs ls)) (by kernel_rfl) ?_ fun _=>?_
 ·refine SCode.orders cxs_ok (n:=60) (mkS_le (Nat.le_of_ble_eq_true rfl)) ?_
  rw [sm_o]
  simp only [ok0,f1,f2,eC,eN,eW,eM,okc,oki,sameCCell_self,sameIi64_self,cm_self,cond_true]
  (refine zR ?_)
  exact⟨rfl,(),[.id 0,.id 1,.id 2,.id 3,.id 4,.id 5,.id 15,.id 16],by(exact zC)⟩
 refine zE cxs_ok ?_
 rw [sm_z]
 exact⟨trivial,rfl,.bool true,smO most ls.length (encLs ls),[.id 0,.id 1,.id 2,.id 3,.id 4,.id 5,.id 6,.id 7],⟨rfl,rfl⟩,by(exact zC)⟩
theorem same_c (most:Int) (d:Nat) (cs:List LV) (k1:okR most cs d=true):SFun prog 8 [.ptr 0 0,.ptr 3 0] (mkS (doI most d cs)) fun l t=>l=.bool true∧t=mkS (smO most d cs):=by
 obtain⟨ls,rfl,rfl,h,h1,h2⟩:=okR_iff.1 k1
 exact same_ok most ls h h1 h2
def sameG:Gc:=fun args s=>match args,s.g with
 | [.ptr b 0,.ptr p 0],[]=>(match s.h.get b with
   | some (.cells [.int .i64 most,.slo o 0 d 0] none)=>(match s.h.get o with
     | some (.obj F_o cs e)=>(match s.h.get e with
       | some (.dead)=>(match s.h.get p with
         | some (.cells [.int .i64 most2,.slo q 0 d2 0] none)=>(match s.h.get q with
           | some (.obj F_q cs2 u)=>(match s.h.get u with
             | some (.dead)=>cond (nodupB [b,o,e,p,q,u]) (match s.lay [b,o,e,p,q,u] [.cells [.int .i64 most,.slo o 0 d 0] none,.obj lvF cs s.n,.dead,.cells [.int .i64 most,.slo q 0 d 0] none,.obj orF cs (Nat.succ s.n),.dead] [.dead,.dead] with
               | some s'=>some ([okR most cs d,xcm .eql most most2,xeq d d2,eqL cs cs2,isF F_o lvF,isF F_q orF],.bool true,s')
               | none=>none) none
             | _=>none)
           | _=>none)
         | _=>none)
       | _=>none)
     | _=>none)
   | _=>none)
 | _,_=>none
theorem sameG_ok:GOk prog 8 sameG:=by
 intro args s bs l s' hg hb hfr
 unfold sameG at hg
 split at hg
 ·rename_i b p hgl
  split at hg
  ·rename_i most o d hb0
   split at hg
   ·rename_i F_o cs e hb1
    split at hg
    ·rename_i  hb2
     split at hg
     ·rename_i most2 q d2 hb3
      split at hg
      ·rename_i F_q cs2 u hb4
       split at hg
       ·rename_i  hb5
        cases hbc:nodupB [b,o,e,p,q,u] with
        | false=>rw [hbc] at hg; cases hg
        | true =>
          rw [hbc] at hg
          simp only [cond_true] at hg
          split at hg
          ·rename_i s1 hs1
           simp only [Option.some.injEq,Prod.mk.injEq] at hg
           obtain⟨rfl,rfl,rfl⟩:=hg
           simp only [allT_cons] at hb
           obtain⟨k1,k2,k3,k4,k5,k6,_⟩:=hb
           have e_o:=isF_eq k5
           subst e_o
           have e_q:=isF_eq k6
           subst e_q
           rw [xcm_eql,decide_eq_true_eq] at k2
           rw [wd_eq,decide_eq_true_eq] at k3
           replace k4:=eqL_eq k4
           subst k2 k3 k4
           refine SFun.lay (bs:=[.cells [.int .i64 most,.slo 1 0 d 0] none,.obj lvF cs 2,.dead,.cells [.int .i64 most,.slo 4 0 d 0] none,.obj orF cs 5,.dead]) (args0:=[.ptr 0 0,.ptr 3 0]) (bs':=[.cells [.int .i64 most,.slo 1 0 d 0] none,.obj lvF cs 6,.dead,.cells [.int .i64 most,.slo 4 0 d 0] none,.obj orF cs 7,.dead,.dead,.dead]) (v0:=.bool true) hfr hs1 (nodupB_nd hbc)
            ⟨⟨there hfr hb0,_,hb0,by first | exact lb_same rfl | exact lb_cells (lws_cons (lw_int) (lws_cons (lw_slo rfl) lws_nil)) (by simp),fun κ hκ=>lb_cells (lws_cons (lw_int) (lws_cons (lw_slo (hκ 1 o rfl)) lws_nil)) (by simp)⟩,⟨there hfr hb1,_,hb1,lb_obj rfl,fun κ hκ=>lb_obj (hκ 2 e rfl)⟩,⟨there hfr hb2,_,hb2,lb_dead,fun κ hκ=>lb_dead⟩,⟨there hfr hb3,_,hb3,by first | exact lb_same rfl | exact lb_cells (lws_cons (lw_int) (lws_cons (lw_slo rfl) lws_nil)) (by simp),fun κ hκ=>lb_cells (lws_cons (lw_int) (lws_cons (lw_slo (hκ 4 q rfl)) lws_nil)) (by simp)⟩,⟨there hfr hb4,_,hb4,lb_obj rfl,fun κ hκ=>lb_obj (hκ 5 u rfl)⟩,⟨there hfr hb5,_,hb5,lb_dead,fun κ hκ=>lb_dead⟩,trivial⟩ (by(exact zTl)) ?_
            fun κ h1 h2=>⟨⟨lb_cells (lws_cons (lw_int) (lws_cons (lw_slo (h1 1 o rfl)) lws_nil)) (by simp),lb_obj (h2 0 (by simp)),lb_dead,lb_cells (lws_cons (lw_int) (lws_cons (lw_slo (h1 4 q rfl)) lws_nil)) (by simp),lb_obj (h2 1 (by simp)),lb_dead,lb_dead,lb_dead,trivial⟩,lw_bool⟩
           rw [hgl]; exact(same_c most d cs k1)
          ·cases hg
       ·cases hg
      ·cases hg
     ·cases hg
    ·cases hg
   ·cases hg
  ·cases hg
 ·cases hg
def cxL:Cx:=cxl [(4,wrapG runG),(5,wrapG lnewG),(6,wrapG onewG),(7,doG),(8,wrapG sameG)]
abbrev plL9:List Nat:=[1,4,5,6,7]
abbrev plT9 (n i:Nat):List (Nat×LV):=[(1,.slo 0 0 n 0),(5,.ptr 1 0),(6,.ptr 4 0),(7,.int .i64 i)]
abbrev plH9 (ax:List LV) (most:Int) (d:Nat) (cs:List LV):List LB:=[.ro ax,.cells [.int .i64 most,.slo 2 0 d 0] none,.obj lvF cs 3,.dead,.cells [.int .i64 most,.slo 5 0 d 0] none,.obj orF cs 6,.dead]
theorem pp_a (most:Int) (n:Nat) (ax:List LV) (F:World→Prop) (K:Pk):(xsp prog cxL 60 41 (seg (sp prog 3) 0 7) (tm0 [.int .i64 most,.slo 0 0 n 0]) (mkS [.ro ax] (factG F)) (vK plL9 K))=(
 K .normal [.slo 0 0 n 0,.bool false,.ptr 1 0,.ptr 4 0,.int .i64 0] [some (.ro ax),sN [.int .i64 (xmn (xmx most 0) 96),.slo 2 0 1 0],some (.obj lvF [.tup [.agg [],.agg []]] 3),sD,sN [.int .i64 (xmn (xmx most 0) 96),.slo 5 0 1 0],some (.obj orF [.tup [.agg [],.agg []]] 6),sD] (factG F)):=by kernel_rfl
abbrev pp_b_b1 (most:Int) (d:Nat) (ax:List LV) (cs:List LV):List (Option LB):=[some (.ro ax),sN [.int .i64 most,.slo 2 0 d 0],some (.obj lvF cs 3),sD,sN [.int .i64 most,.slo 5 0 d 0],some (.obj orF cs 6),sD]
theorem pp_b (most:Int) (n i d:Nat) (ax cs:List LV) (F:World→Prop) (K:Pk):(xcode prog cxL 60 41 (loopOf (nthC (sp prog 3) 7)) (mkTm 41 (plT9 n i)) (mkS (plH9 ax most d cs) (factG F)) (vK plL9 K))=(
 bif xcm .lss ↑i ↑n then(
 bif xcm .lss (↑i) 60 then(
 ck (xle (xadd (xnat ↑i) 1) n) <|
 ck (xle (xadd (xix 0 (xnat ↑i) 4) 4) (xln ax)) <|
 ck (isI .i64 (nthD ax (xix 0 (xnat ↑i) 4))) <|
 ck (isI .i64 (nthD ax (xadd (xix 0 (xnat ↑i) 4) 1))) <|
 ck (isI .u64 (nthD ax (xadd (xadd (xix 0 (xnat ↑i) 4) 1) 1))) <|
 ck (isV (nthD ax (xadd (xadd (xadd (xix 0 (xnat ↑i) 4) 1) 1) 1))) <|
 ck (okR most cs d) <|
 ck (okF cs) <|
 ck (okV F (asV (nthD ax (xadd (xadd (xadd (xix 0 (xnat ↑i) 4) 1) 1) 1)))) <|
 ck (xcm .eql most most) <|
 ck (xeq d d) <|
 ck (eqL cs cs) <|
 ck (isF lvF lvF) <|
 ck (isF orF orF) <|
 ck (okR most (doC F most cs (asI (nthD ax (xix 0 (xnat ↑i) 4))) (asI (nthD ax (xadd (xix 0 (xnat ↑i) 4) 1))) (asI (nthD ax (xadd (xadd (xix 0 (xnat ↑i) 4) 1) 1))) (asV (nthD ax (xadd (xadd (xadd (xix 0 (xnat ↑i) 4) 1) 1) 1))) ↑i) (doD F most cs (asI (nthD ax (xix 0 (xnat ↑i) 4))) (asI (nthD ax (xadd (xix 0 (xnat ↑i) 4) 1))) (asI (nthD ax (xadd (xadd (xix 0 (xnat ↑i) 4) 1) 1))) (asV (nthD ax (xadd (xadd (xadd (xix 0 (xnat ↑i) 4) 1) 1) 1))) ↑i)) <|
 ck (xcm .eql most most) <|
 ck (xeq (doD F most cs (asI (nthD ax (xix 0 (xnat ↑i) 4))) (asI (nthD ax (xadd (xix 0 (xnat ↑i) 4) 1))) (asI (nthD ax (xadd (xadd (xix 0 (xnat ↑i) 4) 1) 1))) (asV (nthD ax (xadd (xadd (xadd (xix 0 (xnat ↑i) 4) 1) 1) 1))) ↑i) (doD F most cs (asI (nthD ax (xix 0 (xnat ↑i) 4))) (asI (nthD ax (xadd (xix 0 (xnat ↑i) 4) 1))) (asI (nthD ax (xadd (xadd (xix 0 (xnat ↑i) 4) 1) 1))) (asV (nthD ax (xadd (xadd (xadd (xix 0 (xnat ↑i) 4) 1) 1) 1))) ↑i)) <|
 ck (eqL (doC F most cs (asI (nthD ax (xix 0 (xnat ↑i) 4))) (asI (nthD ax (xadd (xix 0 (xnat ↑i) 4) 1))) (asI (nthD ax (xadd (xadd (xix 0 (xnat ↑i) 4) 1) 1))) (asV (nthD ax (xadd (xadd (xadd (xix 0 (xnat ↑i) 4) 1) 1) 1))) ↑i) (doC F most cs (asI (nthD ax (xix 0 (xnat ↑i) 4))) (asI (nthD ax (xadd (xix 0 (xnat ↑i) 4) 1))) (asI (nthD ax (xadd (xadd (xix 0 (xnat ↑i) 4) 1) 1))) (asV (nthD ax (xadd (xadd (xadd (xix 0 (xnat ↑i) 4) 1) 1) 1))) ↑i)) <|
 ck (isF lvF lvF) <|
 ck (isF orF orF) <|
 K .normal [.slo 0 0 n 0,.any,.ptr 1 0,.ptr 4 0,.int .i64 (xar .add .i64 (↑i) 1)] [some (.ro ax),sN [.int .i64 most,.slo 7 0 (doD F most cs (asI (nthD ax (xix 0 (xnat ↑i) 4))) (asI (nthD ax (xadd (xix 0 (xnat ↑i) 4) 1))) (asI (nthD ax (xadd (xadd (xix 0 (xnat ↑i) 4) 1) 1))) (asV (nthD ax (xadd (xadd (xadd (xix 0 (xnat ↑i) 4) 1) 1) 1))) ↑i) 0],sD,sD,sN [.int .i64 most,.slo 9 0 (doD F most cs (asI (nthD ax (xix 0 (xnat ↑i) 4))) (asI (nthD ax (xadd (xix 0 (xnat ↑i) 4) 1))) (asI (nthD ax (xadd (xadd (xix 0 (xnat ↑i) 4) 1) 1))) (asV (nthD ax (xadd (xadd (xadd (xix 0 (xnat ↑i) 4) 1) 1) 1))) ↑i) 0],sD,sD,some (.obj lvF (doC F most cs (asI (nthD ax (xix 0 (xnat ↑i) 4))) (asI (nthD ax (xadd (xix 0 (xnat ↑i) 4) 1))) (asI (nthD ax (xadd (xadd (xix 0 (xnat ↑i) 4) 1) 1))) (asV (nthD ax (xadd (xadd (xadd (xix 0 (xnat ↑i) 4) 1) 1) 1))) ↑i) 11),sD,some (.obj orF (doC F most cs (asI (nthD ax (xix 0 (xnat ↑i) 4))) (asI (nthD ax (xadd (xix 0 (xnat ↑i) 4) 1))) (asI (nthD ax (xadd (xadd (xix 0 (xnat ↑i) 4) 1) 1))) (asV (nthD ax (xadd (xadd (xadd (xix 0 (xnat ↑i) 4) 1) 1) 1))) ↑i) 12),sD,sD,sD] (factG F))
 else(
 K (.exit 0) [.slo 0 0 n 0,.any,.ptr 1 0,.ptr 4 0,.int .i64 ↑i] (pp_b_b1 most d ax cs) (factG F)))
 else(
 K (.exit 0) [.slo 0 0 n 0,.any,.ptr 1 0,.ptr 4 0,.int .i64 ↑i] (pp_b_b1 most d ax cs) (factG F))):=by kernel_rfl
theorem pp_z (ax:List LV) (F:World→Prop) (K:Pk):(xsp prog cxL 60 41 ((sp prog 3).drop 8) (mkTm 41 []) (mkS [.ro ax] (factG F)) (vK plL9 K))=(
 K .ret [.any,.bool true,.any,.any,.any] [some (.ro ax)] (factG F)):=by kernel_rfl
end
end Go.Lev
