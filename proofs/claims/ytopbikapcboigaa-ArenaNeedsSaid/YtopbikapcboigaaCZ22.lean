/- chapter 11: both tell the same, as a contract; what an ask does: trees -/
import Derived.Test.YtopbikapcboigaaCZ21
import Derived.Test.YtopbikapcboigaaLc
import Derived.Test.YtopbikapcboigaaChecked
import Derived.KernelRfl
namespace Go.Lev
set_option linter.unusedSimpArgs false
set_option linter.unusedVariables false
open Go.RowKit
open Go.Proofs.Try (prog)
set_option maxRecDepth 100000
noncomputable section
theorem cm_self (x:Int):xcm .eql x x=true:=t_eql rfl
theorem spW_encn (sz:Nat) (ks:CL):spW sz (encL cell ks)=encL (cI .i64) (spL sz ks):=by rw [spW,decC_enc]
structure VS where
 ks:CL
 nd:Int
 ls:List Lv
structure OkS (sz:Nat) (most:Int) (s:VS):Prop where
 k:OkK sz s.ks
 l:OkLs s.ls
 m:(totC s.ls:Int)≤most
 m2:most≤96
theorem cxsn_ok:CtrOk prog (ctrOf cxsn):=cxl_ok ⟨owholeG_ok,lcellsG_ok,lfreesG_ok,sameCCellG_ok,sameIi64G_ok,trivial⟩
theorem sane_ok (sz:Nat) (most:Int) (s:VS) (h:OkS sz most s):SFun prog 22 [.ptr 0 0,.ptr 6 0] (mkS (doI sz s.ks.length (encL cell s.ks) (encL (cI .i64) (spL sz s.ks)) s.nd most s.ls.length (encLs s.ls))) fun l t=>l=.bool true∧t=mkS (snO sz s.ks.length (encL cell s.ks) (encL (cI .i64) (spL sz s.ks)) s.nd most s.ls.length (encLs s.ls)):=by
 refine SFun.mono (SFun.pieces (Q:=fun l b=>l=.bool true∧b=snO sz s.ks.length (encL cell s.ks) (encL (cI .i64) (spL sz s.ks)) s.nd most s.ls.length (encLs s.ls)) 45 11 snL [4] (by kernel_rfl) rfl rfl rfl ?_) fun l s' ⟨b0,⟨h1,h2⟩,h3⟩=>⟨h1,by rw [h3,h2]⟩
 have nk:=noids_c s.ks; have ns:=noIds_Ii64 (spL sz s.ks)
 have f1:=isF_self lvF; have f2:=isF_self orF
 have ok0:=okR_enc h.l h.m h.m2
 have hs:=h.k.s; have hn:=h.k.n
 have hw:=celL_wf (ls:=s.ls) fun x hx=>h.l.uq x hx
 have hc:=h.l.c; have hf:=h.l.f; have hfl:=freL_le s.ls; have hm:=h.m; have hm2:=h.m2
 have eC:lcC (encLs s.ls)=encL cell (celL s.ls):=by rw [lcC,decLs_enc]
 have eN:lcN (encLs s.ls)=(celL s.ls).length:=by rw [lcN,decLs_enc]
 have eW:lwC (encLs s.ls)=encL (cI .i64) (freL s.ls):=by rw [lwC,decLs_enc]
 have eM:lwN (encLs s.ls)=(freL s.ls).length:=by rw [lwN,decLs_enc]
 have ncc:=noids_c (celL s.ls); have nff:=noIds_Ii64 (freL s.ls)
 have okc:okC (encL cell (celL s.ls)) (celL s.ls).length=true:=okC_enc (by omega)
 have oki:okIi64 (encL (cI .i64) (freL s.ls)) (freL s.ls).length=true:=okIi64_enc (by omega)
 have okk:okC (encL cell s.ks) s.ks.length=true:=okC_enc (by omega)
 have xk:=xnoid_c s.ks; have lk:=cell_n s.ks
 refine SSp.to cxsn_ok (n:=60) (g:=[]) 2 2 rfl (σ:=Unit) (fun _=>snT) (fun _=>snH sz s.ks.length (encL cell s.ks) (encL (cI .i64) (spL sz s.ks)) s.nd most s.ls.length (encLs s.ls) (celL s.ls).length (freL s.ls).length (encL cell (celL s.ls)) (encL (cI .i64) (freL s.ls))) (mkS_le (Nat.le_of_ble_eq_true rfl)) (by kernel_rfl) ?_ fun _=>?_
 ·rw [sn_a,ok0,f2,eC,eN,eW,eM]
  exact⟨rfl,(),[.id 0,.id 1,.id 2,.id 3,.id 4,.id 5,.id 6,.id 7,.id 8,.id 9,.id 10,.id 15,.id 12,.id 13,.id 14],by(exact zC)⟩
 refine SSp.to cxsn_ok (n:=60) (g:=[]) 1 3 rfl (σ:=Unit) (fun _=>[(4,.bool true)]) (fun _=>snO sz s.ks.length (encL cell s.ks) (encL (cI .i64) (spL sz s.ks)) s.nd most s.ls.length (encLs s.ls)) (mkS_le (Nat.le_of_ble_eq_true rfl)) (by kernel_rfl) ?_ fun _=>?_
 ·rw [sn_o]
  simp only [ok0,f1,f2,eC,eN,eW,eM,okc,oki,okk,xk,lk,wd_ln,wd_mul,sameCCell_self,sameIi64_self,cm_self,cond_true]
  (refine zR ?_)
  exact⟨rfl,(),[.id 0,.id 1,.id 2,.id 3,.id 4,.id 5,.id 6,.id 7,.id 8,.id 9,.id 10,.id 18,.id 14],by(exact zC)⟩
 refine zE cxsn_ok ?_
 rw [sn_z]
 exact⟨trivial,rfl,.bool true,snO sz s.ks.length (encL cell s.ks) (encL (cI .i64) (spL sz s.ks)) s.nd most s.ls.length (encLs s.ls),[.id 0,.id 1,.id 2,.id 3,.id 4,.id 5,.id 6,.id 7,.id 8,.id 9,.id 10,.id 11,.id 12],⟨rfl,rfl⟩,by(exact zC)⟩
theorem sane_c (sz n:Nat) (kc sc:List LV) (nd most:Int) (d:Nat) (cs:List LV) (k1:okK sz n kc=true) (k2:sc=spW sz kc) (k3:okR most cs d=true):SFun prog 22 [.ptr 0 0,.ptr 6 0] (mkS (doI sz n kc sc nd most d cs)) fun l t=>l=.bool true∧t=mkS (snO sz n kc sc nd most d cs):=by
 obtain⟨ks,rfl,rfl,h⟩:=okK_iff.1 k1
 obtain⟨ls,rfl,rfl,h1,h2,h3⟩:=okR_iff.1 k3
 subst k2
 simp only [spW_enc]
 exact sane_ok sz most ⟨ks,nd,ls⟩ ⟨h,h1,h2,h3⟩
def sanG:Gc:=fun args s=>match args,s.g with
 | [.ptr b 0,.ptr p 0],[]=>(match s.h.get b with
   | some (.cells [.slo q 0 n 0,.slo z 0 sz 0,.int .i64 nd,.ptr l 0] none)=>(match s.h.get q with
     | some (.cells kc (some 2))=>(match s.h.get z with
       | some (.cells sc (some 1))=>(match s.h.get l with
         | some (.cells [.int .i64 most,.slo o 0 d 0] none)=>(match s.h.get o with
           | some (.obj F_o cs e)=>(match s.h.get e with
             | some (.dead)=>(match s.h.get p with
               | some (.cells [.int .i64 (.ofNat sz2),.slo q2 0 n2 0,.ptr l2 0,.int .i64 nd2] none)=>(match s.h.get q2 with
                 | some (.cells kc2 (some 2))=>(match s.h.get l2 with
                   | some (.cells [.int .i64 most2,.slo o2 0 d2 0] none)=>(match s.h.get o2 with
                     | some (.obj F_o2 cs2 u)=>(match s.h.get u with
                       | some (.dead)=>cond (nodupB [b,q,z,l,o,e,p,q2,l2,o2,u]) (match s.lay [b,q,z,l,o,e,p,q2,l2,o2,u] [.cells [.slo q 0 n 0,.slo z 0 sz 0,.int .i64 nd,.ptr l 0] none,.cells kc (some 2),.cells sc (some 1),.cells [.int .i64 most,.slo o 0 d 0] none,.obj lvF cs s.n,.dead,.cells [.int .i64 (.ofNat sz),.slo q2 0 n 0,.ptr l2 0,.int .i64 nd] none,.cells kc (some 2),.cells [.int .i64 most,.slo o2 0 d 0] none,.obj orF cs (Nat.succ s.n),.dead] [.dead,.dead] with
                         | some s'=>some ([okK sz n kc,eqL sc (spW sz kc),okR most cs d,xcm .eql most most2,xeq d d2,eqL cs cs2,xeq sz sz2,xeq n n2,eqL kc kc2,xcm .eql nd nd2,isF F_o lvF,isF F_o2 orF],.bool true,s')
                         | none=>none) none
                       | _=>none)
                     | _=>none)
                   | _=>none)
                 | _=>none)
               | _=>none)
             | _=>none)
           | _=>none)
         | _=>none)
       | _=>none)
     | _=>none)
   | _=>none)
 | _,_=>none
theorem sanG_ok:GOk prog 22 sanG:=by
 intro args s bs l s' hg hb hfr
 unfold sanG at hg
 split at hg
 ·rename_i b p hgl
  split at hg
  ·rename_i q n z sz nd l hb0
   split at hg
   ·rename_i kc hb1
    split at hg
    ·rename_i sc hb2
     split at hg
     ·rename_i most o d hb3
      split at hg
      ·rename_i F_o cs e hb4
       split at hg
       ·rename_i  hb5
        split at hg
        ·rename_i sz2 q2 n2 l2 nd2 hb6
         split at hg
         ·rename_i kc2 hb7
          split at hg
          ·rename_i most2 o2 d2 hb8
           split at hg
           ·rename_i F_o2 cs2 u hb9
            split at hg
            ·rename_i  hb10
             cases hbc:nodupB [b,q,z,l,o,e,p,q2,l2,o2,u] with
             | false=>rw [hbc] at hg; cases hg
             | true =>
               rw [hbc] at hg
               simp only [cond_true] at hg
               split at hg
               ·rename_i s1 hs1
                simp only [Option.some.injEq,Prod.mk.injEq] at hg
                obtain⟨rfl,rfl,rfl⟩:=hg
                simp only [allT_cons] at hb
                obtain⟨k1,k2,k3,k4,k5,k6,k7,k8,k9,k10,k11,k12,_⟩:=hb
                have e_o:=isF_eq k11
                subst e_o
                have e_o2:=isF_eq k12
                subst e_o2
                replace k2:=eqL_eq k2
                rw [xcm_eql,decide_eq_true_eq] at k4
                rw [wd_eq,decide_eq_true_eq] at k5
                replace k6:=eqL_eq k6
                rw [wd_eq,decide_eq_true_eq] at k7
                rw [wd_eq,decide_eq_true_eq] at k8
                replace k9:=eqL_eq k9
                rw [xcm_eql,decide_eq_true_eq] at k10
                subst k4 k5 k6 k7 k8 k9 k10
                have no:noIds kc=true:=okK_noids k1
                have no2:noIds sc=true:=by rw [k2]; exact spW_noids _ _
                refine SFun.lay (bs:=[.cells [.slo 1 0 n 0,.slo 2 0 sz 0,.int .i64 nd,.ptr 3 0] none,.cells kc (some 2),.cells sc (some 1),.cells [.int .i64 most,.slo 4 0 d 0] none,.obj lvF cs 5,.dead,.cells [.int .i64 (.ofNat sz),.slo 7 0 n 0,.ptr 8 0,.int .i64 nd] none,.cells kc (some 2),.cells [.int .i64 most,.slo 9 0 d 0] none,.obj orF cs 10,.dead]) (args0:=[.ptr 0 0,.ptr 6 0]) (bs':=[.cells [.slo 1 0 n 0,.slo 2 0 sz 0,.int .i64 nd,.ptr 3 0] none,.cells kc (some 2),.cells sc (some 1),.cells [.int .i64 most,.slo 4 0 d 0] none,.obj lvF cs 11,.dead,.cells [.int .i64 (.ofNat sz),.slo 7 0 n 0,.ptr 8 0,.int .i64 nd] none,.cells kc (some 2),.cells [.int .i64 most,.slo 9 0 d 0] none,.obj orF cs 12,.dead,.dead,.dead]) (v0:=.bool true) hfr hs1 (nodupB_nd hbc)
                 ⟨⟨there hfr hb0,_,hb0,by first | exact lb_same rfl | exact lb_cells (lws_cons (lw_slo rfl) (lws_cons (lw_slo rfl) (lws_cons (lw_int) (lws_cons (lw_ptr rfl) lws_nil)))) (by simp),fun κ hκ=>lb_cells (lws_cons (lw_slo (hκ 1 q rfl)) (lws_cons (lw_slo (hκ 2 z rfl)) (lws_cons (lw_int) (lws_cons (lw_ptr (hκ 3 l rfl)) lws_nil)))) (by simp)⟩,⟨there hfr hb1,_,hb1,lb_same (by(exact zId)),fun κ hκ=>lb_same (by(exact zId))⟩,⟨there hfr hb2,_,hb2,lb_same (by(exact zId)),fun κ hκ=>lb_same (by(exact zId))⟩,⟨there hfr hb3,_,hb3,by first | exact lb_same rfl | exact lb_cells (lws_cons (lw_int) (lws_cons (lw_slo rfl) lws_nil)) (by simp),fun κ hκ=>lb_cells (lws_cons (lw_int) (lws_cons (lw_slo (hκ 4 o rfl)) lws_nil)) (by simp)⟩,⟨there hfr hb4,_,hb4,lb_obj rfl,fun κ hκ=>lb_obj (hκ 5 e rfl)⟩,⟨there hfr hb5,_,hb5,lb_dead,fun κ hκ=>lb_dead⟩,⟨there hfr hb6,_,hb6,by first | exact lb_same rfl | exact lb_cells (lws_cons (lw_int) (lws_cons (lw_slo rfl) (lws_cons (lw_ptr rfl) (lws_cons (lw_int) lws_nil)))) (by simp),fun κ hκ=>lb_cells (lws_cons (lw_int) (lws_cons (lw_slo (hκ 7 q2 rfl)) (lws_cons (lw_ptr (hκ 8 l2 rfl)) (lws_cons (lw_int) lws_nil)))) (by simp)⟩,⟨there hfr hb7,_,hb7,lb_same (by(exact zId)),fun κ hκ=>lb_same (by(exact zId))⟩,⟨there hfr hb8,_,hb8,by first | exact lb_same rfl | exact lb_cells (lws_cons (lw_int) (lws_cons (lw_slo rfl) lws_nil)) (by simp),fun κ hκ=>lb_cells (lws_cons (lw_int) (lws_cons (lw_slo (hκ 9 o2 rfl)) lws_nil)) (by simp)⟩,⟨there hfr hb9,_,hb9,lb_obj rfl,fun κ hκ=>lb_obj (hκ 10 u rfl)⟩,⟨there hfr hb10,_,hb10,lb_dead,fun κ hκ=>lb_dead⟩,trivial⟩ (by(exact zTl)) ?_
                 fun κ h1 h2=>⟨⟨lb_cells (lws_cons (lw_slo (h1 1 q rfl)) (lws_cons (lw_slo (h1 2 z rfl)) (lws_cons (lw_int) (lws_cons (lw_ptr (h1 3 l rfl)) lws_nil)))) (by simp),lb_same (by(exact zId)),lb_same (by(exact zId)),lb_cells (lws_cons (lw_int) (lws_cons (lw_slo (h1 4 o rfl)) lws_nil)) (by simp),lb_obj (h2 0 (by simp)),lb_dead,lb_cells (lws_cons (lw_int) (lws_cons (lw_slo (h1 7 q2 rfl)) (lws_cons (lw_ptr (h1 8 l2 rfl)) (lws_cons (lw_int) lws_nil)))) (by simp),lb_same (by(exact zId)),lb_cells (lws_cons (lw_int) (lws_cons (lw_slo (h1 9 o2 rfl)) lws_nil)) (by simp),lb_obj (h2 1 (by simp)),lb_dead,lb_dead,lb_dead,trivial⟩,lw_bool⟩
                rw [hgl]; exact(sane_c sz n kc sc nd most d cs k1 k2 k3)
               ·cases hg
            ·cases hg
           ·cases hg
          ·cases hg
         ·cases hg
        ·cases hg
       ·cases hg
      ·cases hg
     ·cases hg
    ·cases hg
   ·cases hg
  ·cases hg
 ·cases hg
def cxdo:Cx:=cxl [(35,withinG),(13,frG),(50,ofrG),(14,gvG),(51,ogvG),(78,lopenG),(53,oopenG),(79,lkeepG),(55,okeepG),(81,ldropG),(57,odropG),(12,alG),(58,oalG)]
abbrev daS:List Code:=sp prog 21
abbrev daL:List Nat:=[0,1,3,6,8,9,10]
abbrev daT (m:Nat) (b:Int):List (Nat×LV):=[(0,.ptr 0 0),(1,.ptr 6 0),(3,.slo 11 0 m 0),(6,.ptr 12 0),(10,.int .i64 b)]
abbrev daI (sz n:Nat) (kc sc:List LV) (nd most:Int) (d:Nat) (cs tc:List LV):List LB:=[.cells [.slo 1 0 n 0,.slo 2 0 sz 0,.int .i64 nd,.ptr 3 0] none,.cells kc (some 2),.cells sc (some 1),.cells [.int .i64 most,.slo 4 0 d 0] none,.obj lvF cs 5,.dead,.cells [.int .i64 sz,.slo 7 0 n 0,.ptr 8 0,.int .i64 nd] none,.cells kc (some 2),.cells [.int .i64 most,.slo 9 0 d 0] none,.obj orF cs 10,.dead,.cells tc (some 1)]
abbrev daH (sz n:Nat) (kc sc:List LV) (nd most:Int) (d:Nat) (cs tc:List LV) (k a:Int) (q:Bool):List LB:=[.cells [.slo 1 0 n 0,.slo 2 0 sz 0,.int .i64 nd,.ptr 3 0] none,.cells kc (some 2),.cells sc (some 1),.cells [.int .i64 most,.slo 4 0 d 0] none,.obj lvF cs 5,.dead,.cells [.int .i64 sz,.slo 7 0 n 0,.ptr 8 0,.int .i64 nd] none,.cells kc (some 2),.cells [.int .i64 most,.slo 9 0 d 0] none,.obj orF cs 10,.dead,.cells tc (some 1),.cells [.int .i64 k,.int .i64 a,.bool q] none]
abbrev da_a_b1 (sz:Nat) (n:Nat) (kc:List LV) (sc:List LV) (nd:Int) (most:Int) (d:Nat) (cs:List LV) (tc:List LV) (k:Int) (a:Int) (q:Bool):List (Option LB):=[sN [.slo 1 0 n 0,.slo 2 0 sz 0,.int .i64 nd,.ptr 3 0],sC kc 2,sC sc 1,sN [.int .i64 most,.slo 4 0 d 0],some (.obj lvF cs 5),sD,sN [.int .i64 ↑sz,.slo 7 0 n 0,.ptr 8 0,.int .i64 nd],sC kc 2,sN [.int .i64 most,.slo 9 0 d 0],some (.obj orF cs 10),sD,sC tc 1,sN [.int .i64 k,.int .i64 a,.bool q]]
theorem da_a (sz n m:Nat) (kc sc:List LV) (nd most:Int) (d:Nat) (cs tc:List LV) (k a:Int) (q:Bool) (K:Pk):(xsp prog cxdo 60 124 (seg daS 0 4) (tm0 [.ptr 0 0,.ptr 6 0,.agg [.int .i64 k,.int .i64 a,.bool q],.slo 11 0 m 0]) (mkS (daI sz n kc sc nd most d cs tc)) (vK daL K))=(
 bif q then(
 bif xcm .gtr (↑m) 0 then(
 ck (xcm .leq 0 (xar .sub .i64 (↑m) 1)) <|
 ck (xcm .leq (xar .sub .i64 (↑m) 1) 1000000) <|
 ck (xnn (wthV a 0 (xar .sub .i64 (↑m) 1))) <|
 ck (xle (xadd (xnat (wthV a 0 (xar .sub .i64 (↑m) 1))) 1) m) <|
 ck (xle (xadd (xix 0 (xnat (wthV a 0 (xar .sub .i64 (↑m) 1))) 1) 1) (xln tc)) <|
 ck (isI .i64 (nthD tc (xix 0 (xnat (wthV a 0 (xar .sub .i64 (↑m) 1))) 1))) <|
 K .normal [.ptr 0 0,.ptr 6 0,.slo 11 0 m 0,.ptr 12 0,.nils,.bool false,.int .i64 (asI (nthD tc (xix 0 (xnat (wthV a 0 (xar .sub .i64 (↑m) 1))) 1)))] (da_a_b1 sz n kc sc nd most d cs tc k a q) [])
 else(
 K .normal [.ptr 0 0,.ptr 6 0,.slo 11 0 m 0,.ptr 12 0,.nils,.bool false,.int .i64 (wthV a 0 256)] (da_a_b1 sz n kc sc nd most d cs tc k a q) []))
 else(
 K .normal [.ptr 0 0,.ptr 6 0,.slo 11 0 m 0,.ptr 12 0,.nils,.bool false,.int .i64 (wthV a 0 256)] (da_a_b1 sz n kc sc nd most d cs tc k a q) [])):=by kernel_rfl
abbrev da_b_b1 (sz:Nat) (n:Nat) (kc:List LV) (sc:List LV) (nd:Int) (most:Int) (d:Nat) (cs:List LV) (tc:List LV) (k:Int) (a:Int) (b:Int) (q:Bool):List (Option LB):=[sN [.slo 1 0 n 0,.slo 2 0 sz 0,.int .i64 (gvD sz kc cs b nd),.ptr 3 0],sC kc 2,sC sc 1,sN [.int .i64 most,.slo 4 0 (gvN sz most kc cs b d) 0],some (.obj lvF (gvC sz most kc cs b) 13),sD,sN [.int .i64 (Int.ofNat sz),.slo 7 0 n 0,.ptr 8 0,.int .i64 (gvD sz kc cs b nd)],sC kc 2,sN [.int .i64 most,.slo 14 0 (gvN sz most kc cs b d) 0],sD,sD,sC tc 1,sN [.int .i64 k,.int .i64 a,.bool q],sD,some (.obj orF (gvC sz most kc cs b) 15),sD]
abbrev da_b_b2 (sz:Nat) (n:Nat) (kc:List LV) (sc:List LV) (nd:Int) (most:Int) (cs:List LV) (tc:List LV) (k:Int) (a:Int) (q:Bool):List (Option LB):=[sN [.slo 1 0 n 0,.slo 2 0 sz 0,.int .i64 nd,.ptr 3 0],sC kc 2,sC sc 1,sN [.int .i64 most,.slo 13 0 (lopenD cs) 0],sD,sD,sN [.int .i64 ↑sz,.slo 7 0 n 0,.ptr 8 0,.int .i64 nd],sC kc 2,sN [.int .i64 most,.slo 15 0 (lopenD cs) 0],sD,sD,sC tc 1,sN [.int .i64 k,.int .i64 a,.bool q],some (.obj lvF (lopenC cs) 14),sD,some (.obj orF (lopenC cs) 16),sD]
abbrev da_b_b3 (sz:Nat) (n:Nat) (kc:List LV) (sc:List LV) (nd:Int) (most:Int) (cs:List LV) (tc:List LV) (k:Int) (a:Int) (q:Bool):List (Option LB):=[sN [.slo 1 0 n 0,.slo 2 0 sz 0,.int .i64 nd,.ptr 3 0],sC kc 2,sC sc 1,sN [.int .i64 most,.slo 13 0 (lkeepD cs) 0],sD,sD,sN [.int .i64 ↑sz,.slo 7 0 n 0,.ptr 8 0,.int .i64 nd],sC kc 2,sN [.int .i64 most,.slo 15 0 (lkeepD cs) 0],sD,sD,sC tc 1,sN [.int .i64 k,.int .i64 a,.bool q],some (.obj lvF (lkeepC cs) 14),sD,some (.obj orF (lkeepC cs) 16),sD]
abbrev da_b_b4 (sz:Nat) (n:Nat) (kc:List LV) (sc:List LV) (nd:Int) (most:Int) (cs:List LV) (tc:List LV) (k:Int) (a:Int) (q:Bool):List (Option LB):=[sN [.slo 1 0 n 0,.slo 2 0 sz 0,.int .i64 nd,.ptr 3 0],sC kc 2,sC sc 1,sN [.int .i64 most,.slo 13 0 (ldropD cs) 0],sD,sD,sN [.int .i64 ↑sz,.slo 7 0 n 0,.ptr 8 0,.int .i64 nd],sC kc 2,sN [.int .i64 most,.slo 15 0 (ldropD cs) 0],sD,sD,sC tc 1,sN [.int .i64 k,.int .i64 a,.bool q],some (.obj lvF (ldropC cs) 14),sD,some (.obj orF (ldropC cs) 16),sD]
abbrev da_b_b5 (sz:Nat) (n:Nat) (kc:List LV) (sc:List LV) (nd:Int) (most:Int) (d:Nat) (cs:List LV) (tc:List LV) (k:Int) (a:Int) (q:Bool):List (Option LB):=[sN [.slo 1 0 n 0,.slo 2 0 sz 0,.int .i64 nd,.ptr 3 0],sC kc 2,sC sc 1,sN [.int .i64 most,.slo 4 0 d 0],some (.obj lvF cs 5),sD,sN [.int .i64 ↑sz,.slo 7 0 n 0,.ptr 8 0,.int .i64 nd],sC kc 2,sN [.int .i64 most,.slo 9 0 d 0],some (.obj orF cs 10),sD,sC tc 1,sN [.int .i64 k,.int .i64 a,.bool q]]
abbrev da_b_b6 (sz:Nat) (n:Nat) (kc:List LV) (sc:List LV) (nd:Int) (most:Int) (d:Nat) (cs:List LV) (tc:List LV) (k:Int) (a:Int) (b:Int) (q:Bool):List (Option LB):=[sN [.slo 1 0 n 0,.slo 2 0 sz 0,.int .i64 (hrD sz kc cs b nd),.ptr 3 0],sC kc 2,sC sc 1,sN [.int .i64 most,.slo 4 0 (fbN sz most kc cs b d) 0],some (.obj lvF (fbC sz most kc cs b) 13),sD,sN [.int .i64 (Int.ofNat sz),.slo 7 0 n 0,.ptr 8 0,.int .i64 (hrD sz kc cs b nd)],sC kc 2,sN [.int .i64 most,.slo 14 0 (fbN sz most kc cs b d) 0],sD,sD,sC tc 1,sN [.int .i64 k,.int .i64 a,.bool q],sD,some (.obj orF (fbC sz most kc cs b) 15),sD]
theorem da_b (sz n m:Nat) (kc sc:List LV) (nd most:Int) (d:Nat) (cs tc:List LV) (k a b:Int) (q:Bool) (K:Pk):(xsp prog cxdo 60 124 (seg daS 4 2) (mkTm 124 (daT m b)) (mkS (daH sz n kc sc nd most d cs tc k a q)) (vK daL K))=(
 bif xcm .eql (wthV k 0 9) 0 then(
 bif xcm .eql (wthV k 0 9) 0 then(
 ck (okK sz n kc) <|
 ck (eqL sc (spW sz kc)) <|
 ck (okR most cs d) <|
 ck (fbF sz most kc cs b) <|
 ck (isF lvF lvF) <|
 ck (okK sz n kc) <|
 ck (okR most cs d) <|
 ck (okv sz kc cs) <|
 ck (fbF sz most kc cs b) <|
 ck (isF orF orF) <|
 K .ret [.ptr 0 0,.ptr 6 0,.slo 11 0 m 0,.ptr 12 0,.slo 11 0 m 0,.bool (xcm .eql (fbE sz most kc cs b) (fbE sz most kc cs b)),.int .i64 b] (da_b_b6 sz n kc sc nd most d cs tc k a b q) [])
 else(
 bif xcm .eql (wthV k 0 9) 1 then(
 bif xcm .eql (wthV k 0 9) 1 then(
 ck (okK sz n kc) <|
 ck (eqL sc (spW sz kc)) <|
 ck (okR most cs d) <|
 ck (isF lvF lvF) <|
 ck (okK sz n kc) <|
 ck (okR most cs d) <|
 ck (okv sz kc cs) <|
 ck (isF orF orF) <|
 K .ret [.ptr 0 0,.ptr 6 0,.slo 11 0 m 0,.ptr 12 0,.slo 11 0 m 0,.bool (xcm .eql (gvE sz most kc cs b) (gvE sz most kc cs b)),.int .i64 b] (da_b_b1 sz n kc sc nd most d cs tc k a b q) [])
 else(
 bif xcm .eql (wthV k 0 9) 2 then(
 ck (okR most cs d) <|
 ck (isF lvF lvF) <|
 ck (okR most cs d) <|
 ck (isF orF orF) <|
 K .ret [.ptr 0 0,.ptr 6 0,.slo 11 0 m 0,.ptr 12 0,.slo 11 0 m 0,.bool (xcm .eql (lopenE cs) (lopenE cs)),.int .i64 b] (da_b_b2 sz n kc sc nd most cs tc k a q) [])
 else(
 bif xcm .eql (wthV k 0 9) 3 then(
 ck (okR most cs d) <|
 ck (isF lvF lvF) <|
 ck (okR most cs d) <|
 ck (isF orF orF) <|
 K .ret [.ptr 0 0,.ptr 6 0,.slo 11 0 m 0,.ptr 12 0,.slo 11 0 m 0,.bool (xcm .eql (lkeepE cs) (lkeepE cs)),.int .i64 b] (da_b_b3 sz n kc sc nd most cs tc k a q) [])
 else(
 bif xcm .eql (wthV k 0 9) 4 then(
 ck (okR most cs d) <|
 ck (isF lvF lvF) <|
 ck (okR most cs d) <|
 ck (isF orF orF) <|
 K .ret [.ptr 0 0,.ptr 6 0,.slo 11 0 m 0,.ptr 12 0,.slo 11 0 m 0,.bool (xcm .eql (ldropE cs) (ldropE cs)),.int .i64 b] (da_b_b4 sz n kc sc nd most cs tc k a q) [])
 else(
 K .normal [.ptr 0 0,.ptr 6 0,.slo 11 0 m 0,.ptr 12 0,.any,.any,.int .i64 b] (da_b_b5 sz n kc sc nd most d cs tc k a q) [])))))
 else(
 bif xcm .eql (wthV k 0 9) 6 then(
 ck (okK sz n kc) <|
 ck (eqL sc (spW sz kc)) <|
 ck (okR most cs d) <|
 ck (isF lvF lvF) <|
 ck (okK sz n kc) <|
 ck (okR most cs d) <|
 ck (okv sz kc cs) <|
 ck (isF orF orF) <|
 K .ret [.ptr 0 0,.ptr 6 0,.slo 11 0 m 0,.ptr 12 0,.slo 11 0 m 0,.bool (xcm .eql (gvE sz most kc cs b) (gvE sz most kc cs b)),.int .i64 b] (da_b_b1 sz n kc sc nd most d cs tc k a b q) [])
 else(
 bif xcm .eql (wthV k 0 9) 2 then(
 ck (okR most cs d) <|
 ck (isF lvF lvF) <|
 ck (okR most cs d) <|
 ck (isF orF orF) <|
 K .ret [.ptr 0 0,.ptr 6 0,.slo 11 0 m 0,.ptr 12 0,.slo 11 0 m 0,.bool (xcm .eql (lopenE cs) (lopenE cs)),.int .i64 b] (da_b_b2 sz n kc sc nd most cs tc k a q) [])
 else(
 bif xcm .eql (wthV k 0 9) 3 then(
 ck (okR most cs d) <|
 ck (isF lvF lvF) <|
 ck (okR most cs d) <|
 ck (isF orF orF) <|
 K .ret [.ptr 0 0,.ptr 6 0,.slo 11 0 m 0,.ptr 12 0,.slo 11 0 m 0,.bool (xcm .eql (lkeepE cs) (lkeepE cs)),.int .i64 b] (da_b_b3 sz n kc sc nd most cs tc k a q) [])
 else(
 bif xcm .eql (wthV k 0 9) 4 then(
 ck (okR most cs d) <|
 ck (isF lvF lvF) <|
 ck (okR most cs d) <|
 ck (isF orF orF) <|
 K .ret [.ptr 0 0,.ptr 6 0,.slo 11 0 m 0,.ptr 12 0,.slo 11 0 m 0,.bool (xcm .eql (ldropE cs) (ldropE cs)),.int .i64 b] (da_b_b4 sz n kc sc nd most cs tc k a q) [])
 else(
 K .normal [.ptr 0 0,.ptr 6 0,.slo 11 0 m 0,.ptr 12 0,.any,.any,.int .i64 b] (da_b_b5 sz n kc sc nd most d cs tc k a q) [])))))))
 else(
 bif xcm .eql (wthV k 0 9) 5 then(
 ck (okK sz n kc) <|
 ck (eqL sc (spW sz kc)) <|
 ck (okR most cs d) <|
 ck (fbF sz most kc cs b) <|
 ck (isF lvF lvF) <|
 ck (okK sz n kc) <|
 ck (okR most cs d) <|
 ck (okv sz kc cs) <|
 ck (fbF sz most kc cs b) <|
 ck (isF orF orF) <|
 K .ret [.ptr 0 0,.ptr 6 0,.slo 11 0 m 0,.ptr 12 0,.slo 11 0 m 0,.bool (xcm .eql (fbE sz most kc cs b) (fbE sz most kc cs b)),.int .i64 b] (da_b_b6 sz n kc sc nd most d cs tc k a b q) [])
 else(
 bif xcm .eql (wthV k 0 9) 1 then(
 bif xcm .eql (wthV k 0 9) 1 then(
 ck (okK sz n kc) <|
 ck (eqL sc (spW sz kc)) <|
 ck (okR most cs d) <|
 ck (isF lvF lvF) <|
 ck (okK sz n kc) <|
 ck (okR most cs d) <|
 ck (okv sz kc cs) <|
 ck (isF orF orF) <|
 K .ret [.ptr 0 0,.ptr 6 0,.slo 11 0 m 0,.ptr 12 0,.slo 11 0 m 0,.bool (xcm .eql (gvE sz most kc cs b) (gvE sz most kc cs b)),.int .i64 b] (da_b_b1 sz n kc sc nd most d cs tc k a b q) [])
 else(
 bif xcm .eql (wthV k 0 9) 2 then(
 ck (okR most cs d) <|
 ck (isF lvF lvF) <|
 ck (okR most cs d) <|
 ck (isF orF orF) <|
 K .ret [.ptr 0 0,.ptr 6 0,.slo 11 0 m 0,.ptr 12 0,.slo 11 0 m 0,.bool (xcm .eql (lopenE cs) (lopenE cs)),.int .i64 b] (da_b_b2 sz n kc sc nd most cs tc k a q) [])
 else(
 bif xcm .eql (wthV k 0 9) 3 then(
 ck (okR most cs d) <|
 ck (isF lvF lvF) <|
 ck (okR most cs d) <|
 ck (isF orF orF) <|
 K .ret [.ptr 0 0,.ptr 6 0,.slo 11 0 m 0,.ptr 12 0,.slo 11 0 m 0,.bool (xcm .eql (lkeepE cs) (lkeepE cs)),.int .i64 b] (da_b_b3 sz n kc sc nd most cs tc k a q) [])
 else(
 bif xcm .eql (wthV k 0 9) 4 then(
 ck (okR most cs d) <|
 ck (isF lvF lvF) <|
 ck (okR most cs d) <|
 ck (isF orF orF) <|
 K .ret [.ptr 0 0,.ptr 6 0,.slo 11 0 m 0,.ptr 12 0,.slo 11 0 m 0,.bool (xcm .eql (ldropE cs) (ldropE cs)),.int .i64 b] (da_b_b4 sz n kc sc nd most cs tc k a q) [])
 else(
 K .normal [.ptr 0 0,.ptr 6 0,.slo 11 0 m 0,.ptr 12 0,.any,.any,.int .i64 b] (da_b_b5 sz n kc sc nd most d cs tc k a q) [])))))
 else(
 bif xcm .eql (wthV k 0 9) 6 then(
 ck (okK sz n kc) <|
 ck (eqL sc (spW sz kc)) <|
 ck (okR most cs d) <|
 ck (isF lvF lvF) <|
 ck (okK sz n kc) <|
 ck (okR most cs d) <|
 ck (okv sz kc cs) <|
 ck (isF orF orF) <|
 K .ret [.ptr 0 0,.ptr 6 0,.slo 11 0 m 0,.ptr 12 0,.slo 11 0 m 0,.bool (xcm .eql (gvE sz most kc cs b) (gvE sz most kc cs b)),.int .i64 b] (da_b_b1 sz n kc sc nd most d cs tc k a b q) [])
 else(
 bif xcm .eql (wthV k 0 9) 2 then(
 ck (okR most cs d) <|
 ck (isF lvF lvF) <|
 ck (okR most cs d) <|
 ck (isF orF orF) <|
 K .ret [.ptr 0 0,.ptr 6 0,.slo 11 0 m 0,.ptr 12 0,.slo 11 0 m 0,.bool (xcm .eql (lopenE cs) (lopenE cs)),.int .i64 b] (da_b_b2 sz n kc sc nd most cs tc k a q) [])
 else(
 bif xcm .eql (wthV k 0 9) 3 then(
 ck (okR most cs d) <|
 ck (isF lvF lvF) <|
 ck (okR most cs d) <|
 ck (isF orF orF) <|
 K .ret [.ptr 0 0,.ptr 6 0,.slo 11 0 m 0,.ptr 12 0,.slo 11 0 m 0,.bool (xcm .eql (lkeepE cs) (lkeepE cs)),.int .i64 b] (da_b_b3 sz n kc sc nd most cs tc k a q) [])
 else(
 bif xcm .eql (wthV k 0 9) 4 then(
 ck (okR most cs d) <|
 ck (isF lvF lvF) <|
 ck (okR most cs d) <|
 ck (isF orF orF) <|
 K .ret [.ptr 0 0,.ptr 6 0,.slo 11 0 m 0,.ptr 12 0,.slo 11 0 m 0,.bool (xcm .eql (ldropE cs) (ldropE cs)),.int .i64 b] (da_b_b4 sz n kc sc nd most cs tc k a q) [])
 else(
 K .normal [.ptr 0 0,.ptr 6 0,.slo 11 0 m 0,.ptr 12 0,.any,.any,.int .i64 b] (da_b_b5 sz n kc sc nd most d cs tc k a q) [])))))))):=by kernel_rfl
abbrev da_c_b1 (sz:Nat) (n:Nat) (m:Nat) (kc:List LV) (sc:List LV) (nd:Int) (most:Int) (d:Nat) (cs:List LV) (tc:List LV) (k:Int) (a:Int) (q:Bool):List (Option LB):=[sN [.slo 1 0 n 0,.slo 2 0 sz 0,.int .i64 (alD sz kc cs (wthV a (-1) 17) nd),.ptr 3 0],sC kc 2,sC sc 1,sN [.int .i64 most,.slo 4 0 (alN sz most kc cs (wthV a (-1) 17) d) 0],some (.obj lvF (alC sz most kc cs (wthV a (-1) 17)) 13),sD,sN [.int .i64 (Int.ofNat sz),.slo 7 0 n 0,.ptr 8 0,.int .i64 (alD sz kc cs (wthV a (-1) 17) nd)],sC kc 2,sN [.int .i64 most,.slo 14 0 (alN sz most kc cs (wthV a (-1) 17) d) 0],sD,sD,sC tc 1,sN [.int .i64 k,.int .i64 a,.bool q],sD,some (.obj orF (alC sz most kc cs (wthV a (-1) 17)) 15),sD,sD,sN [.int .i64 (alV sz most kc cs (wthV a (-1) 17))],sC (xcat (xcut (xcut tc 0 (xmul m 1)) 0 (xmul m 1)) [.int .i64 (alV sz most kc cs (wthV a (-1) 17))]) 1]
abbrev da_c_b2 (sz:Nat) (n:Nat) (kc:List LV) (sc:List LV) (nd:Int) (most:Int) (d:Nat) (cs:List LV) (tc:List LV) (k:Int) (a:Int) (q:Bool):List (Option LB):=[sN [.slo 1 0 n 0,.slo 2 0 sz 0,.int .i64 (alD sz kc cs (wthV a (-1) 17) nd),.ptr 3 0],sC kc 2,sC sc 1,sN [.int .i64 most,.slo 4 0 (alN sz most kc cs (wthV a (-1) 17) d) 0],some (.obj lvF (alC sz most kc cs (wthV a (-1) 17)) 13),sD,sN [.int .i64 (Int.ofNat sz),.slo 7 0 n 0,.ptr 8 0,.int .i64 (alD sz kc cs (wthV a (-1) 17) nd)],sC kc 2,sN [.int .i64 most,.slo 14 0 (alN sz most kc cs (wthV a (-1) 17) d) 0],sD,sD,sC tc 1,sN [.int .i64 k,.int .i64 a,.bool q],sD,some (.obj orF (alC sz most kc cs (wthV a (-1) 17)) 15),sD]
theorem da_c (sz n m:Nat) (kc sc:List LV) (nd most:Int) (d:Nat) (cs tc:List LV) (k a b:Int) (q:Bool) (K:Pk):(xsp prog cxdo 60 124 (daS.drop 6) (mkTm 124 (daT m b)) (mkS (daH sz n kc sc nd most d cs tc k a q)) (vK daL K))=(
 ck (okK sz n kc) <|
 ck (eqL sc (spW sz kc)) <|
 ck (okR most cs d) <|
 ck (isF lvF lvF) <|
 ck (okK sz n kc) <|
 ck (okR most cs d) <|
 ck (okv sz kc cs) <|
 ck (isF orF orF) <|
 bif xcm .eql (alE sz most kc cs (wthV a (-1) 17)) 0 then(
 ck (xle (xadd 0 (xmul m 1)) (xln tc)) <|
 ck (xle (xmul m 8) 140737488355328) <|
 ck (xle m 140737488355328) <|
 ck (xle (xadd m 1) 1000000) <|
 ck (xle (xadd 0 (xmul m 1)) (xln (xcut tc 0 (xmul m 1)))) <|
 bif xcm .eql (alV sz most kc cs (wthV a (-1) 17)) (alV sz most kc cs (wthV a (-1) 17)) then(
 K .ret [.ptr 0 0,.ptr 6 0,.slo 18 0 (xadd m 1) 0,.ptr 12 0,.slo 18 0 (xadd m 1) 0,.bool (xcm .eql (alE sz most kc cs (wthV a (-1) 17)) (alE sz most kc cs (wthV a (-1) 17))),.int .i64 b] (da_c_b1 sz n m kc sc nd most d cs tc k a q) [])
 else(
 K .ret [.ptr 0 0,.ptr 6 0,.slo 18 0 (xadd m 1) 0,.ptr 12 0,.slo 18 0 (xadd m 1) 0,.bool false,.int .i64 b] (da_c_b1 sz n m kc sc nd most d cs tc k a q) []))
 else(
 bif xcm .eql (alV sz most kc cs (wthV a (-1) 17)) (alV sz most kc cs (wthV a (-1) 17)) then(
 K .ret [.ptr 0 0,.ptr 6 0,.slo 11 0 m 0,.ptr 12 0,.slo 11 0 m 0,.bool (xcm .eql (alE sz most kc cs (wthV a (-1) 17)) (alE sz most kc cs (wthV a (-1) 17))),.int .i64 b] (da_c_b2 sz n kc sc nd most d cs tc k a q) [])
 else(
 K .ret [.ptr 0 0,.ptr 6 0,.slo 11 0 m 0,.ptr 12 0,.slo 11 0 m 0,.bool false,.int .i64 b] (da_c_b2 sz n kc sc nd most d cs tc k a q) []))):=by kernel_rfl
end
end Go.Lev
