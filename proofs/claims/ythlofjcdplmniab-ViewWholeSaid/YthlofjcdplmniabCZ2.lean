/- ViewWhole: a view that knows all as a contract; both tell the same; trees of the law -/
import Derived.Test.YthlofjcdplmniabCZ1
import Derived.Test.YthlofjcdplmniabLc
import Derived.Test.YthlofjcdplmniabChecked
import Derived.KernelRfl
namespace Go.Lev
set_option linter.unusedSimpArgs false
set_option linter.unusedVariables false
open Go.RowKit
open Go.Proofs.Try (prog)
set_option maxRecDepth 100000
noncomputable section
abbrev smO (sz n:Nat) (kc sc:List LV) (nd most:Int) (d:Nat) (cs:List LV):List LB:=[.cells [.slo 1 0 n 0,.slo 2 0 sz 0,.int .i64 nd,.ptr 3 0] none,.cells kc (some 2),.cells sc (some 1),.cells [.int .i64 most,.slo 4 0 d 0] none,.obj lvF cs 11,.dead,.cells [.int .i64 sz,.slo 7 0 n 0,.ptr 8 0,.int .i64 nd] none,.cells kc (some 2),.cells [.int .i64 most,.slo 9 0 d 0] none,.obj orF cs 12,.dead,.dead,.dead]
theorem sm_z (sz n:Nat) (kc sc:List LV) (nd most:Int) (d:Nat) (cs:List LV) (K:Pk):(xsp prog cxs 60 73 ((sp prog 7).drop 3) (mkTm 73 [(4,.bool true)]) (mkS (smO sz n kc sc nd most d cs)) (vK smL K))=(
 K .ret [.any,.any,.bool true,.any] [sN [.slo 1 0 n 0,.slo 2 0 sz 0,.int .i64 nd,.ptr 3 0],sC kc 2,sC sc 1,sN [.int .i64 most,.slo 4 0 d 0],some (.obj lvF cs 11),sD,sN [.int .i64 ↑sz,.slo 7 0 n 0,.ptr 8 0,.int .i64 nd],sC kc 2,sN [.int .i64 most,.slo 9 0 d 0],some (.obj orF cs 12),sD,sD,sD] []):=by kernel_rfl
theorem cxs_ok:CtrOk prog (ctrOf cxs):=cxl_ok ⟨owholeG_ok,lcellsG_ok,lfreesG_ok,sameCCellG_ok,sameIi64G_ok,lroomG_ok,oroomG_ok,cloneCell_ok,trivial⟩
theorem same_ok (sz:Nat) (most:Int) (s:VS) (h:OkS sz most s):SFun prog 7 [.ptr 0 0,.ptr 6 0] (mkS (doI sz s.ks.length (encL cell s.ks) (encL (cI .i64) (spL sz s.ks)) s.nd most s.ls.length (encLs s.ls))) fun l t=>l=.bool true∧t=mkS (smO sz s.ks.length (encL cell s.ks) (encL (cI .i64) (spL sz s.ks)) s.nd most s.ls.length (encLs s.ls)):=by
 refine SFun.mono (SFun.pieces (Q:=fun l b=>l=.bool true∧b=smO sz s.ks.length (encL cell s.ks) (encL (cI .i64) (spL sz s.ks)) s.nd most s.ls.length (encLs s.ls)) 73 11 smL [4] (by kernel_rfl) rfl rfl rfl ?_) fun l s' ⟨b0,⟨h1,h2⟩,h3⟩=>⟨h1,by rw [h3,h2]⟩
 have nk:=noids_c s.ks; have ns:=noIds_Ii64 (spL sz s.ks)
 have f1:=isF_self lvF; have f2:=isF_self orF
 have ok0:=okR_enc h.l h.m h.m2
 have hs:=h.k.s; have hn:=h.k.n
 have hw:=celL_wf (ls:=s.ls) fun x hx=>h.l.uq x hx
 have hc:=h.l.c; have hf:=h.l.f; have hfl:=freL_le s.ls; have hm:=h.m; have hm2:=h.m2
 have eC:lcC (encLs s.ls)=encL cell (celL s.ls):=by rw [lcC,decLs_enc]
 have eN:lcN (encLs s.ls)=(celL s.ls).length:=by rw [lcN,decLs_enc]
 have eW:lwC (encLs s.ls)=encL (cI .i64) (freL s.ls):=by rw [lwC,decLs_enc]
 have eM:lwN (encLs s.ls)=(freL s.ls).length:=by rw [lwN,decLs_enc]
 have ncc:=noids_c (celL s.ls); have nff:=noIds_Ii64 (freL s.ls)
 have okc:okC (encL cell (celL s.ls)) (celL s.ls).length=true:=okC_enc (by omega)
 have oki:okIi64 (encL (cI .i64) (freL s.ls)) (freL s.ls).length=true:=okIi64_enc (by omega)
 have okk:okC (encL cell s.ks) s.ks.length=true:=okC_enc (by omega)
 have xk:=xnoid_c s.ks; have lk:=cell_n s.ks
 refine SSp.to cxs_ok (n:=60) (g:=[]) 2 2 rfl (σ:=Unit) (fun _=>smT) (fun _=>smH sz s.ks.length (encL cell s.ks) (encL (cI .i64) (spL sz s.ks)) s.nd most s.ls.length (encLs s.ls) (celL s.ls).length (freL s.ls).length (encL cell (celL s.ls)) (encL (cI .i64) (freL s.ls))) (mkS_le (Nat.le_of_ble_eq_true rfl)) (by kernel_rfl) ?_ fun _=>?_
 ·rw [sm_a,ok0,f2,eC,eN,eW,eM]
  exact⟨rfl,(),[.id 0,.id 1,.id 2,.id 3,.id 4,.id 5,.id 6,.id 7,.id 8,.id 9,.id 10,.id 15,.id 12,.id 13,.id 14],by(exact zC)⟩
 refine SSp.code_to (g:=[]) 3 rfl (σ:=Unit) (fun _=>[(4,.bool true)]) (fun _=>smO sz s.ks.length (encL cell s.ks) (encL (cI .i64) (spL sz s.ks)) s.nd most s.ls.length (encLs s.ls)) (by kernel_rfl) ?_ fun _=>?_
 ·refine SCode.orders cxs_ok (n:=60) (mkS_le (Nat.le_of_ble_eq_true rfl)) ?_
  rw [sm_o]
  simp only [ok0,f1,f2,eC,eN,eW,eM,okc,oki,okk,xk,lk,wd_ln,wd_mul,sameCCell_self,sameIi64_self,cm_self,cond_true]
  (refine zR ?_)
  exact⟨rfl,(),[.id 0,.id 1,.id 2,.id 3,.id 4,.id 5,.id 6,.id 7,.id 8,.id 9,.id 10,.id 20,.id 21],by(exact zC)⟩
 refine zE cxs_ok ?_
 rw [sm_z]
 exact⟨trivial,rfl,.bool true,smO sz s.ks.length (encL cell s.ks) (encL (cI .i64) (spL sz s.ks)) s.nd most s.ls.length (encLs s.ls),[.id 0,.id 1,.id 2,.id 3,.id 4,.id 5,.id 6,.id 7,.id 8,.id 9,.id 10,.id 11,.id 12],⟨rfl,rfl⟩,by(exact zC)⟩
theorem same_c (sz n:Nat) (kc sc:List LV) (nd most:Int) (d:Nat) (cs:List LV) (k1:okK sz n kc=true) (k2:sc=spW sz kc) (k3:okR most cs d=true):SFun prog 7 [.ptr 0 0,.ptr 6 0] (mkS (doI sz n kc sc nd most d cs)) fun l t=>l=.bool true∧t=mkS (smO sz n kc sc nd most d cs):=by
 obtain⟨ks,rfl,rfl,h⟩:=okK_iff.1 k1
 obtain⟨ls,rfl,rfl,h1,h2,h3⟩:=okR_iff.1 k3
 subst k2
 simp only [spW_enc]
 exact same_ok sz most ⟨ks,nd,ls⟩ ⟨h,h1,h2,h3⟩
def sameG:Gc:=fun args s=>match args,s.g with
 | [.ptr b 0,.ptr p 0],[]=>(match s.h.get b with
   | some (.cells [.slo q 0 n 0,.slo z 0 sz 0,.int .i64 nd,.ptr l 0] none)=>(match s.h.get q with
     | some (.cells kc (some 2))=>(match s.h.get z with
       | some (.cells sc (some 1))=>(match s.h.get l with
         | some (.cells [.int .i64 most,.slo o 0 d 0] none)=>(match s.h.get o with
           | some (.obj F_o cs e)=>(match s.h.get e with
             | some (.dead)=>(match s.h.get p with
               | some (.cells [.int .i64 (.ofNat sz2),.slo q2 0 n2 0,.ptr l2 0,.int .i64 nd2] none)=>(match s.h.get q2 with
                 | some (.cells kc2 (some 2))=>(match s.h.get l2 with
                   | some (.cells [.int .i64 most2,.slo o2 0 d2 0] none)=>(match s.h.get o2 with
                     | some (.obj F_o2 cs2 u)=>(match s.h.get u with
                       | some (.dead)=>cond (nodupB [b,q,z,l,o,e,p,q2,l2,o2,u]) (match s.lay [b,q,z,l,o,e,p,q2,l2,o2,u] [.cells [.slo q 0 n 0,.slo z 0 sz 0,.int .i64 nd,.ptr l 0] none,.cells kc (some 2),.cells sc (some 1),.cells [.int .i64 most,.slo o 0 d 0] none,.obj lvF cs s.n,.dead,.cells [.int .i64 (.ofNat sz),.slo q2 0 n 0,.ptr l2 0,.int .i64 nd] none,.cells kc (some 2),.cells [.int .i64 most,.slo o2 0 d 0] none,.obj orF cs (Nat.succ s.n),.dead] [.dead,.dead] with
                         | some s'=>some ([okK sz n kc,eqL sc (spW sz kc),okR most cs d,xcm .eql most most2,xeq d d2,eqL cs cs2,xeq sz sz2,xeq n n2,eqL kc kc2,xcm .eql nd nd2,isF F_o lvF,isF F_o2 orF],.bool true,s')
                         | none=>none) none
                       | _=>none)
                     | _=>none)
                   | _=>none)
                 | _=>none)
               | _=>none)
             | _=>none)
           | _=>none)
         | _=>none)
       | _=>none)
     | _=>none)
   | _=>none)
 | _,_=>none
theorem sameG_ok:GOk prog 7 sameG:=by
 intro args s bs l s' hg hb hfr
 unfold sameG at hg
 split at hg
 ·rename_i b p hgl
  split at hg
  ·rename_i q n z sz nd l hb0
   split at hg
   ·rename_i kc hb1
    split at hg
    ·rename_i sc hb2
     split at hg
     ·rename_i most o d hb3
      split at hg
      ·rename_i F_o cs e hb4
       split at hg
       ·rename_i  hb5
        split at hg
        ·rename_i sz2 q2 n2 l2 nd2 hb6
         split at hg
         ·rename_i kc2 hb7
          split at hg
          ·rename_i most2 o2 d2 hb8
           split at hg
           ·rename_i F_o2 cs2 u hb9
            split at hg
            ·rename_i  hb10
             cases hbc:nodupB [b,q,z,l,o,e,p,q2,l2,o2,u] with
             | false=>rw [hbc] at hg; cases hg
             | true =>
               rw [hbc] at hg
               simp only [cond_true] at hg
               split at hg
               ·rename_i s1 hs1
                simp only [Option.some.injEq,Prod.mk.injEq] at hg
                obtain⟨rfl,rfl,rfl⟩:=hg
                simp only [allT_cons] at hb
                obtain⟨k1,k2,k3,k4,k5,k6,k7,k8,k9,k10,k11,k12,_⟩:=hb
                have e_o:=isF_eq k11
                subst e_o
                have e_o2:=isF_eq k12
                subst e_o2
                replace k2:=eqL_eq k2
                rw [xcm_eql,decide_eq_true_eq] at k4
                rw [wd_eq,decide_eq_true_eq] at k5
                replace k6:=eqL_eq k6
                rw [wd_eq,decide_eq_true_eq] at k7
                rw [wd_eq,decide_eq_true_eq] at k8
                replace k9:=eqL_eq k9
                rw [xcm_eql,decide_eq_true_eq] at k10
                subst k4 k5 k6 k7 k8 k9 k10
                have no:noIds kc=true:=okK_noids k1
                have no2:noIds sc=true:=by rw [k2]; exact spW_noids _ _
                refine SFun.lay (bs:=[.cells [.slo 1 0 n 0,.slo 2 0 sz 0,.int .i64 nd,.ptr 3 0] none,.cells kc (some 2),.cells sc (some 1),.cells [.int .i64 most,.slo 4 0 d 0] none,.obj lvF cs 5,.dead,.cells [.int .i64 (.ofNat sz),.slo 7 0 n 0,.ptr 8 0,.int .i64 nd] none,.cells kc (some 2),.cells [.int .i64 most,.slo 9 0 d 0] none,.obj orF cs 10,.dead]) (args0:=[.ptr 0 0,.ptr 6 0]) (bs':=[.cells [.slo 1 0 n 0,.slo 2 0 sz 0,.int .i64 nd,.ptr 3 0] none,.cells kc (some 2),.cells sc (some 1),.cells [.int .i64 most,.slo 4 0 d 0] none,.obj lvF cs 11,.dead,.cells [.int .i64 (.ofNat sz),.slo 7 0 n 0,.ptr 8 0,.int .i64 nd] none,.cells kc (some 2),.cells [.int .i64 most,.slo 9 0 d 0] none,.obj orF cs 12,.dead,.dead,.dead]) (v0:=.bool true) hfr hs1 (nodupB_nd hbc)
                 ⟨⟨there hfr hb0,_,hb0,by first | exact lb_same rfl | exact lb_cells (lws_cons (lw_slo rfl) (lws_cons (lw_slo rfl) (lws_cons (lw_int) (lws_cons (lw_ptr rfl) lws_nil)))) (by simp),fun κ hκ=>lb_cells (lws_cons (lw_slo (hκ 1 q rfl)) (lws_cons (lw_slo (hκ 2 z rfl)) (lws_cons (lw_int) (lws_cons (lw_ptr (hκ 3 l rfl)) lws_nil)))) (by simp)⟩,⟨there hfr hb1,_,hb1,lb_same (by(exact zId)),fun κ hκ=>lb_same (by(exact zId))⟩,⟨there hfr hb2,_,hb2,lb_same (by(exact zId)),fun κ hκ=>lb_same (by(exact zId))⟩,⟨there hfr hb3,_,hb3,by first | exact lb_same rfl | exact lb_cells (lws_cons (lw_int) (lws_cons (lw_slo rfl) lws_nil)) (by simp),fun κ hκ=>lb_cells (lws_cons (lw_int) (lws_cons (lw_slo (hκ 4 o rfl)) lws_nil)) (by simp)⟩,⟨there hfr hb4,_,hb4,lb_obj rfl,fun κ hκ=>lb_obj (hκ 5 e rfl)⟩,⟨there hfr hb5,_,hb5,lb_dead,fun κ hκ=>lb_dead⟩,⟨there hfr hb6,_,hb6,by first | exact lb_same rfl | exact lb_cells (lws_cons (lw_int) (lws_cons (lw_slo rfl) (lws_cons (lw_ptr rfl) (lws_cons (lw_int) lws_nil)))) (by simp),fun κ hκ=>lb_cells (lws_cons (lw_int) (lws_cons (lw_slo (hκ 7 q2 rfl)) (lws_cons (lw_ptr (hκ 8 l2 rfl)) (lws_cons (lw_int) lws_nil)))) (by simp)⟩,⟨there hfr hb7,_,hb7,lb_same (by(exact zId)),fun κ hκ=>lb_same (by(exact zId))⟩,⟨there hfr hb8,_,hb8,by first | exact lb_same rfl | exact lb_cells (lws_cons (lw_int) (lws_cons (lw_slo rfl) lws_nil)) (by simp),fun κ hκ=>lb_cells (lws_cons (lw_int) (lws_cons (lw_slo (hκ 9 o2 rfl)) lws_nil)) (by simp)⟩,⟨there hfr hb9,_,hb9,lb_obj rfl,fun κ hκ=>lb_obj (hκ 10 u rfl)⟩,⟨there hfr hb10,_,hb10,lb_dead,fun κ hκ=>lb_dead⟩,trivial⟩ (by(exact zTl)) ?_
                 fun κ h1 h2=>⟨⟨lb_cells (lws_cons (lw_slo (h1 1 q rfl)) (lws_cons (lw_slo (h1 2 z rfl)) (lws_cons (lw_int) (lws_cons (lw_ptr (h1 3 l rfl)) lws_nil)))) (by simp),lb_same (by(exact zId)),lb_same (by(exact zId)),lb_cells (lws_cons (lw_int) (lws_cons (lw_slo (h1 4 o rfl)) lws_nil)) (by simp),lb_obj (h2 0 (by simp)),lb_dead,lb_cells (lws_cons (lw_int) (lws_cons (lw_slo (h1 7 q2 rfl)) (lws_cons (lw_ptr (h1 8 l2 rfl)) (lws_cons (lw_int) lws_nil)))) (by simp),lb_same (by(exact zId)),lb_cells (lws_cons (lw_int) (lws_cons (lw_slo (h1 9 o2 rfl)) lws_nil)) (by simp),lb_obj (h2 1 (by simp)),lb_dead,lb_dead,lb_dead,trivial⟩,lw_bool⟩
                rw [hgl]; exact(same_c sz n kc sc nd most d cs k1 k2 k3)
               ·cases hg
            ·cases hg
           ·cases hg
          ·cases hg
         ·cases hg
        ·cases hg
       ·cases hg
      ·cases hg
     ·cases hg
    ·cases hg
   ·cases hg
  ·cases hg
 ·cases hg
theorem vwh_c (n:Nat) (ws:List LV) (most:Int) (k1:okIu64 ws n=true) (k2:xle n 1000000=true):SFun prog 5 [.slo 0 0 n 0,.int .i64 most] (mkS [.ro ws]) fun l t=>l=.ptr 1 0∧t=mkS (wgH ws (szW n) (vhN n) (vhC ws n) (spW (szW n) (vhC ws n)) (xmn (xmx most 0) 96) newC):=by
 obtain⟨us,rfl,rfl,h⟩:=okIu64_iff.1 k1
 rw [wd_le,decide_eq_true_eq] at k2
 simp only [szW,vhN,vhC,spW_enc,decIu64_enc]
 exact wg_ok us k2 most
theorem vxh_c (n:Nat) (ws:List LV) (most:Int) (k1:okIu64 ws n=true) (k2:xle n 1000000=true):SFun prog 6 [.slo 0 0 n 0,.int .i64 most] (mkS [.ro ws]) fun l t=>l=.ptr 1 0∧t=mkS (xgH ws (szW n) (vhN n) (vhC ws n) (xmn (xmx most 0) 96) newC):=by
 obtain⟨us,rfl,rfl,h⟩:=okIu64_iff.1 k1
 rw [wd_le,decide_eq_true_eq] at k2
 simp only [szW,vhN,vhC,decIu64_enc]
 exact xg_ok us k2 most
theorem Iu_noids {ws:List LV} {n:Nat} (h:okIu64 ws n=true):noIds ws=true:=by obtain⟨_,e,_⟩:=okIu64_iff.1 h; rw [e]; exact noIds_Iu64 _
def whG:Gc:=fun args s=>match args,s.g with
 | [.slo r 0 n 0,.int .i64 most],[]=>(match s.h.get r with
   | some (.ro ws)=>(match s.lay [r] [.ro ws] [.cells [.slo (Nat.succ s.n) 0 (vhN n) 0,.slo (Nat.succ (Nat.succ s.n)) 0 (szW n) 0,.int .i64 0,.ptr (Nat.succ (Nat.succ (Nat.succ s.n))) 0] none,.cells (vhC ws n) (some 2),.cells (spW (szW n) (vhC ws n)) (some 1),.cells [.int .i64 (xmn (xmx most 0) 96),.slo (Nat.succ (Nat.succ (Nat.succ (Nat.succ s.n)))) 0 1 0] none,.obj lvF newC (Nat.succ (Nat.succ (Nat.succ (Nat.succ (Nat.succ s.n))))),.dead] with
     | some s'=>some ([okIu64 ws n,xle n 1000000],.ptr s.n 0,s')
     | none=>none)
   | _=>none)
 | _,_=>none
theorem whG_ok:GOk prog 5 whG:=by
 intro args s bs l s' hg hb hfr
 unfold whG at hg
 split at hg
 ·rename_i r n most hgl
  split at hg
  ·rename_i ws hb0
   split at hg
   ·rename_i s1 hs1
    simp only [Option.some.injEq,Prod.mk.injEq] at hg
    obtain⟨rfl,rfl,rfl⟩:=hg
    simp only [allT_cons] at hb
    obtain⟨k1,k2,_⟩:=hb
    have no:noIds ws=true:=Iu_noids k1
    refine SFun.lay (bs:=[.ro ws]) (args0:=[.slo 0 0 n 0,.int .i64 most]) (bs':=[.ro ws,.cells [.slo 2 0 (vhN n) 0,.slo 3 0 (szW n) 0,.int .i64 0,.ptr 4 0] none,.cells (vhC ws n) (some 2),.cells (spW (szW n) (vhC ws n)) (some 1),.cells [.int .i64 (xmn (xmx most 0) 96),.slo 5 0 1 0] none,.obj lvF newC 6,.dead]) (v0:=.ptr 1 0) hfr hs1 (by simp)
     ⟨⟨there hfr hb0,_,hb0,lb_ro (by(exact zId)),fun κ hκ=>lb_ro (by(exact zId))⟩,trivial⟩ (by(exact zTl)) ?_
     fun κ h1 h2=>⟨⟨lb_ro (by(exact zId)),lb_cells (lws_cons (lw_slo (h2 1 (by simp))) (lws_cons (lw_slo (h2 2 (by simp))) (lws_cons (lw_int) (lws_cons (lw_ptr (h2 3 (by simp))) lws_nil)))) (by simp),lb_same (noids_c _),lb_same (spW_noids _ _),lb_cells (lws_cons (lw_int) (lws_cons (lw_slo (h2 4 (by simp))) lws_nil)) (by simp),lb_obj (h2 5 (by simp)),lb_dead,trivial⟩,lw_ptr (h2 0 (by simp))⟩
    rw [hgl]; exact(vwh_c n ws most k1 k2)
   ·cases hg
  ·cases hg
 ·cases hg
def xhG:Gc:=fun args s=>match args,s.g with
 | [.slo r 0 n 0,.int .i64 most],[]=>(match s.h.get r with
   | some (.ro ws)=>(match s.lay [r] [.ro ws] [.cells [.int .i64 (.ofNat (szW n)),.slo (Nat.succ s.n) 0 (vhN n) 0,.ptr (Nat.succ (Nat.succ s.n)) 0,.int .i64 0] none,.cells (vhC ws n) (some 2),.cells [.int .i64 (xmn (xmx most 0) 96),.slo (Nat.succ (Nat.succ (Nat.succ s.n))) 0 1 0] none,.obj orF newC (Nat.succ (Nat.succ (Nat.succ (Nat.succ s.n)))),.dead] with
     | some s'=>some ([okIu64 ws n,xle n 1000000],.ptr s.n 0,s')
     | none=>none)
   | _=>none)
 | _,_=>none
theorem xhG_ok:GOk prog 6 xhG:=by
 intro args s bs l s' hg hb hfr
 unfold xhG at hg
 split at hg
 ·rename_i r n most hgl
  split at hg
  ·rename_i ws hb0
   split at hg
   ·rename_i s1 hs1
    simp only [Option.some.injEq,Prod.mk.injEq] at hg
    obtain⟨rfl,rfl,rfl⟩:=hg
    simp only [allT_cons] at hb
    obtain⟨k1,k2,_⟩:=hb
    have no:noIds ws=true:=Iu_noids k1
    refine SFun.lay (bs:=[.ro ws]) (args0:=[.slo 0 0 n 0,.int .i64 most]) (bs':=[.ro ws,.cells [.int .i64 (.ofNat (szW n)),.slo 2 0 (vhN n) 0,.ptr 3 0,.int .i64 0] none,.cells (vhC ws n) (some 2),.cells [.int .i64 (xmn (xmx most 0) 96),.slo 4 0 1 0] none,.obj orF newC 5,.dead]) (v0:=.ptr 1 0) hfr hs1 (by simp)
     ⟨⟨there hfr hb0,_,hb0,lb_ro (by(exact zId)),fun κ hκ=>lb_ro (by(exact zId))⟩,trivial⟩ (by(exact zTl)) ?_
     fun κ h1 h2=>⟨⟨lb_ro (by(exact zId)),lb_cells (lws_cons (lw_int) (lws_cons (lw_slo (h2 1 (by simp))) (lws_cons (lw_ptr (h2 2 (by simp))) (lws_cons (lw_int) lws_nil)))) (by simp),lb_same (noids_c _),lb_cells (lws_cons (lw_int) (lws_cons (lw_slo (h2 3 (by simp))) lws_nil)) (by simp),lb_obj (h2 4 (by simp)),lb_dead,trivial⟩,lw_ptr (h2 0 (by simp))⟩
    rw [hgl]; exact(vxh_c n ws most k1 k2)
   ·cases hg
  ·cases hg
 ·cases hg
def cxL:Cx:=cxl [(4,wrapG runG),(5,wrapG whG),(6,wrapG xhG),(8,doG),(7,wrapG sameG)]
abbrev plL9:List Nat:=[2,6,7,8,9]
abbrev plT9 (n i:Nat):List (Nat×LV):=[(2,.slo 1 0 n 0),(7,.ptr 2 0),(8,.ptr 8 0),(9,.int .i64 i)]
abbrev plH9 (ws ax:List LV) (sz n:Nat) (kc sc:List LV) (nd most:Int) (d:Nat) (cs:List LV):List LB:=[.ro ws,.ro ax,.cells [.slo 3 0 n 0,.slo 4 0 sz 0,.int .i64 nd,.ptr 5 0] none,.cells kc (some 2),.cells sc (some 1),.cells [.int .i64 most,.slo 6 0 d 0] none,.obj lvF cs 7,.dead,.cells [.int .i64 sz,.slo 9 0 n 0,.ptr 10 0,.int .i64 nd] none,.cells kc (some 2),.cells [.int .i64 most,.slo 11 0 d 0] none,.obj orF cs 12,.dead]
theorem pp_a (n0 n:Nat) (most:Int) (ws ax:List LV) (F:World→Prop) (K:Pk):(xsp prog cxL 60 51 (seg (sp prog 3) 0 9) (tm0 [.slo 0 0 n0 0,.int .i64 most,.slo 1 0 n 0]) (mkS [.ro ws,.ro ax] (factG F)) (vK plL9 K))=(
 bif xcm .gtr (↑n0) 600 then(
 K .ret [.slo 1 0 n 0,.bool true,.tup [],.tup [],.tup []] [some (.ro ws),some (.ro ax)] (factG F))
 else(
 ck (okIu64 ws n0) <|
 ck (xle n0 1000000) <|
 ck (okIu64 ws n0) <|
 ck (xle n0 1000000) <|
 ck (okK (szW n0) (vhN n0) (vhC ws n0)) <|
 ck (eqL (spW (szW n0) (vhC ws n0)) (spW (szW n0) (vhC ws n0))) <|
 ck (okR (xmn (xmx most 0) 96) [.tup [.agg [],.agg []]] 1) <|
 ck (xcm .eql (xmn (xmx most 0) 96) (xmn (xmx most 0) 96)) <|
 ck (eqL [.tup [.agg [],.agg []]] [.tup [.agg [],.agg []]]) <|
 ck (xeq (szW n0) (szW n0)) <|
 ck (xeq (vhN n0) (vhN n0)) <|
 ck (eqL (vhC ws n0) (vhC ws n0)) <|
 ck (isF lvF lvF) <|
 ck (isF orF orF) <|
 K .normal [.slo 1 0 n 0,.bool false,.ptr 2 0,.ptr 8 0,.int .i64 0] [some (.ro ws),some (.ro ax),sN [.slo 3 0 (vhN n0) 0,.slo 4 0 (szW n0) 0,.int .i64 0,.ptr 5 0],sC (vhC ws n0) 2,sC (spW (szW n0) (vhC ws n0)) 1,sN [.int .i64 (xmn (xmx most 0) 96),.slo 6 0 1 0],some (.obj lvF [.tup [.agg [],.agg []]] 13),sD,sN [.int .i64 (Int.ofNat (szW n0)),.slo 9 0 (vhN n0) 0,.ptr 10 0,.int .i64 0],sC (vhC ws n0) 2,sN [.int .i64 (xmn (xmx most 0) 96),.slo 11 0 1 0],some (.obj orF [.tup [.agg [],.agg []]] 14),sD,sD,sD] (factG F))):=by kernel_rfl
abbrev pp_b_b1 (ws:List LV) (ax:List LV) (sz:Nat) (n:Nat) (kc:List LV) (sc:List LV) (nd:Int) (most:Int) (d:Nat) (cs:List LV):List (Option LB):=[some (.ro ws),some (.ro ax),sN [.slo 3 0 n 0,.slo 4 0 sz 0,.int .i64 nd,.ptr 5 0],sC kc 2,sC sc 1,sN [.int .i64 most,.slo 6 0 d 0],some (.obj lvF cs 7),sD,sN [.int .i64 ↑sz,.slo 9 0 n 0,.ptr 10 0,.int .i64 nd],sC kc 2,sN [.int .i64 most,.slo 11 0 d 0],some (.obj orF cs 12),sD]
theorem pp_b (m i:Nat) (ws ax:List LV) (sz n:Nat) (kc sc:List LV) (nd most:Int) (d:Nat) (cs:List LV) (F:World→Prop) (K:Pk):(xcode prog cxL 60 51 (loopOf (nthC (sp prog 3) 9)) (mkTm 51 (plT9 m i)) (mkS (plH9 ws ax sz n kc sc nd most d cs) (factG F)) (vK plL9 K))=(
 bif xcm .lss ↑i ↑m then(
 bif xcm .lss (↑i) 30 then(
 ck (xle (xadd (xnat ↑i) 1) m) <|
 ck (xle (xadd (xix 0 (xnat ↑i) 4) 4) (xln ax)) <|
 ck (isI .i64 (nthD ax (xix 0 (xnat ↑i) 4))) <|
 ck (isI .i64 (nthD ax (xadd (xix 0 (xnat ↑i) 4) 1))) <|
 ck (isI .u64 (nthD ax (xadd (xadd (xix 0 (xnat ↑i) 4) 1) 1))) <|
 ck (isV (nthD ax (xadd (xadd (xadd (xix 0 (xnat ↑i) 4) 1) 1) 1))) <|
 ck (okK sz n kc) <|
 ck (eqL sc (spW sz kc)) <|
 ck (okR most cs d) <|
 ck (okF cs) <|
 ck (okV F (asV (nthD ax (xadd (xadd (xadd (xix 0 (xnat ↑i) 4) 1) 1) 1)))) <|
 ck (xcm .eql most most) <|
 ck (xeq d d) <|
 ck (eqL cs cs) <|
 ck (xeq sz sz) <|
 ck (xeq n n) <|
 ck (eqL kc kc) <|
 ck (xcm .eql nd nd) <|
 ck (isF lvF lvF) <|
 ck (isF orF orF) <|
 K .normal [.slo 1 0 m 0,.any,.ptr 2 0,.ptr 8 0,.int .i64 (xar .add .i64 (↑i) 1)] [some (.ro ws),some (.ro ax),sN [.slo 13 0 (dvN F sz most kc nd cs (asI (nthD ax (xix 0 (xnat ↑i) 4))) (asI (nthD ax (xadd (xix 0 (xnat ↑i) 4) 1))) (asI (nthD ax (xadd (xadd (xix 0 (xnat ↑i) 4) 1) 1))) (asV (nthD ax (xadd (xadd (xadd (xix 0 (xnat ↑i) 4) 1) 1) 1))) ↑i) 0,.slo 4 0 sz 0,.int .i64 (dvD F sz most kc nd cs (asI (nthD ax (xix 0 (xnat ↑i) 4))) (asI (nthD ax (xadd (xix 0 (xnat ↑i) 4) 1))) (asI (nthD ax (xadd (xadd (xix 0 (xnat ↑i) 4) 1) 1))) (asV (nthD ax (xadd (xadd (xadd (xix 0 (xnat ↑i) 4) 1) 1) 1))) ↑i),.ptr 5 0],sD,sC (spW sz (dvK F sz most kc nd cs (asI (nthD ax (xix 0 (xnat ↑i) 4))) (asI (nthD ax (xadd (xix 0 (xnat ↑i) 4) 1))) (asI (nthD ax (xadd (xadd (xix 0 (xnat ↑i) 4) 1) 1))) (asV (nthD ax (xadd (xadd (xadd (xix 0 (xnat ↑i) 4) 1) 1) 1))) ↑i)) 1,sN [.int .i64 most,.slo 14 0 (dvL F sz most kc nd cs (asI (nthD ax (xix 0 (xnat ↑i) 4))) (asI (nthD ax (xadd (xix 0 (xnat ↑i) 4) 1))) (asI (nthD ax (xadd (xadd (xix 0 (xnat ↑i) 4) 1) 1))) (asV (nthD ax (xadd (xadd (xadd (xix 0 (xnat ↑i) 4) 1) 1) 1))) ↑i) 0],sD,sD,sN [.int .i64 (Int.ofNat sz),.slo 16 0 (dvN F sz most kc nd cs (asI (nthD ax (xix 0 (xnat ↑i) 4))) (asI (nthD ax (xadd (xix 0 (xnat ↑i) 4) 1))) (asI (nthD ax (xadd (xadd (xix 0 (xnat ↑i) 4) 1) 1))) (asV (nthD ax (xadd (xadd (xadd (xix 0 (xnat ↑i) 4) 1) 1) 1))) ↑i) 0,.ptr 10 0,.int .i64 (dvD F sz most kc nd cs (asI (nthD ax (xix 0 (xnat ↑i) 4))) (asI (nthD ax (xadd (xix 0 (xnat ↑i) 4) 1))) (asI (nthD ax (xadd (xadd (xix 0 (xnat ↑i) 4) 1) 1))) (asV (nthD ax (xadd (xadd (xadd (xix 0 (xnat ↑i) 4) 1) 1) 1))) ↑i)],sD,sN [.int .i64 most,.slo 17 0 (dvL F sz most kc nd cs (asI (nthD ax (xix 0 (xnat ↑i) 4))) (asI (nthD ax (xadd (xix 0 (xnat ↑i) 4) 1))) (asI (nthD ax (xadd (xadd (xix 0 (xnat ↑i) 4) 1) 1))) (asV (nthD ax (xadd (xadd (xadd (xix 0 (xnat ↑i) 4) 1) 1) 1))) ↑i) 0],sD,sD,sC (dvK F sz most kc nd cs (asI (nthD ax (xix 0 (xnat ↑i) 4))) (asI (nthD ax (xadd (xix 0 (xnat ↑i) 4) 1))) (asI (nthD ax (xadd (xadd (xix 0 (xnat ↑i) 4) 1) 1))) (asV (nthD ax (xadd (xadd (xadd (xix 0 (xnat ↑i) 4) 1) 1) 1))) ↑i) 2,some (.obj lvF (dvC F sz most kc nd cs (asI (nthD ax (xix 0 (xnat ↑i) 4))) (asI (nthD ax (xadd (xix 0 (xnat ↑i) 4) 1))) (asI (nthD ax (xadd (xadd (xix 0 (xnat ↑i) 4) 1) 1))) (asV (nthD ax (xadd (xadd (xadd (xix 0 (xnat ↑i) 4) 1) 1) 1))) ↑i) 15),sD,sC (dvK F sz most kc nd cs (asI (nthD ax (xix 0 (xnat ↑i) 4))) (asI (nthD ax (xadd (xix 0 (xnat ↑i) 4) 1))) (asI (nthD ax (xadd (xadd (xix 0 (xnat ↑i) 4) 1) 1))) (asV (nthD ax (xadd (xadd (xadd (xix 0 (xnat ↑i) 4) 1) 1) 1))) ↑i) 2,some (.obj orF (dvC F sz most kc nd cs (asI (nthD ax (xix 0 (xnat ↑i) 4))) (asI (nthD ax (xadd (xix 0 (xnat ↑i) 4) 1))) (asI (nthD ax (xadd (xadd (xix 0 (xnat ↑i) 4) 1) 1))) (asV (nthD ax (xadd (xadd (xadd (xix 0 (xnat ↑i) 4) 1) 1) 1))) ↑i) 18),sD] (factG F))
 else(
 K (.exit 0) [.slo 1 0 m 0,.any,.ptr 2 0,.ptr 8 0,.int .i64 ↑i] (pp_b_b1 ws ax sz n kc sc nd most d cs) (factG F)))
 else(
 K (.exit 0) [.slo 1 0 m 0,.any,.ptr 2 0,.ptr 8 0,.int .i64 ↑i] (pp_b_b1 ws ax sz n kc sc nd most d cs) (factG F))):=by kernel_rfl
theorem pp_z (m i:Nat) (ws ax:List LV) (sz n:Nat) (kc sc:List LV) (nd most:Int) (d:Nat) (cs:List LV) (F:World→Prop) (K:Pk):(xsp prog cxL 60 51 ((sp prog 3).drop 10) (mkTm 51 (plT9 m i)) (mkS (plH9 ws ax sz n kc sc nd most d cs) (factG F)) (vK plL9 K))=(
 ck (okK sz n kc) <|
 ck (eqL sc (spW sz kc)) <|
 ck (okR most cs d) <|
 ck (xcm .eql most most) <|
 ck (xeq d d) <|
 ck (eqL cs cs) <|
 ck (xeq sz sz) <|
 ck (xeq n n) <|
 ck (eqL kc kc) <|
 ck (xcm .eql nd nd) <|
 ck (isF lvF lvF) <|
 ck (isF orF orF) <|
 K .ret [.slo 1 0 m 0,.bool true,.ptr 2 0,.ptr 8 0,.int .i64 ↑i] [some (.ro ws),some (.ro ax),sN [.slo 3 0 n 0,.slo 4 0 sz 0,.int .i64 nd,.ptr 5 0],sC kc 2,sC sc 1,sN [.int .i64 most,.slo 6 0 d 0],some (.obj lvF cs 13),sD,sN [.int .i64 (Int.ofNat sz),.slo 9 0 n 0,.ptr 10 0,.int .i64 nd],sC kc 2,sN [.int .i64 most,.slo 11 0 d 0],some (.obj orF cs 14),sD,sD,sD] (factG F)):=by kernel_rfl
end
end Go.Lev
