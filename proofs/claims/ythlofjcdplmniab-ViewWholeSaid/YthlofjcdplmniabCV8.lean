/- ViewPlays: the ask as a contract; trees of same -/
import Derived.Test.YthlofjcdplmniabCV7
import Derived.Test.YthlofjcdplmniabLc
import Derived.Test.YthlofjcdplmniabChecked
import Derived.KernelRfl
namespace Go.Lev
set_option linter.unusedSimpArgs false
set_option linter.unusedVariables false
open Go.RowKit
open Go.Proofs.Try (prog)
set_option maxRecDepth 100000
noncomputable section
def okVP (F:World→Prop) (v:Value) (qs:CL):Prop:=qs.length≤9223372036854775807∧∀ W,F W→RowArg W v qs.length (encL cell qs)
open Classical in
def valQ (F:World→Prop) (v:Value):CL:=if h:∃ qs,okVP F v qs then Classical.choose h else []
def okV (F:World→Prop) (v:Value):Bool:=@decide (∃ qs,okVP F v qs) (Classical.propDecidable _)
theorem okV_spec {F:World→Prop} {v:Value} (h:okV F v=true):okVP F v (valQ F v):=by
 simp only [okV,decide_eq_true_eq] at h
 rw [valQ,dif_pos h]
 exact Classical.choose_spec h
theorem okV_of {F:World→Prop} {v:Value} {qs:CL} (h:okVP F v qs):okV F v=true:=by simp only [okV,decide_eq_true_eq]; exact⟨qs,h⟩
def dvN (F:World→Prop) (sz:Nat) (most:Int) (kc:List LV) (nd:Int) (cs:List LV) (k a w:Int) (v:Value) (i:Int):Nat:=(doS sz most ⟨decC kc,nd,decLs cs⟩ k a w (valQ F v) i).ks.length
def dvK (F:World→Prop) (sz:Nat) (most:Int) (kc:List LV) (nd:Int) (cs:List LV) (k a w:Int) (v:Value) (i:Int):List LV:=encL cell (doS sz most ⟨decC kc,nd,decLs cs⟩ k a w (valQ F v) i).ks
def dvD (F:World→Prop) (sz:Nat) (most:Int) (kc:List LV) (nd:Int) (cs:List LV) (k a w:Int) (v:Value) (i:Int):Int:=(doS sz most ⟨decC kc,nd,decLs cs⟩ k a w (valQ F v) i).nd
def dvL (F:World→Prop) (sz:Nat) (most:Int) (kc:List LV) (nd:Int) (cs:List LV) (k a w:Int) (v:Value) (i:Int):Nat:=(doS sz most ⟨decC kc,nd,decLs cs⟩ k a w (valQ F v) i).ls.length
def dvC (F:World→Prop) (sz:Nat) (most:Int) (kc:List LV) (nd:Int) (cs:List LV) (k a w:Int) (v:Value) (i:Int):List LV:=encLs (doS sz most ⟨decC kc,nd,decLs cs⟩ k a w (valQ F v) i).ls
theorem do_c {F:World→Prop} {v:Value} (sz n:Nat) (kc sc:List LV) (nd most:Int) (d:Nat) (cs:List LV) (k a w i:Int) (k1:okK sz n kc=true) (k2:sc=spW sz kc) (k3:okR most cs d=true) (k4:okF cs=true) (k5:okV F v=true) :
  SFun prog 8 [.ptr 0 0,.ptr 6 0,.agg [.int .i64 k,.int .i64 a,.int .u64 w,.val v],.int .i64 i] (mkS (doI sz n kc sc nd most d cs) (factG F)) fun l t=>l=.bool true∧t=mkS (doO sz (dvN F sz most kc nd cs k a w v i) (dvK F sz most kc nd cs k a w v i) (spW sz (dvK F sz most kc nd cs k a w v i)) (dvD F sz most kc nd cs k a w v i) most (dvL F sz most kc nd cs k a w v i) (dvC F sz most kc nd cs k a w v i)) (factG F):=by
 obtain⟨ks,rfl,rfl,h⟩:=okK_iff.1 k1
 obtain⟨ls,rfl,rfl,h1,h2,h3⟩:=okR_iff.1 k3
 simp only [okF,decLs_enc,decide_eq_true_eq] at k4
 obtain⟨q1,q2⟩:=okV_spec k5
 subst k2
 simp only [dvN,dvK,dvD,dvL,dvC,decLs_enc,decC_enc,spW_enc]
 exact do_ok sz most ⟨ks,nd,ls⟩ k a w (valQ F v) i q2 q1 ⟨h,h1,h2,h3⟩ k4
def doG:Gc:=fun args s=>match args,s.g with
 | [.ptr b 0,.ptr p 0,.agg [.int .i64 k,.int .i64 a,.int .u64 w,.val v],.int .i64 i],[(0,[.fact F])]=>(match s.h.get b with
   | some (.cells [.slo q 0 n 0,.slo z 0 sz 0,.int .i64 nd,.ptr l 0] none)=>(match s.h.get q with
     | some (.cells kc (some 2))=>(match s.h.get z with
       | some (.cells sc (some 1))=>(match s.h.get l with
         | some (.cells [.int .i64 most,.slo o 0 d 0] none)=>(match s.h.get o with
           | some (.obj F_o cs e)=>(match s.h.get e with
             | some (.dead)=>(match s.h.get p with
               | some (.cells [.int .i64 (.ofNat sz2),.slo q2 0 n2 0,.ptr l2 0,.int .i64 nd2] none)=>(match s.h.get q2 with
                 | some (.cells kc2 (some 2))=>(match s.h.get l2 with
                   | some (.cells [.int .i64 most2,.slo o2 0 d2 0] none)=>(match s.h.get o2 with
                     | some (.obj F_o2 cs2 u)=>(match s.h.get u with
                       | some (.dead)=>cond (nodupB [b,q,z,l,o,e,p,q2,l2,o2,u]) (match s.lay [b,q,z,l,o,e,p,q2,l2,o2,u] [.cells [.slo s.n 0 (dvN F sz most kc nd cs k a w v i) 0,.slo z 0 sz 0,.int .i64 (dvD F sz most kc nd cs k a w v i),.ptr l 0] none,.dead,.cells (spW sz (dvK F sz most kc nd cs k a w v i)) (some 1),.cells [.int .i64 most,.slo (Nat.succ s.n) 0 (dvL F sz most kc nd cs k a w v i) 0] none,.dead,.dead,.cells [.int .i64 (.ofNat sz),.slo (Nat.succ (Nat.succ (Nat.succ s.n))) 0 (dvN F sz most kc nd cs k a w v i) 0,.ptr l2 0,.int .i64 (dvD F sz most kc nd cs k a w v i)] none,.dead,.cells [.int .i64 most,.slo (Nat.succ (Nat.succ (Nat.succ (Nat.succ s.n)))) 0 (dvL F sz most kc nd cs k a w v i) 0] none,.dead,.dead] [.cells (dvK F sz most kc nd cs k a w v i) (some 2),.obj lvF (dvC F sz most kc nd cs k a w v i) (Nat.succ (Nat.succ s.n)),.dead,.cells (dvK F sz most kc nd cs k a w v i) (some 2),.obj orF (dvC F sz most kc nd cs k a w v i) (Nat.succ (Nat.succ (Nat.succ (Nat.succ (Nat.succ s.n))))),.dead] with
                         | some s'=>some ([okK sz n kc,eqL sc (spW sz kc),okR most cs d,okF cs,okV F v,xcm .eql most most2,xeq d d2,eqL cs cs2,xeq sz sz2,xeq n n2,eqL kc kc2,xcm .eql nd nd2,isF F_o lvF,isF F_o2 orF],.bool true,s')
                         | none=>none) none
                       | _=>none)
                     | _=>none)
                   | _=>none)
                 | _=>none)
               | _=>none)
             | _=>none)
           | _=>none)
         | _=>none)
       | _=>none)
     | _=>none)
   | _=>none)
 | _,_=>none
theorem doG_ok:GOk prog 8 doG:=by
 intro args s bs l s' hg hb hfr
 unfold doG at hg
 split at hg
 ·rename_i b p k a w v i F hgl
  split at hg
  ·rename_i q n z sz nd l hb0
   split at hg
   ·rename_i kc hb1
    split at hg
    ·rename_i sc hb2
     split at hg
     ·rename_i most o d hb3
      split at hg
      ·rename_i F_o cs e hb4
       split at hg
       ·rename_i  hb5
        split at hg
        ·rename_i sz2 q2 n2 l2 nd2 hb6
         split at hg
         ·rename_i kc2 hb7
          split at hg
          ·rename_i most2 o2 d2 hb8
           split at hg
           ·rename_i F_o2 cs2 u hb9
            split at hg
            ·rename_i  hb10
             cases hbc:nodupB [b,q,z,l,o,e,p,q2,l2,o2,u] with
             | false=>rw [hbc] at hg; cases hg
             | true =>
               rw [hbc] at hg
               simp only [cond_true] at hg
               split at hg
               ·rename_i s1 hs1
                simp only [Option.some.injEq,Prod.mk.injEq] at hg
                obtain⟨rfl,rfl,rfl⟩:=hg
                simp only [allT_cons] at hb
                obtain⟨k1,k2,k3,k4,k5,k6,k7,k8,k9,k10,k11,k12,k13,k14,_⟩:=hb
                have e_o:=isF_eq k13
                subst e_o
                have e_o2:=isF_eq k14
                subst e_o2
                replace k2:=eqL_eq k2
                rw [xcm_eql,decide_eq_true_eq] at k6
                rw [wd_eq,decide_eq_true_eq] at k7
                replace k8:=eqL_eq k8
                rw [wd_eq,decide_eq_true_eq] at k9
                rw [wd_eq,decide_eq_true_eq] at k10
                replace k11:=eqL_eq k11
                rw [xcm_eql,decide_eq_true_eq] at k12
                subst k6 k7 k8 k9 k10 k11 k12
                have no:noIds kc=true:=okK_noids k1
                have no2:noIds sc=true:=by rw [k2]; exact spW_noids _ _
                refine SFun.lay (bs:=[.cells [.slo 1 0 n 0,.slo 2 0 sz 0,.int .i64 nd,.ptr 3 0] none,.cells kc (some 2),.cells sc (some 1),.cells [.int .i64 most,.slo 4 0 d 0] none,.obj lvF cs 5,.dead,.cells [.int .i64 (.ofNat sz),.slo 7 0 n 0,.ptr 8 0,.int .i64 nd] none,.cells kc (some 2),.cells [.int .i64 most,.slo 9 0 d 0] none,.obj orF cs 10,.dead]) (args0:=[.ptr 0 0,.ptr 6 0,.agg [.int .i64 k,.int .i64 a,.int .u64 w,.val v],.int .i64 i]) (bs':=[.cells [.slo 11 0 (dvN F sz most kc nd cs k a w v i) 0,.slo 2 0 sz 0,.int .i64 (dvD F sz most kc nd cs k a w v i),.ptr 3 0] none,.dead,.cells (spW sz (dvK F sz most kc nd cs k a w v i)) (some 1),.cells [.int .i64 most,.slo 12 0 (dvL F sz most kc nd cs k a w v i) 0] none,.dead,.dead,.cells [.int .i64 (.ofNat sz),.slo 14 0 (dvN F sz most kc nd cs k a w v i) 0,.ptr 8 0,.int .i64 (dvD F sz most kc nd cs k a w v i)] none,.dead,.cells [.int .i64 most,.slo 15 0 (dvL F sz most kc nd cs k a w v i) 0] none,.dead,.dead,.cells (dvK F sz most kc nd cs k a w v i) (some 2),.obj lvF (dvC F sz most kc nd cs k a w v i) 13,.dead,.cells (dvK F sz most kc nd cs k a w v i) (some 2),.obj orF (dvC F sz most kc nd cs k a w v i) 16,.dead]) (v0:=.bool true) hfr hs1 (nodupB_nd hbc)
                 ⟨⟨there hfr hb0,_,hb0,by first | exact lb_same rfl | exact lb_cells (lws_cons (lw_slo rfl) (lws_cons (lw_slo rfl) (lws_cons (lw_int) (lws_cons (lw_ptr rfl) lws_nil)))) (by simp),fun κ hκ=>lb_cells (lws_cons (lw_slo (hκ 1 q rfl)) (lws_cons (lw_slo (hκ 2 z rfl)) (lws_cons (lw_int) (lws_cons (lw_ptr (hκ 3 l rfl)) lws_nil)))) (by simp)⟩,⟨there hfr hb1,_,hb1,lb_same (by(exact zId)),fun κ hκ=>lb_same (by(exact zId))⟩,⟨there hfr hb2,_,hb2,lb_same (by(exact zId)),fun κ hκ=>lb_same (by(exact zId))⟩,⟨there hfr hb3,_,hb3,by first | exact lb_same rfl | exact lb_cells (lws_cons (lw_int) (lws_cons (lw_slo rfl) lws_nil)) (by simp),fun κ hκ=>lb_cells (lws_cons (lw_int) (lws_cons (lw_slo (hκ 4 o rfl)) lws_nil)) (by simp)⟩,⟨there hfr hb4,_,hb4,lb_obj rfl,fun κ hκ=>lb_obj (hκ 5 e rfl)⟩,⟨there hfr hb5,_,hb5,lb_dead,fun κ hκ=>lb_dead⟩,⟨there hfr hb6,_,hb6,by first | exact lb_same rfl | exact lb_cells (lws_cons (lw_int) (lws_cons (lw_slo rfl) (lws_cons (lw_ptr rfl) (lws_cons (lw_int) lws_nil)))) (by simp),fun κ hκ=>lb_cells (lws_cons (lw_int) (lws_cons (lw_slo (hκ 7 q2 rfl)) (lws_cons (lw_ptr (hκ 8 l2 rfl)) (lws_cons (lw_int) lws_nil)))) (by simp)⟩,⟨there hfr hb7,_,hb7,lb_same (by(exact zId)),fun κ hκ=>lb_same (by(exact zId))⟩,⟨there hfr hb8,_,hb8,by first | exact lb_same rfl | exact lb_cells (lws_cons (lw_int) (lws_cons (lw_slo rfl) lws_nil)) (by simp),fun κ hκ=>lb_cells (lws_cons (lw_int) (lws_cons (lw_slo (hκ 9 o2 rfl)) lws_nil)) (by simp)⟩,⟨there hfr hb9,_,hb9,lb_obj rfl,fun κ hκ=>lb_obj (hκ 10 u rfl)⟩,⟨there hfr hb10,_,hb10,lb_dead,fun κ hκ=>lb_dead⟩,trivial⟩ (by(exact zTl)) ?_
                 fun κ h1 h2=>⟨⟨lb_cells (lws_cons (lw_slo (h2 0 (by simp))) (lws_cons (lw_slo (h1 2 z rfl)) (lws_cons (lw_int) (lws_cons (lw_ptr (h1 3 l rfl)) lws_nil)))) (by simp),lb_dead,lb_same (spW_noids _ _),lb_cells (lws_cons (lw_int) (lws_cons (lw_slo (h2 1 (by simp))) lws_nil)) (by simp),lb_dead,lb_dead,lb_cells (lws_cons (lw_int) (lws_cons (lw_slo (h2 3 (by simp))) (lws_cons (lw_ptr (h1 8 l2 rfl)) (lws_cons (lw_int) lws_nil)))) (by simp),lb_dead,lb_cells (lws_cons (lw_int) (lws_cons (lw_slo (h2 4 (by simp))) lws_nil)) (by simp),lb_dead,lb_dead,lb_same (noids_c _),lb_obj (h2 2 (by simp)),lb_dead,lb_same (noids_c _),lb_obj (h2 5 (by simp)),lb_dead,trivial⟩,lw_bool⟩
                rw [hgl]; exact(do_c sz n kc sc nd most d cs k a w i k1 k2 k3 k4 k5)
               ·cases hg
            ·cases hg
           ·cases hg
          ·cases hg
         ·cases hg
        ·cases hg
       ·cases hg
      ·cases hg
     ·cases hg
    ·cases hg
   ·cases hg
  ·cases hg
 ·cases hg
abbrev scTCell (n m k:Nat):List (Nat×LV):=[(0,.slo 0 0 n 0),(1,.slo 1 0 m 0),(5,.int .i64 k)]
abbrev scHCell (cs ds:List LV):List LB:=[.cells cs (some 2),.cells ds (some 2)]
abbrev scLCell:List Nat:=[0,1,4,5]
theorem scCell_a (n m:Nat) (cs ds:List LV) (K:Pk):(xsp prog (fun _=>none) 40 26 (seg (sp prog 18) 0 4) (tm0 [.slo 0 0 n 0,.slo 1 0 m 0]) (mkS (scHCell cs ds)) (vK scLCell K))=(
 bif xcm .neq ↑n ↑m then(
 K .ret [.slo 0 0 n 0,.slo 1 0 m 0,.bool false,.tup []] [sC cs 2,sC ds 2] [])
 else(
 K .normal [.slo 0 0 n 0,.slo 1 0 m 0,.bool false,.int .i64 0] [sC cs 2,sC ds 2] [])):=by kernel_rfl
theorem scCell_b (n m k:Nat) (cs ds:List LV) (K:Pk):(xcode prog (fun _=>none) 40 26 (loopOf (nthC (sp prog 18) 4)) (mkTm 26 (scTCell n m k)) (mkS (scHCell cs ds)) (vK scLCell K))=(
 bif xcm .lss ↑k ↑n then(
 ck (xle (xadd (xnat ↑k) 1) n) <|
 ck (xle (xadd (xix 0 (xnat ↑k) 2) 2) (xln cs)) <|
 ck (isI .i64 (nthD cs (xix 0 (xnat ↑k) 2))) <|
 ck (isI .u64 (nthD cs (xadd (xix 0 (xnat ↑k) 2) 1))) <|
 ck (xle (xadd (xnat ↑k) 1) m) <|
 ck (xle (xadd (xix 0 (xnat ↑k) 2) 2) (xln ds)) <|
 ck (isI .i64 (nthD ds (xix 0 (xnat ↑k) 2))) <|
 ck (isI .u64 (nthD ds (xadd (xix 0 (xnat ↑k) 2) 1))) <|
 bif xnot (xand (xcm .eql (asI (nthD cs (xix 0 (xnat ↑k) 2))) (asI (nthD ds (xix 0 (xnat ↑k) 2)))) (xand (xcm .eql (asI (nthD cs (xadd (xix 0 (xnat ↑k) 2) 1))) (asI (nthD ds (xadd (xix 0 (xnat ↑k) 2) 1)))) true)) then(
 K .ret [.slo 0 0 n 0,.slo 1 0 m 0,.bool false,.int .i64 ↑k] [sC cs 2,sC ds 2] [])
 else(
 K .normal [.slo 0 0 n 0,.slo 1 0 m 0,.any,.int .i64 (xar .add .i64 (↑k) 1)] [sC cs 2,sC ds 2] []))
 else(
 K (.exit 0) [.slo 0 0 n 0,.slo 1 0 m 0,.any,.int .i64 ↑k] [sC cs 2,sC ds 2] [])):=by kernel_rfl
theorem scCell_z (cs ds:List LV) (K:Pk):(xsp prog (fun _=>none) 40 26 ((sp prog 18).drop 5) (mkTm 26 []) (mkS (scHCell cs ds)) (vK scLCell K))=(
 K .ret [.any,.any,.bool true,.any] [sC cs 2,sC ds 2] []):=by kernel_rfl
open Classical in
def sameCCell (n m:Nat) (cs ds:List LV):Bool:=@decide (n=m∧cs=ds) (Classical.propDecidable _)
theorem sameCCell_self (n:Nat) (cs:List LV):sameCCell n n cs cs=true:=by simp [sameCCell]
theorem sameCCell_ok (xs ys:List (Int×Int)) (hn:xs.length≤9223372036854775807) (hm:ys.length≤9223372036854775807):SFun prog 18 [.slo 0 0 xs.length 0,.slo 1 0 ys.length 0] (mkS (scHCell (encL cell xs) (encL cell ys)))
  fun l s=>l=.bool (sameCCell xs.length ys.length (encL cell xs) (encL cell ys))∧s=mkS (scHCell (encL cell xs) (encL cell ys)):=by
 refine SFun.mono (SFun.pieces (Q:=fun l b=>l=.bool (sameCCell xs.length ys.length (encL cell xs) (encL cell ys))∧b=scHCell (encL cell xs) (encL cell ys)) 26 2 scLCell [4] (by kernel_rfl) rfl rfl rfl ?_) fun l s' ⟨b0,⟨h1,h2⟩,h3⟩=>⟨h1,by rw [h3,h2]⟩
 have nx:=noids_c xs
 have ny:=noids_c ys
 have hinj:∀ a b:List (Int×Int),encL cell a=encL cell b→a=b:=fun a b h=>by rw [← decC_enc a,h,decC_enc]
 refine SSp.to noCx_ok (n:=40) (g:=[]) 4 4 rfl (σ:={_k:Unit // xs.length=ys.length}) (fun _=>scTCell xs.length ys.length 0) (fun _=>scHCell (encL cell xs) (encL cell ys)) (mkS_le (Nat.le_refl _)) (by kernel_rfl) ?_ fun⟨_,hnm⟩=>?_
 ·rw [scCell_a,wd_neq]
  by_cases e:xs.length=ys.length
  ·simp only [e,decide_true,Bool.not_true,cond_false]
   exact⟨rfl,⟨(),e⟩,[.id 0,.id 1],by(exact zC)⟩
  ·simp only [e,decide_false,Bool.not_false,cond_true]
   have hs:sameCCell xs.length ys.length (encL cell xs) (encL cell ys)=false:=by simp only [sameCCell,decide_eq_false_iff_not]; exact fun k=>e k.1
   exact⟨trivial,rfl,_,_,[.id 0,.id 1],⟨rfl,rfl⟩,by rw [hs]; (exact zC)⟩
 refine SSp.code_to (g:=[]) 5 rfl (σ:={_k:Unit // xs=ys}) (fun _=>[]) (fun _=>scHCell (encL cell xs) (encL cell ys)) (by kernel_rfl) ?_ fun⟨_,hall⟩=>?_
 ·refine SCode.loop_vc noCx_ok (n:=40) 0 (by kernel_rfl) (σ:={k:Nat // k≤xs.length∧∀ i (h:i < xs.length) (h':i < ys.length),i < k→xs[i]=ys[i]}) (fun k=>scTCell xs.length ys.length k.1) (fun _=>scHCell (encL cell xs) (encL cell ys)) (fun k=>xs.length - k.1) (fun _=>Nat.le_refl _) (fun⟨k,hk,hall⟩=>?_) ⟨0,Nat.zero_le _,fun i _ _ hi=>absurd hi (by omega)⟩
  dsimp only
  rw [scCell_b,wd_lss]
  refine ite_way (fun h0=>?_) (fun h0=>⟨rfl,⟨(),List.ext_getElem hnm fun i h1 h2=>hall i h1 h2 (by omega)⟩,[.id 0,.id 1],by(exact zC)⟩)
  have h1:k < ys.length:=by omega
  (refine zN7 (cell_0 h0) (cell_0 h1) (cell_1 h0) (cell_1 h1) @cell_n (inc_i64 h0 hn) @xcm_eql ?_)
  (repeat (with_reducible refine must (by(first | with_reducible rfl | exact t_le (by omega) | exact t_eq (by omega) | exact t_nn (by omega) | exact t_lss (by omega) | exact t_leq (by omega) | exact t_gtr (by omega) | exact t_geq (by omega) | exact t_eql (by omega) | exact t_neq (by omega) | exact t_z (by omega) | exact wd_not_f | assumption)) ?_))
  by_cases e:xs[k]=ys[k]
  ·simp only [e,decide_true,wd_and_t,wd_not_t,cond_false]
   exact⟨rfl,⟨k+1,h0,fun i h2 h3 hi=>by rcases Nat.lt_succ_iff_lt_or_eq.1 hi with hi | rfl; exact hall i h2 h3 hi; exact e⟩,by simp only; omega,[.id 0,.id 1],by(exact zC)⟩
  ·have hs:sameCCell xs.length ys.length (encL cell xs) (encL cell ys)=false:=by
    simp only [sameCCell,decide_eq_false_iff_not]
    intro q
    have:=hinj _ _ q.2
    subst this
    exact e rfl
   have ht:xnot (xand (decide (xs[k].1=ys[k].1)) (xand (decide (xs[k].2=ys[k].2)) true))=true:=by
    by_cases e1:xs[k].1=ys[k].1
    ·have e2:xs[k].2≠ys[k].2:=fun e2=>e (Prod.ext e1 e2)
     simp only [e1,e2,decide_true,decide_false]; rfl
    ·simp only [e1,decide_false]; rfl
   rw [ht,cond_true]
   exact⟨trivial,rfl,_,_,[.id 0,.id 1],⟨rfl,rfl⟩,by rw [hs]; (exact zC)⟩
 refine SSp.last noCx_ok (n:=40) (mkS_le (Nat.le_refl _)) ?_
 rw [scCell_z]
 have hs:sameCCell xs.length ys.length (encL cell xs) (encL cell ys)=true:=by
  simp only [sameCCell,decide_eq_true_eq]; exact⟨hnm,by rw [hall]⟩
 exact⟨trivial,rfl,_,_,[.id 0,.id 1],⟨rfl,rfl⟩,by rw [hs]; (exact zC)⟩
def sameCCellG:Gc:=fun args s=>match args with
 | [.slo b 0 n 0,.slo c 0 m 0]=>(match s.h.get b,s.h.get c,s.g with
   | some (.cells cs (some 2)),some (.cells ds (some 2)),[]=>cond (Nat.beq b c) none (some ([okC cs n,okC ds m],.bool (sameCCell n m cs ds),s))
   | _,_,_=>none)
 | _=>none
theorem sameCCellG_ok:GOk prog 18 sameCCellG:=by
 intro args s bs l s' hg hb hfr
 unfold sameCCellG at hg
 split at hg
 ·rename_i b n c m
  split at hg
  ·rename_i cs ds hb1 hc1 hgl
   cases hbc:Nat.beq b c with
   | true=>rw [hbc] at hg; cases hg
   | false =>
     rw [hbc] at hg
     simp only [cond_false,Option.some.injEq,Prod.mk.injEq] at hg
     obtain⟨rfl,rfl,rfl⟩:=hg
     obtain⟨k1,k2⟩:=allT_cons.1 hb
     obtain⟨xs,rfl,rfl,h1⟩:=okC_iff.1 k1
     obtain⟨ys,rfl,rfl,h2⟩:=okC_iff.1 (allT_cons.1 k2).1
     have nx:=noids_c xs
     have ny:=noids_c ys
     refine SFun.lift_ro (ρ:=[b,c]) (bs:=scHCell (encL cell xs) (encL cell ys)) (args0:=[.slo 0 0 xs.length 0,.slo 1 0 ys.length 0]) hfr (by simp [beq_ne hbc]) ⟨⟨there hfr hb1,_,hb1,by(exact zBk),fun κ hκ=>by(exact zBk)⟩,⟨there hfr hc1,_,hc1,by(exact zBk),fun κ hκ=>by(exact zBk)⟩,trivial⟩ (by(exact zTl)) rfl ?_
     rw [hgl]
     exact sameCCell_ok xs ys h1 h2
  ·cases hg
 ·cases hg
abbrev siTi64 (n m k:Nat):List (Nat×LV):=[(0,.slo 0 0 n 0),(1,.slo 1 0 m 0),(5,.int .i64 k)]
abbrev siHi64 (cs ds:List LV):List LB:=[.cells cs (some 1),.cells ds (some 1)]
abbrev siLi64:List Nat:=[0,1,4,5]
theorem sii64_a (n m:Nat) (cs ds:List LV) (K:Pk):(xsp prog (fun _=>none) 40 26 (seg (sp prog 20) 0 4) (tm0 [.slo 0 0 n 0,.slo 1 0 m 0]) (mkS (siHi64 cs ds)) (vK siLi64 K))=(
 bif xcm .neq ↑n ↑m then(
 K .ret [.slo 0 0 n 0,.slo 1 0 m 0,.bool false,.tup []] [sC cs 1,sC ds 1] [])
 else(
 K .normal [.slo 0 0 n 0,.slo 1 0 m 0,.bool false,.int .i64 0] [sC cs 1,sC ds 1] [])):=by kernel_rfl
theorem sii64_b (n m k:Nat) (cs ds:List LV) (K:Pk):(xcode prog (fun _=>none) 40 26 (loopOf (nthC (sp prog 20) 4)) (mkTm 26 (siTi64 n m k)) (mkS (siHi64 cs ds)) (vK siLi64 K))=(
 bif xcm .lss ↑k ↑n then(
 ck (xle (xadd (xnat ↑k) 1) n) <|
 ck (xle (xadd (xix 0 (xnat ↑k) 1) 1) (xln cs)) <|
 ck (isI .i64 (nthD cs (xix 0 (xnat ↑k) 1))) <|
 ck (xle (xadd (xnat ↑k) 1) m) <|
 ck (xle (xadd (xix 0 (xnat ↑k) 1) 1) (xln ds)) <|
 ck (isI .i64 (nthD ds (xix 0 (xnat ↑k) 1))) <|
 bif xcm .neq (asI (nthD cs (xix 0 (xnat ↑k) 1))) (asI (nthD ds (xix 0 (xnat ↑k) 1))) then(
 K .ret [.slo 0 0 n 0,.slo 1 0 m 0,.bool false,.int .i64 ↑k] [sC cs 1,sC ds 1] [])
 else(
 K .normal [.slo 0 0 n 0,.slo 1 0 m 0,.any,.int .i64 (xar .add .i64 (↑k) 1)] [sC cs 1,sC ds 1] []))
 else(
 K (.exit 0) [.slo 0 0 n 0,.slo 1 0 m 0,.any,.int .i64 ↑k] [sC cs 1,sC ds 1] [])):=by kernel_rfl
theorem sii64_z (cs ds:List LV) (K:Pk):(xsp prog (fun _=>none) 40 26 ((sp prog 20).drop 5) (mkTm 26 []) (mkS (siHi64 cs ds)) (vK siLi64 K))=(
 K .ret [.any,.any,.bool true,.any] [sC cs 1,sC ds 1] []):=by kernel_rfl
open Classical in
def sameIi64 (n m:Nat) (cs ds:List LV):Bool:=@decide (n=m∧cs=ds) (Classical.propDecidable _)
theorem sameIi64_self (n:Nat) (cs:List LV):sameIi64 n n cs cs=true:=by simp [sameIi64]
theorem sameIi64_ok (xs ys:List Int) (hn:xs.length≤9223372036854775807) (hm:ys.length≤9223372036854775807):SFun prog 20 [.slo 0 0 xs.length 0,.slo 1 0 ys.length 0] (mkS (siHi64 (encL (cI .i64) xs) (encL (cI .i64) ys)))
  fun l s=>l=.bool (sameIi64 xs.length ys.length (encL (cI .i64) xs) (encL (cI .i64) ys))∧s=mkS (siHi64 (encL (cI .i64) xs) (encL (cI .i64) ys)):=by
 refine SFun.mono (SFun.pieces (Q:=fun l b=>l=.bool (sameIi64 xs.length ys.length (encL (cI .i64) xs) (encL (cI .i64) ys))∧b=siHi64 (encL (cI .i64) xs) (encL (cI .i64) ys)) 26 2 siLi64 [4] (by kernel_rfl) rfl rfl rfl ?_) fun l s' ⟨b0,⟨h1,h2⟩,h3⟩=>⟨h1,by rw [h3,h2]⟩
 have nx:=noIds_Ii64 xs
 have ny:=noIds_Ii64 ys
 have hinj:∀ a b:List Int,encL (cI .i64) a=encL (cI .i64) b→a=b:=fun a b h=>by rw [← decIi64_enc a,h,decIi64_enc]
 refine SSp.to noCx_ok (n:=40) (g:=[]) 4 4 rfl (σ:={_k:Unit // xs.length=ys.length}) (fun _=>siTi64 xs.length ys.length 0) (fun _=>siHi64 (encL (cI .i64) xs) (encL (cI .i64) ys)) (mkS_le (Nat.le_refl _)) (by kernel_rfl) ?_ fun⟨_,hnm⟩=>?_
 ·rw [sii64_a,wd_neq]
  by_cases e:xs.length=ys.length
  ·simp only [e,decide_true,Bool.not_true,cond_false]
   exact⟨rfl,⟨(),e⟩,[.id 0,.id 1],by(exact zC)⟩
  ·simp only [e,decide_false,Bool.not_false,cond_true]
   have hs:sameIi64 xs.length ys.length (encL (cI .i64) xs) (encL (cI .i64) ys)=false:=by simp only [sameIi64,decide_eq_false_iff_not]; exact fun k=>e k.1
   exact⟨trivial,rfl,_,_,[.id 0,.id 1],⟨rfl,rfl⟩,by rw [hs]; (exact zC)⟩
 refine SSp.code_to (g:=[]) 5 rfl (σ:={_k:Unit // xs=ys}) (fun _=>[]) (fun _=>siHi64 (encL (cI .i64) xs) (encL (cI .i64) ys)) (by kernel_rfl) ?_ fun⟨_,hall⟩=>?_
 ·refine SCode.loop_vc noCx_ok (n:=40) 0 (by kernel_rfl) (σ:={k:Nat // k≤xs.length∧∀ i (h:i < xs.length) (h':i < ys.length),i < k→xs[i]=ys[i]}) (fun k=>siTi64 xs.length ys.length k.1) (fun _=>siHi64 (encL (cI .i64) xs) (encL (cI .i64) ys)) (fun k=>xs.length - k.1) (fun _=>Nat.le_refl _) (fun⟨k,hk,hall⟩=>?_) ⟨0,Nat.zero_le _,fun i _ _ hi=>absurd hi (by omega)⟩
  dsimp only
  rw [sii64_b,wd_lss]
  refine ite_way (fun h0=>?_) (fun h0=>⟨rfl,⟨(),List.ext_getElem hnm fun i h1 h2=>hall i h1 h2 (by omega)⟩,[.id 0,.id 1],by(exact zC)⟩)
  have h1:k < ys.length:=by omega
  (refine zN5 (encIi64_nth h0) (encIi64_nth h1) @encIi64_len (inc_i64 h0 hn) @xcm_neq ?_)
  (repeat (with_reducible refine must (by(first | with_reducible rfl | exact t_le (by omega) | exact t_eq (by omega) | exact t_nn (by omega) | exact t_lss (by omega) | exact t_leq (by omega) | exact t_gtr (by omega) | exact t_geq (by omega) | exact t_eql (by omega) | exact t_neq (by omega) | exact t_z (by omega) | exact wd_not_f | assumption)) ?_))
  by_cases e:xs[k]=ys[k]
  ·simp only [e,decide_true,Bool.not_true,cond_false]
   exact⟨rfl,⟨k+1,h0,fun i h2 h3 hi=>by rcases Nat.lt_succ_iff_lt_or_eq.1 hi with hi | rfl; exact hall i h2 h3 hi; exact e⟩,by simp only; omega,[.id 0,.id 1],by(exact zC)⟩
  ·have hs:sameIi64 xs.length ys.length (encL (cI .i64) xs) (encL (cI .i64) ys)=false:=by
    simp only [sameIi64,decide_eq_false_iff_not]
    intro q
    have:=hinj _ _ q.2
    subst this
    exact e rfl
   simp only [e,decide_false,Bool.not_false,cond_true]
   exact⟨trivial,rfl,_,_,[.id 0,.id 1],⟨rfl,rfl⟩,by rw [hs]; (exact zC)⟩
 refine SSp.last noCx_ok (n:=40) (mkS_le (Nat.le_refl _)) ?_
 rw [sii64_z]
 have hs:sameIi64 xs.length ys.length (encL (cI .i64) xs) (encL (cI .i64) ys)=true:=by
  simp only [sameIi64,decide_eq_true_eq]; exact⟨hnm,by rw [hall]⟩
 exact⟨trivial,rfl,_,_,[.id 0,.id 1],⟨rfl,rfl⟩,by rw [hs]; (exact zC)⟩
def sameIi64G:Gc:=fun args s=>match args with
 | [.slo b 0 n 0,.slo c 0 m 0]=>(match s.h.get b,s.h.get c,s.g with
   | some (.cells cs (some 1)),some (.cells ds (some 1)),[]=>cond (Nat.beq b c) none (some ([okIi64 cs n,okIi64 ds m],.bool (sameIi64 n m cs ds),s))
   | _,_,_=>none)
 | _=>none
theorem sameIi64G_ok:GOk prog 20 sameIi64G:=by
 intro args s bs l s' hg hb hfr
 unfold sameIi64G at hg
 split at hg
 ·rename_i b n c m
  split at hg
  ·rename_i cs ds hb1 hc1 hgl
   cases hbc:Nat.beq b c with
   | true=>rw [hbc] at hg; cases hg
   | false =>
     rw [hbc] at hg
     simp only [cond_false,Option.some.injEq,Prod.mk.injEq] at hg
     obtain⟨rfl,rfl,rfl⟩:=hg
     obtain⟨k1,k2⟩:=allT_cons.1 hb
     obtain⟨xs,rfl,rfl,h1⟩:=okIi64_iff.1 k1
     obtain⟨ys,rfl,rfl,h2⟩:=okIi64_iff.1 (allT_cons.1 k2).1
     have nx:=noIds_Ii64 xs
     have ny:=noIds_Ii64 ys
     refine SFun.lift_ro (ρ:=[b,c]) (bs:=siHi64 (encL (cI .i64) xs) (encL (cI .i64) ys)) (args0:=[.slo 0 0 xs.length 0,.slo 1 0 ys.length 0]) hfr (by simp [beq_ne hbc]) ⟨⟨there hfr hb1,_,hb1,by(exact zBk),fun κ hκ=>by(exact zBk)⟩,⟨there hfr hc1,_,hc1,by(exact zBk),fun κ hκ=>by(exact zBk)⟩,trivial⟩ (by(exact zTl)) rfl ?_
     rw [hgl]
     exact sameIi64_ok xs ys h1 h2
  ·cases hg
 ·cases hg
def cxs:Cx:=cxl [(17,owholeG),(49,lcellsG),(50,lfreesG),(18,sameCCellG),(20,sameIi64G),(52,lroomG),(24,oroomG),(45,cloneG 2)]
abbrev smL:List Nat:=[0,1,4,5]
abbrev smT:List (Nat×LV):=[(0,.ptr 0 0),(1,.ptr 6 0),(5,.ptr 11 0)]
abbrev smH (sz n:Nat) (kc sc:List LV) (nd most:Int) (d:Nat) (cs:List LV) (m1 m2:Nat) (c f:List LV):List LB:=[.cells [.slo 1 0 n 0,.slo 2 0 sz 0,.int .i64 nd,.ptr 3 0] none,.cells kc (some 2),.cells sc (some 1),.cells [.int .i64 most,.slo 4 0 d 0] none,.obj lvF cs 5,.dead,.cells [.int .i64 sz,.slo 7 0 n 0,.ptr 8 0,.int .i64 nd] none,.cells kc (some 2),.cells [.int .i64 most,.slo 9 0 d 0] none,.obj orF cs 14,.dead,.cells [.slo 12 0 m1 0,.slo 13 0 m2 0] none,.cells c (some 2),.cells f (some 1),.dead]
theorem sm_a (sz n:Nat) (kc sc:List LV) (nd most:Int) (d:Nat) (cs:List LV) (K:Pk):(xsp prog cxs 60 73 (seg (sp prog 7) 0 2) (tm0 [.ptr 0 0,.ptr 6 0]) (mkS (doI sz n kc sc nd most d cs)) (vK smL K))=(
 ck (okR most cs d) <|
 ck (isF orF orF) <|
 K .normal [.ptr 0 0,.ptr 6 0,.bool false,.ptr 15 0] [sN [.slo 1 0 n 0,.slo 2 0 sz 0,.int .i64 nd,.ptr 3 0],sC kc 2,sC sc 1,sN [.int .i64 most,.slo 4 0 d 0],some (.obj lvF cs 5),sD,sN [.int .i64 ↑sz,.slo 7 0 n 0,.ptr 8 0,.int .i64 nd],sC kc 2,sN [.int .i64 most,.slo 9 0 d 0],some (.obj orF cs 14),sD,sD,sC (lcC cs) 2,sC (lwC cs) 1,sD,sN [.slo 12 0 (lcN cs) 0,.slo 13 0 (lwN cs) 0]] []):=by kernel_rfl
abbrev sm_o_b1 (sz:Nat) (n:Nat) (kc:List LV) (sc:List LV) (nd:Int) (most:Int) (d:Nat) (cs:List LV) (m1:Nat) (m2:Nat) (c:List LV) (f:List LV):List (Option LB):=[sN [.slo 1 0 n 0,.slo 2 0 sz 0,.int .i64 nd,.ptr 3 0],sC kc 2,sC sc 1,sN [.int .i64 most,.slo 4 0 d 0],some (.obj lvF cs 19),sD,sN [.int .i64 ↑sz,.slo 7 0 n 0,.ptr 8 0,.int .i64 nd],sC kc 2,sN [.int .i64 most,.slo 9 0 d 0],some (.obj orF cs 14),sD,sN [.slo 12 0 m1 0,.slo 13 0 m2 0],sC c 2,sC f 1,sD,sC kc 2,sC (lcC cs) 2,sD,sC (lwC cs) 1,sD]
theorem sm_o (sz n:Nat) (kc sc:List LV) (nd most:Int) (d:Nat) (cs:List LV) (m1 m2:Nat) (c f:List LV) (K:Pk):(xorders prog cxs 60 73 (nthC (sp prog 7) 2) (mkTm 73 smT) (mkS (smH sz n kc sc nd most d cs m1 m2 c f)) (vK smL K))=(
 ck (xle n 1000000) <|
 ck (xeq (xln kc) (xmul n 2)) <|
 ck (xnoid kc) <|
 ck (okC kc n) <|
 ck (okC kc n) <|
 bif sameCCell n n kc kc then(
 ck (okR most cs d) <|
 ck (isF lvF lvF) <|
 ck (okC (lcC cs) (lcN cs)) <|
 ck (okC c m1) <|
 bif sameCCell (lcN cs) m1 (lcC cs) c then(
 ck (okR most cs d) <|
 ck (isF lvF lvF) <|
 ck (okIi64 (lwC cs) (lwN cs)) <|
 ck (okIi64 f m2) <|
 bif sameIi64 (lwN cs) m2 (lwC cs) f then(
 bif xcm .eql nd nd then(
 bif xcm .eql ↑sz ↑sz then(
 bif xcm .eql ↑d ↑d then(
 ck (okR most cs d) <|
 ck (isF lvF lvF) <|
 ck (okR most cs d) <|
 ck (isF orF orF) <|
 ck (xeq n n) <|
 ck (xeq n n) <|
 ck (xeq m1 m1) <|
 ck (xeq m1 m1) <|
 ck (xeq m2 m2) <|
 ck (xeq m2 m2) <|
 ck (xcm .eql nd nd) <|
 ck (xcm .eql nd nd) <|
 ck (xcm .eql ↑sz ↑sz) <|
 ck (xcm .eql ↑sz ↑sz) <|
 ck (xeq d d) <|
 ck (xeq d d) <|
 K .normal [.ptr 0 0,.ptr 6 0,.bool (xcm .eql (roomW most cs) (roomW most cs)),.ptr 11 0] [sN [.slo 1 0 n 0,.slo 2 0 sz 0,.int .i64 nd,.ptr 3 0],sC kc 2,sC sc 1,sN [.int .i64 most,.slo 4 0 d 0],some (.obj lvF cs 20),sD,sN [.int .i64 ↑sz,.slo 7 0 n 0,.ptr 8 0,.int .i64 nd],sC kc 2,sN [.int .i64 most,.slo 9 0 d 0],some (.obj orF cs 21),sD,sN [.slo 12 0 m1 0,.slo 13 0 m2 0],sC c 2,sC f 1,sD,sC kc 2,sC (lcC cs) 2,sD,sC (lwC cs) 1,sD,sD,sD] [])
 else(
 ck (xeq n n) <|
 ck (xeq n n) <|
 ck (xeq m1 m1) <|
 ck (xeq m1 m1) <|
 ck (xeq m2 m2) <|
 ck (xeq m2 m2) <|
 ck (xcm .eql nd nd) <|
 ck (xcm .eql nd nd) <|
 ck (xcm .eql ↑sz ↑sz) <|
 ck (xcm .eql ↑sz ↑sz) <|
 ck (xeq d d) <|
 ck (xeq d d) <|
 K .normal [.ptr 0 0,.ptr 6 0,.bool false,.ptr 11 0] (sm_o_b1 sz n kc sc nd most d cs m1 m2 c f) []))
 else(
 ck (xeq n n) <|
 ck (xeq n n) <|
 ck (xeq m1 m1) <|
 ck (xeq m1 m1) <|
 ck (xeq m2 m2) <|
 ck (xeq m2 m2) <|
 ck (xcm .eql nd nd) <|
 ck (xcm .eql nd nd) <|
 ck (xcm .eql ↑sz ↑sz) <|
 ck (xcm .eql ↑sz ↑sz) <|
 K .normal [.ptr 0 0,.ptr 6 0,.bool false,.ptr 11 0] (sm_o_b1 sz n kc sc nd most d cs m1 m2 c f) []))
 else(
 ck (xeq n n) <|
 ck (xeq n n) <|
 ck (xeq m1 m1) <|
 ck (xeq m1 m1) <|
 ck (xeq m2 m2) <|
 ck (xeq m2 m2) <|
 ck (xcm .eql nd nd) <|
 ck (xcm .eql nd nd) <|
 K .normal [.ptr 0 0,.ptr 6 0,.bool false,.ptr 11 0] (sm_o_b1 sz n kc sc nd most d cs m1 m2 c f) []))
 else(
 ck (xeq n n) <|
 ck (xeq n n) <|
 ck (xeq m1 m1) <|
 ck (xeq m1 m1) <|
 ck (xeq m2 m2) <|
 ck (xeq m2 m2) <|
 K .normal [.ptr 0 0,.ptr 6 0,.bool false,.ptr 11 0] (sm_o_b1 sz n kc sc nd most d cs m1 m2 c f) []))
 else(
 ck (xeq n n) <|
 ck (xeq n n) <|
 ck (xeq m1 m1) <|
 ck (xeq m1 m1) <|
 K .normal [.ptr 0 0,.ptr 6 0,.bool false,.ptr 11 0] [sN [.slo 1 0 n 0,.slo 2 0 sz 0,.int .i64 nd,.ptr 3 0],sC kc 2,sC sc 1,sN [.int .i64 most,.slo 4 0 d 0],some (.obj lvF cs 17),sD,sN [.int .i64 ↑sz,.slo 7 0 n 0,.ptr 8 0,.int .i64 nd],sC kc 2,sN [.int .i64 most,.slo 9 0 d 0],some (.obj orF cs 14),sD,sN [.slo 12 0 m1 0,.slo 13 0 m2 0],sC c 2,sC f 1,sD,sC kc 2,sC (lcC cs) 2,sD] []))
 else(
 ck (xeq n n) <|
 ck (xeq n n) <|
 K .normal [.ptr 0 0,.ptr 6 0,.bool false,.ptr 11 0] [sN [.slo 1 0 n 0,.slo 2 0 sz 0,.int .i64 nd,.ptr 3 0],sC kc 2,sC sc 1,sN [.int .i64 most,.slo 4 0 d 0],some (.obj lvF cs 5),sD,sN [.int .i64 ↑sz,.slo 7 0 n 0,.ptr 8 0,.int .i64 nd],sC kc 2,sN [.int .i64 most,.slo 9 0 d 0],some (.obj orF cs 14),sD,sN [.slo 12 0 m1 0,.slo 13 0 m2 0],sC c 2,sC f 1,sD,sC kc 2] [])):=by kernel_rfl
end
end Go.Lev
