/- LevelsPlays: the ask as a contract; both tell the same -/
import Derived.Test.YtciccbphopgmaaaCW25
import Derived.Test.YtciccbphopgmaaaLc
import Derived.Test.YtciccbphopgmaaaChecked
import Derived.KernelRfl
namespace Go.Lev
set_option linter.unusedSimpArgs false
set_option linter.unusedVariables false
open Go.RowKit
open Go.Proofs.Try (prog)
set_option maxRecDepth 100000
noncomputable section
def okVP (F:World→Prop) (v:Value) (qs:CL):Prop:=qs.length≤9223372036854775807∧∀ W,F W→RowArg W v qs.length (encL cell qs)
open Classical in
def valQ (F:World→Prop) (v:Value):CL:=if h:∃ qs,okVP F v qs then Classical.choose h else []
def okV (F:World→Prop) (v:Value):Bool:=@decide (∃ qs,okVP F v qs) (Classical.propDecidable _)
theorem okV_spec {F:World→Prop} {v:Value} (h:okV F v=true):okVP F v (valQ F v):=by
 simp only [okV,decide_eq_true_eq] at h
 rw [valQ,dif_pos h]
 exact Classical.choose_spec h
theorem okV_of {F:World→Prop} {v:Value} {qs:CL} (h:okVP F v qs):okV F v=true:=by simp only [okV,decide_eq_true_eq]; exact⟨qs,h⟩
def doD (F:World→Prop) (most:Int) (cs:List LV) (k a w:Int) (v:Value) (i:Int):Nat:=(doS most (decLs cs) k a w (valQ F v) i).length
def doC (F:World→Prop) (most:Int) (cs:List LV) (k a w:Int) (v:Value) (i:Int):List LV:=encLs (doS most (decLs cs) k a w (valQ F v) i)
theorem do_c {F:World→Prop} {v:Value} (most:Int) (d:Nat) (cs:List LV) (k a w i:Int) (k1:okR most cs d=true) (k2:okF cs=true) (k3:okV F v=true) :
  SFun prog 7 [.ptr 0 0,.ptr 3 0,.agg [.int .i64 k,.int .i64 a,.int .u64 w,.val v],.int .i64 i] (mkS (doI most d cs) (factG F)) fun l t=>l=.bool true∧t=mkS (doO most (doD F most cs k a w v i) (doC F most cs k a w v i)) (factG F):=by
 obtain⟨ls,rfl,rfl,h,h1,h2⟩:=okR_iff.1 k1
 simp only [okF,decLs_enc,decide_eq_true_eq] at k2
 obtain⟨q1,q2⟩:=okV_spec k3
 simp only [doD,doC,decLs_enc]
 exact do_ok most ls k a w (valQ F v) i q2 q1 h h1 h2 k2
def eqL (a b:List LV):Bool:=@decide (a=b) (Classical.propDecidable _)
theorem eqL_self (a:List LV):eqL a a=true:=by simp [eqL]
theorem eqL_eq {a b:List LV} (h:eqL a b=true):a=b:=by simpa [eqL] using h
def doG:Gc:=fun args s=>match args,s.g with
 | [.ptr b 0,.ptr p 0,.agg [.int .i64 k,.int .i64 a,.int .u64 w,.val v],.int .i64 i],[(0,[.fact F])]=>(match s.h.get b with
   | some (.cells [.int .i64 most,.slo o 0 d 0] none)=>(match s.h.get o with
     | some (.obj F_o cs e)=>(match s.h.get e with
       | some (.dead)=>(match s.h.get p with
         | some (.cells [.int .i64 most2,.slo q 0 d2 0] none)=>(match s.h.get q with
           | some (.obj F_q cs2 u)=>(match s.h.get u with
             | some (.dead)=>cond (nodupB [b,o,e,p,q,u]) (match s.lay [b,o,e,p,q,u] [.cells [.int .i64 most,.slo s.n 0 (doD F most cs k a w v i) 0] none,.dead,.dead,.cells [.int .i64 most,.slo (Nat.succ (Nat.succ s.n)) 0 (doD F most cs k a w v i) 0] none,.dead,.dead] [.obj lvF (doC F most cs k a w v i) (Nat.succ s.n),.dead,.obj orF (doC F most cs k a w v i) (Nat.succ (Nat.succ (Nat.succ s.n))),.dead] with
               | some s'=>some ([okR most cs d,okF cs,okV F v,xcm .eql most most2,xeq d d2,eqL cs cs2,isF F_o lvF,isF F_q orF],.bool true,s')
               | none=>none) none
             | _=>none)
           | _=>none)
         | _=>none)
       | _=>none)
     | _=>none)
   | _=>none)
 | _,_=>none
theorem doG_ok:GOk prog 7 doG:=by
 intro args s bs l s' hg hb hfr
 unfold doG at hg
 split at hg
 ·rename_i b p k a w v i F hgl
  split at hg
  ·rename_i most o d hb0
   split at hg
   ·rename_i F_o cs e hb1
    split at hg
    ·rename_i  hb2
     split at hg
     ·rename_i most2 q d2 hb3
      split at hg
      ·rename_i F_q cs2 u hb4
       split at hg
       ·rename_i  hb5
        cases hbc:nodupB [b,o,e,p,q,u] with
        | false=>rw [hbc] at hg; cases hg
        | true =>
          rw [hbc] at hg
          simp only [cond_true] at hg
          split at hg
          ·rename_i s1 hs1
           simp only [Option.some.injEq,Prod.mk.injEq] at hg
           obtain⟨rfl,rfl,rfl⟩:=hg
           simp only [allT_cons] at hb
           obtain⟨k1,k2,k3,k4,k5,k6,k7,k8,_⟩:=hb
           have e_o:=isF_eq k7
           subst e_o
           have e_q:=isF_eq k8
           subst e_q
           rw [xcm_eql,decide_eq_true_eq] at k4
           rw [wd_eq,decide_eq_true_eq] at k5
           replace k6:=eqL_eq k6
           subst k4 k5 k6
           refine SFun.lay (bs:=[.cells [.int .i64 most,.slo 1 0 d 0] none,.obj lvF cs 2,.dead,.cells [.int .i64 most,.slo 4 0 d 0] none,.obj orF cs 5,.dead]) (args0:=[.ptr 0 0,.ptr 3 0,.agg [.int .i64 k,.int .i64 a,.int .u64 w,.val v],.int .i64 i]) (bs':=[.cells [.int .i64 most,.slo 6 0 (doD F most cs k a w v i) 0] none,.dead,.dead,.cells [.int .i64 most,.slo 8 0 (doD F most cs k a w v i) 0] none,.dead,.dead,.obj lvF (doC F most cs k a w v i) 7,.dead,.obj orF (doC F most cs k a w v i) 9,.dead]) (v0:=.bool true) hfr hs1 (nodupB_nd hbc)
            ⟨⟨there hfr hb0,_,hb0,by first | exact lb_same rfl | exact lb_cells (lws_cons (lw_int) (lws_cons (lw_slo rfl) lws_nil)) (by simp),fun κ hκ=>lb_cells (lws_cons (lw_int) (lws_cons (lw_slo (hκ 1 o rfl)) lws_nil)) (by simp)⟩,⟨there hfr hb1,_,hb1,lb_obj rfl,fun κ hκ=>lb_obj (hκ 2 e rfl)⟩,⟨there hfr hb2,_,hb2,lb_dead,fun κ hκ=>lb_dead⟩,⟨there hfr hb3,_,hb3,by first | exact lb_same rfl | exact lb_cells (lws_cons (lw_int) (lws_cons (lw_slo rfl) lws_nil)) (by simp),fun κ hκ=>lb_cells (lws_cons (lw_int) (lws_cons (lw_slo (hκ 4 q rfl)) lws_nil)) (by simp)⟩,⟨there hfr hb4,_,hb4,lb_obj rfl,fun κ hκ=>lb_obj (hκ 5 u rfl)⟩,⟨there hfr hb5,_,hb5,lb_dead,fun κ hκ=>lb_dead⟩,trivial⟩ (by(exact zTl)) ?_
            fun κ h1 h2=>⟨⟨lb_cells (lws_cons (lw_int) (lws_cons (lw_slo (h2 0 (by simp))) lws_nil)) (by simp),lb_dead,lb_dead,lb_cells (lws_cons (lw_int) (lws_cons (lw_slo (h2 2 (by simp))) lws_nil)) (by simp),lb_dead,lb_dead,lb_obj (h2 1 (by simp)),lb_dead,lb_obj (h2 3 (by simp)),lb_dead,trivial⟩,lw_bool⟩
           rw [hgl]; exact(do_c most d cs k a w i k1 k2 k3)
          ·cases hg
       ·cases hg
      ·cases hg
     ·cases hg
    ·cases hg
   ·cases hg
  ·cases hg
 ·cases hg
abbrev scTCell (n m k:Nat):List (Nat×LV):=[(0,.slo 0 0 n 0),(1,.slo 1 0 m 0),(5,.int .i64 k)]
abbrev scHCell (cs ds:List LV):List LB:=[.cells cs (some 2),.cells ds (some 2)]
abbrev scLCell:List Nat:=[0,1,4,5]
theorem scCell_a (n m:Nat) (cs ds:List LV) (K:Pk):(xsp prog (fun _=>none) 40 26 (seg (sp prog 32) 0 4) (tm0 [.slo 0 0 n 0,.slo 1 0 m 0]) (mkS (scHCell cs ds)) (vK scLCell K))=(
 bif xcm .neq ↑n ↑m then(
 K .ret [.slo 0 0 n 0,.slo 1 0 m 0,.bool false,.tup []] [sC cs 2,sC ds 2] [])
 else(
 K .normal [.slo 0 0 n 0,.slo 1 0 m 0,.bool false,.int .i64 0] [sC cs 2,sC ds 2] [])):=by kernel_rfl
theorem scCell_b (n m k:Nat) (cs ds:List LV) (K:Pk):(xcode prog (fun _=>none) 40 26 (loopOf (nthC (sp prog 32) 4)) (mkTm 26 (scTCell n m k)) (mkS (scHCell cs ds)) (vK scLCell K))=(
 bif xcm .lss ↑k ↑n then(
 ck (xle (xadd (xnat ↑k) 1) n) <|
 ck (xle (xadd (xix 0 (xnat ↑k) 2) 2) (xln cs)) <|
 ck (isI .i64 (nthD cs (xix 0 (xnat ↑k) 2))) <|
 ck (isI .u64 (nthD cs (xadd (xix 0 (xnat ↑k) 2) 1))) <|
 ck (xle (xadd (xnat ↑k) 1) m) <|
 ck (xle (xadd (xix 0 (xnat ↑k) 2) 2) (xln ds)) <|
 ck (isI .i64 (nthD ds (xix 0 (xnat ↑k) 2))) <|
 ck (isI .u64 (nthD ds (xadd (xix 0 (xnat ↑k) 2) 1))) <|
 bif xnot (xand (xcm .eql (asI (nthD cs (xix 0 (xnat ↑k) 2))) (asI (nthD ds (xix 0 (xnat ↑k) 2)))) (xand (xcm .eql (asI (nthD cs (xadd (xix 0 (xnat ↑k) 2) 1))) (asI (nthD ds (xadd (xix 0 (xnat ↑k) 2) 1)))) true)) then(
 K .ret [.slo 0 0 n 0,.slo 1 0 m 0,.bool false,.int .i64 ↑k] [sC cs 2,sC ds 2] [])
 else(
 K .normal [.slo 0 0 n 0,.slo 1 0 m 0,.any,.int .i64 (xar .add .i64 (↑k) 1)] [sC cs 2,sC ds 2] []))
 else(
 K (.exit 0) [.slo 0 0 n 0,.slo 1 0 m 0,.any,.int .i64 ↑k] [sC cs 2,sC ds 2] [])):=by kernel_rfl
theorem scCell_z (cs ds:List LV) (K:Pk):(xsp prog (fun _=>none) 40 26 ((sp prog 32).drop 5) (mkTm 26 []) (mkS (scHCell cs ds)) (vK scLCell K))=(
 K .ret [.any,.any,.bool true,.any] [sC cs 2,sC ds 2] []):=by kernel_rfl
open Classical in
def sameCCell (n m:Nat) (cs ds:List LV):Bool:=@decide (n=m∧cs=ds) (Classical.propDecidable _)
theorem sameCCell_self (n:Nat) (cs:List LV):sameCCell n n cs cs=true:=by simp [sameCCell]
theorem sameCCell_ok (xs ys:List (Int×Int)) (hn:xs.length≤9223372036854775807) (hm:ys.length≤9223372036854775807):SFun prog 32 [.slo 0 0 xs.length 0,.slo 1 0 ys.length 0] (mkS (scHCell (encL cell xs) (encL cell ys)))
  fun l s=>l=.bool (sameCCell xs.length ys.length (encL cell xs) (encL cell ys))∧s=mkS (scHCell (encL cell xs) (encL cell ys)):=by
 refine SFun.mono (SFun.pieces (Q:=fun l b=>l=.bool (sameCCell xs.length ys.length (encL cell xs) (encL cell ys))∧b=scHCell (encL cell xs) (encL cell ys)) 26 2 scLCell [4] (by kernel_rfl) rfl rfl rfl ?_) fun l s' ⟨b0,⟨h1,h2⟩,h3⟩=>⟨h1,by rw [h3,h2]⟩
 have nx:=noids_c xs
 have ny:=noids_c ys
 have hinj:∀ a b:List (Int×Int),encL cell a=encL cell b→a=b:=fun a b h=>by rw [← decC_enc a,h,decC_enc]
 refine SSp.to noCx_ok (n:=40) (g:=[]) 4 4 rfl (σ:={_k:Unit // xs.length=ys.length}) (fun _=>scTCell xs.length ys.length 0) (fun _=>scHCell (encL cell xs) (encL cell ys)) (mkS_le (Nat.le_refl _)) (by kernel_rfl) ?_ fun⟨_,hnm⟩=>?_
 ·rw [scCell_a,wd_neq]
  by_cases e:xs.length=ys.length
  ·simp only [e,decide_true,Bool.not_true,cond_false]
   exact⟨rfl,⟨(),e⟩,[.id 0,.id 1],by(exact zC)⟩
  ·simp only [e,decide_false,Bool.not_false,cond_true]
   have hs:sameCCell xs.length ys.length (encL cell xs) (encL cell ys)=false:=by simp only [sameCCell,decide_eq_false_iff_not]; exact fun k=>e k.1
   exact⟨trivial,rfl,_,_,[.id 0,.id 1],⟨rfl,rfl⟩,by rw [hs]; (exact zC)⟩
 refine SSp.code_to (g:=[]) 5 rfl (σ:={_k:Unit // xs=ys}) (fun _=>[]) (fun _=>scHCell (encL cell xs) (encL cell ys)) (by kernel_rfl) ?_ fun⟨_,hall⟩=>?_
 ·refine SCode.loop_vc noCx_ok (n:=40) 0 (by kernel_rfl) (σ:={k:Nat // k≤xs.length∧∀ i (h:i < xs.length) (h':i < ys.length),i < k→xs[i]=ys[i]}) (fun k=>scTCell xs.length ys.length k.1) (fun _=>scHCell (encL cell xs) (encL cell ys)) (fun k=>xs.length - k.1) (fun _=>Nat.le_refl _) (fun⟨k,hk,hall⟩=>?_) ⟨0,Nat.zero_le _,fun i _ _ hi=>absurd hi (by omega)⟩
  dsimp only
  rw [scCell_b,wd_lss]
  refine ite_way (fun h0=>?_) (fun h0=>⟨rfl,⟨(),List.ext_getElem hnm fun i h1 h2=>hall i h1 h2 (by omega)⟩,[.id 0,.id 1],by(exact zC)⟩)
  have h1:k < ys.length:=by omega
  (refine zN7 (cell_0 h0) (cell_0 h1) (cell_1 h0) (cell_1 h1) @cell_n (inc_i64 h0 hn) @xcm_eql ?_)
  (repeat (with_reducible refine must (by(first | with_reducible rfl | exact t_le (by omega) | exact t_eq (by omega) | exact t_nn (by omega) | exact t_lss (by omega) | exact t_leq (by omega) | exact t_gtr (by omega) | exact t_geq (by omega) | exact t_eql (by omega) | exact t_neq (by omega) | exact t_z (by omega) | exact wd_not_f | assumption)) ?_))
  by_cases e:xs[k]=ys[k]
  ·simp only [e,decide_true,wd_and_t,wd_not_t,cond_false]
   exact⟨rfl,⟨k+1,h0,fun i h2 h3 hi=>by rcases Nat.lt_succ_iff_lt_or_eq.1 hi with hi | rfl; exact hall i h2 h3 hi; exact e⟩,by simp only; omega,[.id 0,.id 1],by(exact zC)⟩
  ·have hs:sameCCell xs.length ys.length (encL cell xs) (encL cell ys)=false:=by
    simp only [sameCCell,decide_eq_false_iff_not]
    intro q
    have:=hinj _ _ q.2
    subst this
    exact e rfl
   have ht:xnot (xand (decide (xs[k].1=ys[k].1)) (xand (decide (xs[k].2=ys[k].2)) true))=true:=by
    by_cases e1:xs[k].1=ys[k].1
    ·have e2:xs[k].2≠ys[k].2:=fun e2=>e (Prod.ext e1 e2)
     simp only [e1,e2,decide_true,decide_false]; rfl
    ·simp only [e1,decide_false]; rfl
   rw [ht,cond_true]
   exact⟨trivial,rfl,_,_,[.id 0,.id 1],⟨rfl,rfl⟩,by rw [hs]; (exact zC)⟩
 refine SSp.last noCx_ok (n:=40) (mkS_le (Nat.le_refl _)) ?_
 rw [scCell_z]
 have hs:sameCCell xs.length ys.length (encL cell xs) (encL cell ys)=true:=by
  simp only [sameCCell,decide_eq_true_eq]; exact⟨hnm,by rw [hall]⟩
 exact⟨trivial,rfl,_,_,[.id 0,.id 1],⟨rfl,rfl⟩,by rw [hs]; (exact zC)⟩
def sameCCellG:Gc:=fun args s=>match args with
 | [.slo b 0 n 0,.slo c 0 m 0]=>(match s.h.get b,s.h.get c,s.g with
   | some (.cells cs (some 2)),some (.cells ds (some 2)),[]=>cond (Nat.beq b c) none (some ([okC cs n,okC ds m],.bool (sameCCell n m cs ds),s))
   | _,_,_=>none)
 | _=>none
theorem sameCCellG_ok:GOk prog 32 sameCCellG:=by
 intro args s bs l s' hg hb hfr
 unfold sameCCellG at hg
 split at hg
 ·rename_i b n c m
  split at hg
  ·rename_i cs ds hb1 hc1 hgl
   cases hbc:Nat.beq b c with
   | true=>rw [hbc] at hg; cases hg
   | false =>
     rw [hbc] at hg
     simp only [cond_false,Option.some.injEq,Prod.mk.injEq] at hg
     obtain⟨rfl,rfl,rfl⟩:=hg
     obtain⟨k1,k2⟩:=allT_cons.1 hb
     obtain⟨xs,rfl,rfl,h1⟩:=okC_iff.1 k1
     obtain⟨ys,rfl,rfl,h2⟩:=okC_iff.1 (allT_cons.1 k2).1
     have nx:=noids_c xs
     have ny:=noids_c ys
     refine SFun.lift_ro (ρ:=[b,c]) (bs:=scHCell (encL cell xs) (encL cell ys)) (args0:=[.slo 0 0 xs.length 0,.slo 1 0 ys.length 0]) hfr (by simp [beq_ne hbc]) ⟨⟨there hfr hb1,_,hb1,by(exact zBk),fun κ hκ=>by(exact zBk)⟩,⟨there hfr hc1,_,hc1,by(exact zBk),fun κ hκ=>by(exact zBk)⟩,trivial⟩ (by(exact zTl)) rfl ?_
     rw [hgl]
     exact sameCCell_ok xs ys h1 h2
  ·cases hg
 ·cases hg
abbrev siTi64 (n m k:Nat):List (Nat×LV):=[(0,.slo 0 0 n 0),(1,.slo 1 0 m 0),(5,.int .i64 k)]
abbrev siHi64 (cs ds:List LV):List LB:=[.cells cs (some 1),.cells ds (some 1)]
abbrev siLi64:List Nat:=[0,1,4,5]
theorem sii64_a (n m:Nat) (cs ds:List LV) (K:Pk):(xsp prog (fun _=>none) 40 26 (seg (sp prog 33) 0 4) (tm0 [.slo 0 0 n 0,.slo 1 0 m 0]) (mkS (siHi64 cs ds)) (vK siLi64 K))=(
 bif xcm .neq ↑n ↑m then(
 K .ret [.slo 0 0 n 0,.slo 1 0 m 0,.bool false,.tup []] [sC cs 1,sC ds 1] [])
 else(
 K .normal [.slo 0 0 n 0,.slo 1 0 m 0,.bool false,.int .i64 0] [sC cs 1,sC ds 1] [])):=by kernel_rfl
theorem sii64_b (n m k:Nat) (cs ds:List LV) (K:Pk):(xcode prog (fun _=>none) 40 26 (loopOf (nthC (sp prog 33) 4)) (mkTm 26 (siTi64 n m k)) (mkS (siHi64 cs ds)) (vK siLi64 K))=(
 bif xcm .lss ↑k ↑n then(
 ck (xle (xadd (xnat ↑k) 1) n) <|
 ck (xle (xadd (xix 0 (xnat ↑k) 1) 1) (xln cs)) <|
 ck (isI .i64 (nthD cs (xix 0 (xnat ↑k) 1))) <|
 ck (xle (xadd (xnat ↑k) 1) m) <|
 ck (xle (xadd (xix 0 (xnat ↑k) 1) 1) (xln ds)) <|
 ck (isI .i64 (nthD ds (xix 0 (xnat ↑k) 1))) <|
 bif xcm .neq (asI (nthD cs (xix 0 (xnat ↑k) 1))) (asI (nthD ds (xix 0 (xnat ↑k) 1))) then(
 K .ret [.slo 0 0 n 0,.slo 1 0 m 0,.bool false,.int .i64 ↑k] [sC cs 1,sC ds 1] [])
 else(
 K .normal [.slo 0 0 n 0,.slo 1 0 m 0,.any,.int .i64 (xar .add .i64 (↑k) 1)] [sC cs 1,sC ds 1] []))
 else(
 K (.exit 0) [.slo 0 0 n 0,.slo 1 0 m 0,.any,.int .i64 ↑k] [sC cs 1,sC ds 1] [])):=by kernel_rfl
theorem sii64_z (cs ds:List LV) (K:Pk):(xsp prog (fun _=>none) 40 26 ((sp prog 33).drop 5) (mkTm 26 []) (mkS (siHi64 cs ds)) (vK siLi64 K))=(
 K .ret [.any,.any,.bool true,.any] [sC cs 1,sC ds 1] []):=by kernel_rfl
open Classical in
def sameIi64 (n m:Nat) (cs ds:List LV):Bool:=@decide (n=m∧cs=ds) (Classical.propDecidable _)
theorem sameIi64_self (n:Nat) (cs:List LV):sameIi64 n n cs cs=true:=by simp [sameIi64]
theorem sameIi64_ok (xs ys:List Int) (hn:xs.length≤9223372036854775807) (hm:ys.length≤9223372036854775807):SFun prog 33 [.slo 0 0 xs.length 0,.slo 1 0 ys.length 0] (mkS (siHi64 (encL (cI .i64) xs) (encL (cI .i64) ys)))
  fun l s=>l=.bool (sameIi64 xs.length ys.length (encL (cI .i64) xs) (encL (cI .i64) ys))∧s=mkS (siHi64 (encL (cI .i64) xs) (encL (cI .i64) ys)):=by
 refine SFun.mono (SFun.pieces (Q:=fun l b=>l=.bool (sameIi64 xs.length ys.length (encL (cI .i64) xs) (encL (cI .i64) ys))∧b=siHi64 (encL (cI .i64) xs) (encL (cI .i64) ys)) 26 2 siLi64 [4] (by kernel_rfl) rfl rfl rfl ?_) fun l s' ⟨b0,⟨h1,h2⟩,h3⟩=>⟨h1,by rw [h3,h2]⟩
 have nx:=noIds_Ii64 xs
 have ny:=noIds_Ii64 ys
 have hinj:∀ a b:List Int,encL (cI .i64) a=encL (cI .i64) b→a=b:=fun a b h=>by rw [← decIi64_enc a,h,decIi64_enc]
 refine SSp.to noCx_ok (n:=40) (g:=[]) 4 4 rfl (σ:={_k:Unit // xs.length=ys.length}) (fun _=>siTi64 xs.length ys.length 0) (fun _=>siHi64 (encL (cI .i64) xs) (encL (cI .i64) ys)) (mkS_le (Nat.le_refl _)) (by kernel_rfl) ?_ fun⟨_,hnm⟩=>?_
 ·rw [sii64_a,wd_neq]
  by_cases e:xs.length=ys.length
  ·simp only [e,decide_true,Bool.not_true,cond_false]
   exact⟨rfl,⟨(),e⟩,[.id 0,.id 1],by(exact zC)⟩
  ·simp only [e,decide_false,Bool.not_false,cond_true]
   have hs:sameIi64 xs.length ys.length (encL (cI .i64) xs) (encL (cI .i64) ys)=false:=by simp only [sameIi64,decide_eq_false_iff_not]; exact fun k=>e k.1
   exact⟨trivial,rfl,_,_,[.id 0,.id 1],⟨rfl,rfl⟩,by rw [hs]; (exact zC)⟩
 refine SSp.code_to (g:=[]) 5 rfl (σ:={_k:Unit // xs=ys}) (fun _=>[]) (fun _=>siHi64 (encL (cI .i64) xs) (encL (cI .i64) ys)) (by kernel_rfl) ?_ fun⟨_,hall⟩=>?_
 ·refine SCode.loop_vc noCx_ok (n:=40) 0 (by kernel_rfl) (σ:={k:Nat // k≤xs.length∧∀ i (h:i < xs.length) (h':i < ys.length),i < k→xs[i]=ys[i]}) (fun k=>siTi64 xs.length ys.length k.1) (fun _=>siHi64 (encL (cI .i64) xs) (encL (cI .i64) ys)) (fun k=>xs.length - k.1) (fun _=>Nat.le_refl _) (fun⟨k,hk,hall⟩=>?_) ⟨0,Nat.zero_le _,fun i _ _ hi=>absurd hi (by omega)⟩
  dsimp only
  rw [sii64_b,wd_lss]
  refine ite_way (fun h0=>?_) (fun h0=>⟨rfl,⟨(),List.ext_getElem hnm fun i h1 h2=>hall i h1 h2 (by omega)⟩,[.id 0,.id 1],by(exact zC)⟩)
  have h1:k < ys.length:=by omega
  (refine zN5 (encIi64_nth h0) (encIi64_nth h1) @encIi64_len (inc_i64 h0 hn) @xcm_neq ?_)
  (repeat (with_reducible refine must (by(first | with_reducible rfl | exact t_le (by omega) | exact t_eq (by omega) | exact t_nn (by omega) | exact t_lss (by omega) | exact t_leq (by omega) | exact t_gtr (by omega) | exact t_geq (by omega) | exact t_eql (by omega) | exact t_neq (by omega) | exact t_z (by omega) | exact wd_not_f | assumption)) ?_))
  by_cases e:xs[k]=ys[k]
  ·simp only [e,decide_true,Bool.not_true,cond_false]
   exact⟨rfl,⟨k+1,h0,fun i h2 h3 hi=>by rcases Nat.lt_succ_iff_lt_or_eq.1 hi with hi | rfl; exact hall i h2 h3 hi; exact e⟩,by simp only; omega,[.id 0,.id 1],by(exact zC)⟩
  ·have hs:sameIi64 xs.length ys.length (encL (cI .i64) xs) (encL (cI .i64) ys)=false:=by
    simp only [sameIi64,decide_eq_false_iff_not]
    intro q
    have:=hinj _ _ q.2
    subst this
    exact e rfl
   simp only [e,decide_false,Bool.not_false,cond_true]
   exact⟨trivial,rfl,_,_,[.id 0,.id 1],⟨rfl,rfl⟩,by rw [hs]; (exact zC)⟩
 refine SSp.last noCx_ok (n:=40) (mkS_le (Nat.le_refl _)) ?_
 rw [sii64_z]
 have hs:sameIi64 xs.length ys.length (encL (cI .i64) xs) (encL (cI .i64) ys)=true:=by
  simp only [sameIi64,decide_eq_true_eq]; exact⟨hnm,by rw [hall]⟩
 exact⟨trivial,rfl,_,_,[.id 0,.id 1],⟨rfl,rfl⟩,by rw [hs]; (exact zC)⟩
def sameIi64G:Gc:=fun args s=>match args with
 | [.slo b 0 n 0,.slo c 0 m 0]=>(match s.h.get b,s.h.get c,s.g with
   | some (.cells cs (some 1)),some (.cells ds (some 1)),[]=>cond (Nat.beq b c) none (some ([okIi64 cs n,okIi64 ds m],.bool (sameIi64 n m cs ds),s))
   | _,_,_=>none)
 | _=>none
theorem sameIi64G_ok:GOk prog 33 sameIi64G:=by
 intro args s bs l s' hg hb hfr
 unfold sameIi64G at hg
 split at hg
 ·rename_i b n c m
  split at hg
  ·rename_i cs ds hb1 hc1 hgl
   cases hbc:Nat.beq b c with
   | true=>rw [hbc] at hg; cases hg
   | false =>
     rw [hbc] at hg
     simp only [cond_false,Option.some.injEq,Prod.mk.injEq] at hg
     obtain⟨rfl,rfl,rfl⟩:=hg
     obtain⟨k1,k2⟩:=allT_cons.1 hb
     obtain⟨xs,rfl,rfl,h1⟩:=okIi64_iff.1 k1
     obtain⟨ys,rfl,rfl,h2⟩:=okIi64_iff.1 (allT_cons.1 k2).1
     have nx:=noIds_Ii64 xs
     have ny:=noIds_Ii64 ys
     refine SFun.lift_ro (ρ:=[b,c]) (bs:=siHi64 (encL (cI .i64) xs) (encL (cI .i64) ys)) (args0:=[.slo 0 0 xs.length 0,.slo 1 0 ys.length 0]) hfr (by simp [beq_ne hbc]) ⟨⟨there hfr hb1,_,hb1,by(exact zBk),fun κ hκ=>by(exact zBk)⟩,⟨there hfr hc1,_,hc1,by(exact zBk),fun κ hκ=>by(exact zBk)⟩,trivial⟩ (by(exact zTl)) rfl ?_
     rw [hgl]
     exact sameIi64_ok xs ys h1 h2
  ·cases hg
 ·cases hg
def cxs:Cx:=cxl [(30,owholeG),(11,lgetG),(31,ogetG),(15,lcellsG),(16,lfreesG),(32,sameCCellG),(33,sameIi64G),(18,lroomG),(34,oroomG)]
abbrev smL:List Nat:=[0,1,4,5,6]
abbrev smT (i:Nat):List (Nat×LV):=[(0,.ptr 0 0),(1,.ptr 3 0),(5,.ptr 6 0),(6,.int .i64 i)]
abbrev smH (most:Int) (d:Nat) (cs:List LV) (n m:Nat) (c f:List LV):List LB:=[.cells [.int .i64 most,.slo 1 0 d 0] none,.obj lvF cs 9,.dead,.cells [.int .i64 most,.slo 4 0 d 0] none,.obj orF cs 10,.dead,.cells [.slo 7 0 n 0,.slo 8 0 m 0] none,.cells c (some 2),.cells f (some 1),.dead,.dead]
theorem sm_a (most:Int) (d:Nat) (cs:List LV) (K:Pk):(xsp prog cxs 60 66 (seg (sp prog 8) 0 3) (tm0 [.ptr 0 0,.ptr 3 0]) (mkS (doI most d cs)) (vK smL K))=(
 ck (okR most cs d) <|
 ck (isF orF orF) <|
 K .normal [.ptr 0 0,.ptr 3 0,.bool false,.ptr 10 0,.int .i64 0] [sN [.int .i64 most,.slo 1 0 d 0],some (.obj lvF cs 2),sD,sN [.int .i64 most,.slo 4 0 d 0],some (.obj orF cs 9),sD,sD,sC (lcC cs) 2,sC (lwC cs) 1,sD,sN [.slo 7 0 (lcN cs) 0,.slo 8 0 (lwN cs) 0]] []):=by kernel_rfl
abbrev sm_b_b1 (most:Int) (d:Nat) (n:Nat) (m:Nat) (cs:List LV) (c:List LV) (f:List LV):List (Option LB):=[sN [.int .i64 most,.slo 1 0 d 0],some (.obj lvF cs 11),sD,sN [.int .i64 most,.slo 4 0 d 0],some (.obj orF cs 12),sD,sN [.slo 7 0 n 0,.slo 8 0 m 0],sC c 2,sC f 1,sD,sD,sD,sD]
theorem sm_b (most:Int) (d i n m:Nat) (cs c f:List LV) (K:Pk):(xcode prog cxs 60 66 (loopOf (nthC (sp prog 8) 3)) (mkTm 66 (smT i)) (mkS (smH most d cs n m c f)) (vK smL K))=(
 bif xcm .leq (↑i) 21 then(
 ck (okR most cs d) <|
 ck (isF lvF lvF) <|
 ck (okR most cs d) <|
 ck (isF orF orF) <|
 bif xcm .neq (lgV cs ↑i) (lgV cs ↑i) then(
 K .ret [.ptr 0 0,.ptr 3 0,.bool false,.ptr 6 0,.int .i64 ↑i] (sm_b_b1 most d n m cs c f) [])
 else(
 bif xnot (xbq (lgB cs ↑i) (lgB cs ↑i)) then(
 K .ret [.ptr 0 0,.ptr 3 0,.bool false,.ptr 6 0,.int .i64 ↑i] (sm_b_b1 most d n m cs c f) [])
 else(
 K .normal [.ptr 0 0,.ptr 3 0,.any,.ptr 6 0,.int .i64 (xar .add .i64 (↑i) 1)] (sm_b_b1 most d n m cs c f) [])))
 else(
 K (.exit 0) [.ptr 0 0,.ptr 3 0,.any,.ptr 6 0,.int .i64 ↑i] [sN [.int .i64 most,.slo 1 0 d 0],some (.obj lvF cs 9),sD,sN [.int .i64 most,.slo 4 0 d 0],some (.obj orF cs 10),sD,sN [.slo 7 0 n 0,.slo 8 0 m 0],sC c 2,sC f 1,sD,sD] [])):=by kernel_rfl
abbrev sm_o_b1 (most:Int) (d:Nat) (n:Nat) (m:Nat) (cs:List LV) (c:List LV) (f:List LV):List (Option LB):=[sN [.int .i64 most,.slo 1 0 d 0],some (.obj lvF cs 14),sD,sN [.int .i64 most,.slo 4 0 d 0],some (.obj orF cs 10),sD,sN [.slo 7 0 n 0,.slo 8 0 m 0],sC c 2,sC f 1,sD,sD,sC (lcC cs) 2,sD,sC (lwC cs) 1,sD]
theorem sm_o (most:Int) (d i n m:Nat) (cs c f:List LV) (K:Pk):(xorders prog cxs 60 66 (nthC (sp prog 8) 4) (mkTm 66 (smT i)) (mkS (smH most d cs n m c f)) (vK smL K))=(
 ck (okR most cs d) <|
 ck (isF lvF lvF) <|
 ck (okC (lcC cs) (lcN cs)) <|
 ck (okC c n) <|
 bif sameCCell (lcN cs) n (lcC cs) c then(
 ck (okR most cs d) <|
 ck (isF lvF lvF) <|
 ck (okIi64 (lwC cs) (lwN cs)) <|
 ck (okIi64 f m) <|
 bif sameIi64 (lwN cs) m (lwC cs) f then(
 bif xcm .eql ↑d ↑d then(
 ck (okR most cs d) <|
 ck (isF lvF lvF) <|
 ck (okR most cs d) <|
 ck (isF orF orF) <|
 ck (xeq n n) <|
 ck (xeq n n) <|
 ck (xeq m m) <|
 ck (xeq m m) <|
 ck (xeq d d) <|
 ck (xeq d d) <|
 K .normal [.ptr 0 0,.ptr 3 0,.bool (xcm .eql (roomW most cs) (roomW most cs)),.ptr 6 0,.int .i64 ↑i] [sN [.int .i64 most,.slo 1 0 d 0],some (.obj lvF cs 15),sD,sN [.int .i64 most,.slo 4 0 d 0],some (.obj orF cs 16),sD,sN [.slo 7 0 n 0,.slo 8 0 m 0],sC c 2,sC f 1,sD,sD,sC (lcC cs) 2,sD,sC (lwC cs) 1,sD,sD,sD] [])
 else(
 ck (xeq n n) <|
 ck (xeq n n) <|
 ck (xeq m m) <|
 ck (xeq m m) <|
 ck (xeq d d) <|
 ck (xeq d d) <|
 K .normal [.ptr 0 0,.ptr 3 0,.bool false,.ptr 6 0,.int .i64 ↑i] (sm_o_b1 most d n m cs c f) []))
 else(
 ck (xeq n n) <|
 ck (xeq n n) <|
 ck (xeq m m) <|
 ck (xeq m m) <|
 K .normal [.ptr 0 0,.ptr 3 0,.bool false,.ptr 6 0,.int .i64 ↑i] (sm_o_b1 most d n m cs c f) []))
 else(
 ck (xeq n n) <|
 ck (xeq n n) <|
 K .normal [.ptr 0 0,.ptr 3 0,.bool false,.ptr 6 0,.int .i64 ↑i] [sN [.int .i64 most,.slo 1 0 d 0],some (.obj lvF cs 12),sD,sN [.int .i64 most,.slo 4 0 d 0],some (.obj orF cs 10),sD,sN [.slo 7 0 n 0,.slo 8 0 m 0],sC c 2,sC f 1,sD,sD,sC (lcC cs) 2,sD] [])):=by kernel_rfl
end
end Go.Lev
