/- chapter 11: a view that knows all the words of a row of one's own -/
import Derived.Test.YtopbikapcboigaaCZ10
import Derived.Test.YtopbikapcboigaaLc
import Derived.Test.YtopbikapcboigaaChecked
import Derived.KernelRfl
namespace Go.Lev
set_option linter.unusedSimpArgs false
set_option linter.unusedVariables false
open Go.RowKit
open Go.Proofs.Try (prog)
set_option maxRecDepth 100000
noncomputable section
theorem held_x (n lo hi:Int) (K:Fk):(xfun prog (fun _=>none) 40 38 [.int .i64 n,.int .i64 lo,.int .i64 hi] (mkS []) (vF K))=(
 bif xcm .lss n lo then(
 K (.int .i64 lo) [] [])
 else(
 bif xcm .gtr n hi then(
 K (.int .i64 hi) [] [])
 else(
 K (.int .i64 n) [] []))):=by kernel_rfl
def hldV (n lo hi:Int):Int:=if n < lo then lo else if hi < n then hi else n
def heldG:Gc:=fun args s=>match args,s.g with
 | [.int .i64 n,.int .i64 lo,.int .i64 hi],[]=>some ([],.int .i64 (hldV n lo hi),s)
 | _,_=>none
theorem held_ok (n lo hi:Int):SFun prog 38 [.int .i64 n,.int .i64 lo,.int .i64 hi] (mkS []) fun l s=>l=.int .i64 (hldV n lo hi)∧s=mkS []:=by
 refine SFun.mono (SFun.vc (Q:=fun l b=>l=.int .i64 (hldV n lo hi)∧b=[]) noCx_ok (n:=40) 0 rfl ?_) fun l s' ⟨b0,⟨h1,h2⟩,h3⟩=>⟨h1,by rw [h3,h2]⟩
 rw [held_x]
 simp only [xcm_lss,xcm_gtr,hldV]
 refine ite_way (fun h0=>?_) (fun h0=>?_)
 ·rw [if_pos h0]; exact⟨rfl,_,[],[],⟨rfl,rfl⟩,by(exact zC)⟩
 rw [if_neg h0]
 refine ite_way (fun h1=>?_) (fun h1=>?_)
 ·rw [if_pos h1]; exact⟨rfl,_,[],[],⟨rfl,rfl⟩,by(exact zC)⟩
 ·rw [if_neg h1]; exact⟨rfl,_,[],[],⟨rfl,rfl⟩,by(exact zC)⟩
theorem heldG_ok:GOk prog 38 heldG:=by
 intro args s bs l s' hg hb hfr
 unfold heldG at hg
 split at hg
 ·rename_i a lo hi hgl
  simp only [Option.some.injEq,Prod.mk.injEq] at hg
  obtain⟨rfl,rfl,rfl⟩:=hg
  exact SFun.pure hfr hgl rfl rfl (held_ok a lo hi)
 ·cases hg
theorem hld_cl {n lo hi:Int} (h:lo≤hi):hldV n lo hi=xmn (xmx n lo) hi:=by
 simp only [hldV,wd_mn,wd_mx]; split <;> split <;> (try split) <;> omega
def decIu64:List LV→List Int
 | .int _ a::r=>a::decIu64 r
 | _=>[]
theorem decIu64_enc:∀ xs,decIu64 (encL (cI .u64) xs)=xs
 | []=>rfl
 | x::r=>by simp [encL,cI,decIu64,decIu64_enc r]
def okIu64 (cs:List LV) (n:Nat):Bool:=@decide (cs=encL (cI .u64) (decIu64 cs)∧(decIu64 cs).length=n∧n≤9223372036854775807) (Classical.propDecidable _)
theorem okIu64_iff {cs:List LV} {n:Nat}:okIu64 cs n=true↔∃ xs,cs=encL (cI .u64) xs∧xs.length=n∧n≤9223372036854775807:=by
 simp only [okIu64,decide_eq_true_eq]
 exact⟨fun h=>⟨_,h⟩,fun⟨xs,h1,h2⟩=>by subst h1; rw [decIu64_enc]; exact⟨rfl,h2⟩⟩
theorem okIu64_enc {xs:List Int} (h:xs.length≤9223372036854775807):okIu64 (encL (cI .u64) xs) xs.length=true:=okIu64_iff.2 ⟨_,rfl,rfl,h⟩
theorem encIu64_len (xs:List Int):(encL (cI .u64) xs).length=xs.length:=by rw [encL_length (cI_len .u64)]; omega
theorem encIu64_nth {xs:List Int} {i:Nat} (h:i < xs.length):nthD (encL (cI .u64) xs) i=.int .u64 xs[i]:=by
 have:=encL_nth (cI_len .u64) (j:=0) h (by omega)
 simp only [Nat.mul_one,Nat.add_zero] at this
 exact this
theorem noIds_Iu64 (xs:List Int):noIds (encL (cI .u64) xs)=true:=noIds_encL (fun _=>rfl) xs
theorem spW_enc (sz:Nat) (ks:CL):spW sz (encL cell ks)=encL (cI .i64) (spL sz ks):=by rw [spW,decC_enc]
def vhV (ws:List Int) (p:Nat):Int:=ws.getD p 0
def vhS (ws:List Int) (k:Nat):CL:=(List.range k).map fun j=>(((j+1:Nat):Int),vhV ws (j+1))
theorem vhS_len (ws:List Int) (k:Nat):(vhS ws k).length=k:=by simp [vhS]
theorem vhS_succ (ws:List Int) (k:Nat):vhS ws (k+1)=vhS ws k++[(((k+1:Nat):Int),vhV ws (k+1))]:=by simp [vhS,List.range_succ]
theorem vhS_no (ws:List Int) (k:Nat):fndV (vhS ws k) ((k+1:Nat):Int)=none:=fndV_no fun j hj=>by
 rw [vhS_len] at hj
 simp [vhS]; omega
theorem spL_nil (sz:Nat):spL sz []=List.replicate sz 0:=by
 refine List.ext_getElem (by simp [spL]) fun i h1 h2=>?_
 simp [spL,fnd]
def szF (n:Nat):Nat:=min (max n 32) 256
theorem szF_b (n:Nat):32≤szF n∧szF n≤256:=by unfold szF; omega
theorem szF_x (n:Nat):xmn (xmx (n:Int) 32) 256=(szF n:Int):=by unfold szF; simp only [wd_mn,wd_mx]; split <;> (try split) <;> omega
theorem szF_h (n:Nat):hldV (n:Int) 32 256=(szF n:Int):=by rw [hld_cl (by omega),szF_x]
def szQ (n:Nat):Nat:=szF n
def vhN (n:Nat):Nat:=szF n - 1
def vhC (ws:List LV) (n:Nat):List LV:=encL cell (vhS (decIu64 ws) (szF n - 1))
def cxw1:Cx:=cxl [(62,lnewG),(27,knG),(63,onewG),(38,heldG)]
abbrev wgL:List Nat:=[0,4,5,6]
abbrev wgT (n a:Nat):List (Nat×LV):=[(0,.slo 0 0 n 0),(5,.ptr 1 0),(6,.int .i64 a)]
abbrev wgH (ws:List LV) (sz k:Nat) (kc sc:List LV) (most:Int) (cs:List LV):List LB:=[.cells ws (some 1),.cells [.slo 2 0 k 0,.slo 3 0 sz 0,.int .i64 0,.ptr 4 0] none,.cells kc (some 2),.cells sc (some 1),.cells [.int .i64 most,.slo 5 0 1 0] none,.obj lvF cs 6,.dead]
abbrev xgH (ws:List LV) (sz k:Nat) (kc:List LV) (most:Int) (cs:List LV):List LB:=[.cells ws (some 1),.cells [.int .i64 sz,.slo 2 0 k 0,.ptr 3 0,.int .i64 0] none,.cells kc (some 2),.cells [.int .i64 most,.slo 4 0 1 0] none,.obj orF cs 5,.dead]
theorem wg_a (n:Nat) (most:Int) (ws:List LV) (K:Pk):(xsp prog cxw1 40 32 (seg (sp prog 10) 0 3) (tm0 [.slo 0 0 n 0,.int .i64 most]) (mkS [.cells ws (some 1)]) (vK wgL K))=(
 ck (xnn (xmn (xmx (↑n) 32) 256)) <|
 ck (xnn (xmn (xmx (↑n) 32) 256)) <|
 ck (xle (xnat (xmn (xmx (↑n) 32) 256)) (xnat (xmn (xmx (↑n) 32) 256))) <|
 ck (xle (xnat (xmn (xmx (↑n) 32) 256)) 100000) <|
 K .normal [.slo 0 0 n 0,.nilp,.ptr 5 0,.int .i64 1] [sC ws 1,sN [.int .i64 (xmn (xmx most 0) 96),.slo 2 0 1 0],some (.obj lvF [.tup [.agg [],.agg []]] 3),sD,sN (xrep (xnat (xmn (xmx (↑n) 32) 256)) [.int .i64 0]),sN [.nils,.sl 4 0 (xnat (xmn (xmx (↑n) 32) 256)) (xnat (xmn (xmx (↑n) 32) 256)),.int .i64 0,.ptr 1 0]] []):=by kernel_rfl
theorem wg_b (n a sz k:Nat) (ws kc sc:List LV) (most:Int) (cs:List LV) (K:Pk):(xcode prog cxw1 40 32 (loopOf (nthC (sp prog 10) 3)) (mkTm 32 (wgT n a)) (mkS (wgH ws sz k kc sc most cs)) (vK wgL K))=(
 bif xcm .lss ↑a ↑sz then(
 bif xcm .lss ↑a ↑n then(
 ck (xle (xadd (xnat ↑a) 1) n) <|
 ck (xle (xadd (xix 0 (xnat ↑a) 1) 1) (xln ws)) <|
 ck (isI .u64 (nthD ws (xix 0 (xnat ↑a) 1))) <|
 ck (okK sz k kc) <|
 ck (eqL sc (spW sz kc)) <|
 ck (isF lvF lvF) <|
 K .normal [.slo 0 0 n 0,.any,.ptr 1 0,.int .i64 (xar .add .i64 (↑a) 1)] [sC ws 1,sN [.slo 7 0 (knNW sz kc (↑a) (asI (nthD ws (xix 0 (xnat ↑a) 1)))) 0,.slo 3 0 sz 0,.int .i64 0,.ptr 4 0],sD,sC (spW sz (knCW sz kc (↑a) (asI (nthD ws (xix 0 (xnat ↑a) 1))))) 1,sN [.int .i64 most,.slo 5 0 1 0],some (.obj lvF cs 6),sD,sC (knCW sz kc (↑a) (asI (nthD ws (xix 0 (xnat ↑a) 1)))) 2] [])
 else(
 ck (okK sz k kc) <|
 ck (eqL sc (spW sz kc)) <|
 ck (isF lvF lvF) <|
 K .normal [.slo 0 0 n 0,.any,.ptr 1 0,.int .i64 (xar .add .i64 (↑a) 1)] [sC ws 1,sN [.slo 7 0 (knNW sz kc (↑a) 0) 0,.slo 3 0 sz 0,.int .i64 0,.ptr 4 0],sD,sC (spW sz (knCW sz kc (↑a) 0)) 1,sN [.int .i64 most,.slo 5 0 1 0],some (.obj lvF cs 6),sD,sC (knCW sz kc (↑a) 0) 2] []))
 else(
 K (.exit 0) [.slo 0 0 n 0,.any,.ptr 1 0,.int .i64 ↑a] [sC ws 1,sN [.slo 2 0 k 0,.slo 3 0 sz 0,.int .i64 0,.ptr 4 0],sC kc 2,sC sc 1,sN [.int .i64 most,.slo 5 0 1 0],some (.obj lvF cs 6),sD] [])):=by kernel_rfl
theorem wg_z (n a sz k:Nat) (ws kc sc:List LV) (most:Int) (cs:List LV) (K:Pk):(xsp prog cxw1 40 32 ((sp prog 10).drop 4) (mkTm 32 (wgT n a)) (mkS (wgH ws sz k kc sc most cs)) (vK wgL K))=(
 K .ret [.slo 0 0 n 0,.ptr 1 0,.ptr 1 0,.int .i64 ↑a] [sC ws 1,sN [.slo 2 0 k 0,.slo 3 0 sz 0,.int .i64 0,.ptr 4 0],sC kc 2,sC sc 1,sN [.int .i64 most,.slo 5 0 1 0],some (.obj lvF cs 6),sD] []):=by kernel_rfl
theorem xg_a (n:Nat) (most:Int) (ws:List LV) (K:Pk):(xsp prog cxw1 40 41 (seg (sp prog 20) 0 3) (tm0 [.slo 0 0 n 0,.int .i64 most]) (mkS [.cells ws (some 1)]) (vK wgL K))=(
 K .normal [.slo 0 0 n 0,.nilp,.ptr 4 0,.int .i64 1] [sC ws 1,sN [.int .i64 (xmn (xmx most 0) 96),.slo 2 0 1 0],some (.obj orF [.tup [.agg [],.agg []]] 3),sD,sN [.int .i64 (hldV (↑n) 32 256),.nils,.ptr 1 0,.int .i64 0]] []):=by kernel_rfl
theorem xg_b (n a sz k:Nat) (ws kc:List LV) (most:Int) (cs:List LV) (K:Pk):(xcode prog cxw1 40 41 (loopOf (nthC (sp prog 20) 3)) (mkTm 41 (wgT n a)) (mkS (xgH ws sz k kc most cs)) (vK wgL K))=(
 bif xcm .lss ↑a ↑sz then(
 bif xcm .lss ↑a ↑n then(
 ck (xle (xadd (xnat ↑a) 1) n) <|
 ck (xle (xadd (xix 0 (xnat ↑a) 1) 1) (xln ws)) <|
 ck (isI .u64 (nthD ws (xix 0 (xnat ↑a) 1))) <|
 ck (xle (xadd k 1) 1000000) <|
 ck (xle (xadd 0 (xmul k 2)) (xln kc)) <|
 K .normal [.slo 0 0 n 0,.any,.ptr 1 0,.int .i64 (xar .add .i64 (↑a) 1)] [sC ws 1,sN [.int .i64 ↑sz,.slo 7 0 (xadd k 1) 0,.ptr 3 0,.int .i64 0],sD,sN [.int .i64 most,.slo 4 0 1 0],some (.obj orF cs 5),sD,sN [.int .i64 ↑a,.int .u64 (asI (nthD ws (xix 0 (xnat ↑a) 1)))],sC (xcat (xcut kc 0 (xmul k 2)) [.int .i64 ↑a,.int .u64 (asI (nthD ws (xix 0 (xnat ↑a) 1)))]) 2] [])
 else(
 ck (xle (xadd k 1) 1000000) <|
 ck (xle (xadd 0 (xmul k 2)) (xln kc)) <|
 K .normal [.slo 0 0 n 0,.any,.ptr 1 0,.int .i64 (xar .add .i64 (↑a) 1)] [sC ws 1,sN [.int .i64 ↑sz,.slo 7 0 (xadd k 1) 0,.ptr 3 0,.int .i64 0],sD,sN [.int .i64 most,.slo 4 0 1 0],some (.obj orF cs 5),sD,sN [.int .i64 ↑a,.int .u64 0],sC (xcat (xcut kc 0 (xmul k 2)) [.int .i64 ↑a,.int .u64 0]) 2] []))
 else(
 K (.exit 0) [.slo 0 0 n 0,.any,.ptr 1 0,.int .i64 ↑a] [sC ws 1,sN [.int .i64 ↑sz,.slo 2 0 k 0,.ptr 3 0,.int .i64 0],sC kc 2,sN [.int .i64 most,.slo 4 0 1 0],some (.obj orF cs 5),sD] [])):=by kernel_rfl
theorem xg_z (n a sz k:Nat) (ws kc:List LV) (most:Int) (cs:List LV) (K:Pk):(xsp prog cxw1 40 41 ((sp prog 20).drop 4) (mkTm 41 (wgT n a)) (mkS (xgH ws sz k kc most cs)) (vK wgL K))=(
 K .ret [.slo 0 0 n 0,.ptr 1 0,.ptr 1 0,.int .i64 ↑a] [sC ws 1,sN [.int .i64 ↑sz,.slo 2 0 k 0,.ptr 3 0,.int .i64 0],sC kc 2,sN [.int .i64 most,.slo 4 0 1 0],some (.obj orF cs 5),sD] []):=by kernel_rfl
theorem cxw1_ok:CtrOk prog (ctrOf cxw1):=cxl_ok ⟨lnewG_ok,knG_ok,onewG_ok,heldG_ok,trivial⟩
theorem okK_wh (ws:List Int) (sz k:Nat) (h:sz≤256) (hk:k≤256):OkK sz (vhS ws k):=⟨by rw [vhS_len]; omega,h⟩
set_option maxHeartbeats 1000000 in
theorem wg_ok (us:List Int) (hn:us.length≤1000000) (most:Int):SFun prog 10 [.slo 0 0 us.length 0,.int .i64 most] (mkS [.cells (encL (cI .u64) us) (some 1)]) fun l t=>l=.ptr 1 0∧t=mkS (wgH (encL (cI .u64) us) (szF us.length) (szF us.length - 1) (encL cell (vhS us (szF us.length - 1))) (encL (cI .i64) (spL (szF us.length) (vhS us (szF us.length - 1)))) (xmn (xmx most 0) 96) newC):=by
 refine SFun.mono (SFun.pieces (Q:=fun l b=>l=.ptr 1 0∧b=wgH (encL (cI .u64) us) (szF us.length) (szF us.length - 1) (encL cell (vhS us (szF us.length - 1))) (encL (cI .i64) (spL (szF us.length) (vhS us (szF us.length - 1)))) (xmn (xmx most 0) 96) newC) 32 1 wgL [4] (by kernel_rfl) rfl rfl rfl ?_) fun l s' ⟨b0,⟨h1,h2⟩,h3⟩=>⟨h1,by rw [h3,h2]⟩
 have nu:=noIds_Iu64 us; have lu:=encIu64_len us
 have ex:=szF_x us.length
 obtain⟨hz1,hz2⟩:=szF_b us.length
 generalize szF us.length=sz at *
 have f1:=isF_self lvF
 refine SSp.to cxw1_ok (n:=40) (g:=[]) 3 3 rfl (σ:=Unit) (fun _=>wgT us.length 1) (fun _=>wgH (encL (cI .u64) us) sz 0 [] (encL (cI .i64) (spL sz [])) (xmn (xmx most 0) 96) newC) (mkS_le (Nat.le_of_ble_eq_true rfl)) (by kernel_rfl) ?_ fun _=>?_
 ·have er:xrep sz [.int .i64 0]=encL (cI .i64) (spL sz []):=by rw [spL_nil]; exact encL_rep (f:=cI .i64) (0:Int) sz
  have ns:=noIds_Ii64 (spL sz []); have lr:=spL_n sz []
  have lr2:(encL (cI .i64) (spL sz [])).length=sz * 1:=by omega
  rw [wg_a,ex]
  (refine zN1 @er ?_)
  (refine zR ?_)
  exact⟨rfl,(),[.id 0,.id 5,.none,.cap 4 0 sz,.id 1,.id 2,.id 3],by(exact zC)⟩
 generalize xmn (xmx most 0) 96=most
 refine SSp.code_to (g:=[]) 4 rfl (σ:=Unit) (fun _=>wgT us.length sz) (fun _=>wgH (encL (cI .u64) us) sz (sz - 1) (encL cell (vhS us (sz - 1))) (encL (cI .i64) (spL sz (vhS us (sz - 1)))) most newC) (by kernel_rfl) ?_ fun _=>?_
 ·refine SCode.loop_vc cxw1_ok (n:=40) 0 (by kernel_rfl) (σ:={k:Nat // k+1≤sz}) (fun k=>wgT us.length (k.1+1)) (fun k=>wgH (encL (cI .u64) us) sz k.1 (encL cell (vhS us k.1)) (encL (cI .i64) (spL sz (vhS us k.1))) most newC) (fun k=>sz - k.1) (fun _=>Nat.le_of_ble_eq_true rfl) (fun⟨k,hk⟩=>?_) ⟨0,by omega⟩
  dsimp only
  have nk:=noids_c (vhS us k); have ns:=noIds_Ii64 (spL sz (vhS us k))
  have okk:okK sz k (encL cell (vhS us k))=true:=by have:=okK_enc (okK_wh us sz k hz2 (by omega)); rwa [vhS_len] at this
  rw [wg_b]
  by_cases c:k+1 < sz
  ·have i3:xar .add .i64 ((k+1:Nat):Int) 1=((k+1+1:Nat):Int):=inc_i64 c (by omega)
   have eC:∀ x,x=vhV us (k+1)→knC sz (vhS us k) ((k+1:Nat):Int) x=vhS us (k+1):=fun x hx=>by
    rw [knC,if_pos ⟨⟨by omega,by omega⟩,vhS_no us k⟩,hx,vhS_succ]
   have nk2:=noids_c (vhS us (k+1)); have ns2:=noIds_Ii64 (spL sz (vhS us (k+1)))
   have l2:=vhS_len us (k+1)
   by_cases c2:k+1 < us.length
   ·have ev:us[k+1]=vhV us (k+1):=by rw [vhV,List.getD_eq_getElem?_getD,List.getElem?_eq_getElem c2]; rfl
    (refine zN6 (encIu64_nth c2) @lu @i3 @okk @eqL_self @f1 ?_)
    simp only [knNW,knCW,spW_enc,decC_enc,eC _ ev,l2,eqL_self,cond_true]
    (refine zR ?_)
    exact⟨rfl,⟨k+1,by omega⟩,by simp only; omega,[.id 0,.id 1,.id 7,.id 3,.id 4,.id 5,.id 6],by(exact zC)⟩
   ·have ev:(0:Int)=vhV us (k+1):=by rw [vhV,List.getD_eq_getElem?_getD,List.getElem?_eq_none (by omega)]; rfl
    (refine zN5 @lu @i3 @okk @eqL_self @f1 ?_)
    simp only [knNW,knCW,spW_enc,decC_enc,eC _ ev,l2,eqL_self,cond_true]
    (refine zR ?_)
    exact⟨rfl,⟨k+1,by omega⟩,by simp only; omega,[.id 0,.id 1,.id 7,.id 3,.id 4,.id 5,.id 6],by(exact zC)⟩
  ·obtain rfl:sz=k+1:=by omega
   (refine zR ?_)
   exact⟨rfl,(),[.id 0,.id 1,.id 2,.id 3,.id 4,.id 5,.id 6],by(exact zC)⟩
 have nk:=noids_c (vhS us (sz - 1)); have ns:=noIds_Ii64 (spL sz (vhS us (sz - 1)))
 refine SSp.last cxw1_ok (n:=40) (mkS_le (Nat.le_of_ble_eq_true rfl)) ?_
 rw [wg_z]
 exact⟨trivial,rfl,_,_,[.id 0,.id 1,.id 2,.id 3,.id 4,.id 5,.id 6],⟨rfl,rfl⟩,by(exact zC)⟩
set_option maxHeartbeats 1000000 in
theorem xg_ok (us:List Int) (hn:us.length≤1000000) (most:Int):SFun prog 20 [.slo 0 0 us.length 0,.int .i64 most] (mkS [.cells (encL (cI .u64) us) (some 1)]) fun l t=>l=.ptr 1 0∧t=mkS (xgH (encL (cI .u64) us) (szF us.length) (szF us.length - 1) (encL cell (vhS us (szF us.length - 1))) (xmn (xmx most 0) 96) newC):=by
 refine SFun.mono (SFun.pieces (Q:=fun l b=>l=.ptr 1 0∧b=xgH (encL (cI .u64) us) (szF us.length) (szF us.length - 1) (encL cell (vhS us (szF us.length - 1))) (xmn (xmx most 0) 96) newC) 41 1 wgL [4] (by kernel_rfl) rfl rfl rfl ?_) fun l s' ⟨b0,⟨h1,h2⟩,h3⟩=>⟨h1,by rw [h3,h2]⟩
 have nu:=noIds_Iu64 us; have lu:=encIu64_len us
 have ex:=szF_h us.length
 obtain⟨hz1,hz2⟩:=szF_b us.length
 generalize szF us.length=sz at *
 refine SSp.to cxw1_ok (n:=40) (g:=[]) 3 3 rfl (σ:=Unit) (fun _=>wgT us.length 1) (fun _=>xgH (encL (cI .u64) us) sz 0 [] (xmn (xmx most 0) 96) newC) (mkS_le (Nat.le_of_ble_eq_true rfl)) (by kernel_rfl) ?_ fun _=>?_
 ·rw [xg_a,ex]
  exact⟨rfl,(),[.id 0,.id 4,.none,.id 1,.id 2,.id 3],by(exact zC)⟩
 generalize xmn (xmx most 0) 96=most
 refine SSp.code_to (g:=[]) 4 rfl (σ:=Unit) (fun _=>wgT us.length sz) (fun _=>xgH (encL (cI .u64) us) sz (sz - 1) (encL cell (vhS us (sz - 1))) most newC) (by kernel_rfl) ?_ fun _=>?_
 ·refine SCode.loop_vc cxw1_ok (n:=40) 0 (by kernel_rfl) (σ:={k:Nat // k+1≤sz}) (fun k=>wgT us.length (k.1+1)) (fun k=>xgH (encL (cI .u64) us) sz k.1 (encL cell (vhS us k.1)) most newC) (fun k=>sz - k.1) (fun _=>Nat.le_of_ble_eq_true rfl) (fun⟨k,hk⟩=>?_) ⟨0,by omega⟩
  dsimp only
  have nk:=noids_c (vhS us k); have lk:=cell_n (vhS us k); have wl:=vhS_len us k
  rw [xg_b]
  by_cases c:k+1 < sz
  ·have i3:xar .add .i64 ((k+1:Nat):Int) 1=((k+1+1:Nat):Int):=inc_i64 c (by omega)
   have nk2:=noids_c (vhS us (k+1))
   have ep:∀ x,x=vhV us (k+1)→xcat (xcut (encL cell (vhS us k)) 0 (k * 2)) [.int .i64 ((k+1:Nat):Int),.int .u64 x]=encL cell (vhS us (k+1)):=fun x hx=>by
    have:=cell_push (vhS us k) ((k+1:Nat):Int) x
    rw [wl] at this; rw [this,hx,vhS_succ]
   by_cases c2:k+1 < us.length
   ·have ev:us[k+1]=vhV us (k+1):=by rw [vhV,List.getD_eq_getElem?_getD,List.getElem?_eq_getElem c2]; rfl
    (refine zN5 (encIu64_nth c2) @lu @i3 @lk @wl ?_)
    simp only [ep _ ev]
    (refine zR ?_)
    exact⟨rfl,⟨k+1,by omega⟩,by simp only; omega,[.id 0,.id 1,.id 7,.id 3,.id 4,.id 5],by(exact zC)⟩
   ·have ev:(0:Int)=vhV us (k+1):=by rw [vhV,List.getD_eq_getElem?_getD,List.getElem?_eq_none (by omega)]; rfl
    (refine zN4 @lu @i3 @lk @wl ?_)
    simp only [ep _ ev]
    (refine zR ?_)
    exact⟨rfl,⟨k+1,by omega⟩,by simp only; omega,[.id 0,.id 1,.id 7,.id 3,.id 4,.id 5],by(exact zC)⟩
  ·obtain rfl:sz=k+1:=by omega
   (refine zR ?_)
   exact⟨rfl,(),[.id 0,.id 1,.id 2,.id 3,.id 4,.id 5],by(exact zC)⟩
 have nk:=noids_c (vhS us (sz - 1))
 refine SSp.last cxw1_ok (n:=40) (mkS_le (Nat.le_of_ble_eq_true rfl)) ?_
 rw [xg_z]
 exact⟨trivial,rfl,_,_,[.id 0,.id 1,.id 2,.id 3,.id 4,.id 5],⟨rfl,rfl⟩,by(exact zC)⟩
end
end Go.Lev
