/- chapter 29: trees of the law of heaps -/
import Derived.Test.YtagmiaajpkpmjaaCJ14
import Derived.Test.YtagmiaajpkpmjaaLc
import Derived.Test.YtagmiaajpkpmjaaChecked
import Derived.KernelRfl
namespace Go.Lev
set_option linter.unusedSimpArgs false
set_option linter.unusedVariables false
open Go.RowKit
open Go.Proofs.Try (prog)
set_option maxRecDepth 100000
noncomputable section
abbrev siTu64 (n m k:Nat):List (Nat×LV):=[(0,.slo 0 0 n 0),(1,.slo 1 0 m 0),(5,.int .i64 k)]
abbrev siHu64 (cs ds:List LV):List LB:=[.cells cs (some 1),.cells ds (some 1)]
abbrev siLu64:List Nat:=[0,1,4,5]
theorem siu64_a (n m:Nat) (cs ds:List LV) (K:Pk):(xsp prog (fun _=>none) 40 26 (seg (sp prog 10) 0 4) (tm0 [.slo 0 0 n 0,.slo 1 0 m 0]) (mkS (siHu64 cs ds)) (vK siLu64 K))=(
 bif xcm .neq ↑n ↑m then(
 K .ret [.slo 0 0 n 0,.slo 1 0 m 0,.bool false,.tup []] [sC cs 1,sC ds 1] [])
 else(
 K .normal [.slo 0 0 n 0,.slo 1 0 m 0,.bool false,.int .i64 0] [sC cs 1,sC ds 1] [])):=by kernel_rfl
theorem siu64_b (n m k:Nat) (cs ds:List LV) (K:Pk):(xcode prog (fun _=>none) 40 26 (loopOf (nthC (sp prog 10) 4)) (mkTm 26 (siTu64 n m k)) (mkS (siHu64 cs ds)) (vK siLu64 K))=(
 bif xcm .lss ↑k ↑n then(
 ck (xle (xadd (xnat ↑k) 1) n) <|
 ck (xle (xadd (xix 0 (xnat ↑k) 1) 1) (xln cs)) <|
 ck (isI .u64 (nthD cs (xix 0 (xnat ↑k) 1))) <|
 ck (xle (xadd (xnat ↑k) 1) m) <|
 ck (xle (xadd (xix 0 (xnat ↑k) 1) 1) (xln ds)) <|
 ck (isI .u64 (nthD ds (xix 0 (xnat ↑k) 1))) <|
 bif xcm .neq (asI (nthD cs (xix 0 (xnat ↑k) 1))) (asI (nthD ds (xix 0 (xnat ↑k) 1))) then(
 K .ret [.slo 0 0 n 0,.slo 1 0 m 0,.bool false,.int .i64 ↑k] [sC cs 1,sC ds 1] [])
 else(
 K .normal [.slo 0 0 n 0,.slo 1 0 m 0,.any,.int .i64 (xar .add .i64 (↑k) 1)] [sC cs 1,sC ds 1] []))
 else(
 K (.exit 0) [.slo 0 0 n 0,.slo 1 0 m 0,.any,.int .i64 ↑k] [sC cs 1,sC ds 1] [])):=by kernel_rfl
theorem siu64_z (cs ds:List LV) (K:Pk):(xsp prog (fun _=>none) 40 26 ((sp prog 10).drop 5) (mkTm 26 []) (mkS (siHu64 cs ds)) (vK siLu64 K))=(
 K .ret [.any,.any,.bool true,.any] [sC cs 1,sC ds 1] []):=by kernel_rfl
open Classical in
def sameIu64 (n m:Nat) (cs ds:List LV):Bool:=@decide (n=m∧cs=ds) (Classical.propDecidable _)
theorem sameIu64_self (n:Nat) (cs:List LV):sameIu64 n n cs cs=true:=by simp [sameIu64]
theorem sameIu64_ok (xs ys:List Int) (hn:xs.length≤9223372036854775807) (hm:ys.length≤9223372036854775807):SFun prog 10 [.slo 0 0 xs.length 0,.slo 1 0 ys.length 0] (mkS (siHu64 (encL (cI .u64) xs) (encL (cI .u64) ys)))
  fun l s=>l=.bool (sameIu64 xs.length ys.length (encL (cI .u64) xs) (encL (cI .u64) ys))∧s=mkS (siHu64 (encL (cI .u64) xs) (encL (cI .u64) ys)):=by
 refine SFun.mono (SFun.pieces (Q:=fun l b=>l=.bool (sameIu64 xs.length ys.length (encL (cI .u64) xs) (encL (cI .u64) ys))∧b=siHu64 (encL (cI .u64) xs) (encL (cI .u64) ys)) 26 2 siLu64 [4] (by kernel_rfl) rfl rfl rfl ?_) fun l s' ⟨b0,⟨h1,h2⟩,h3⟩=>⟨h1,by rw [h3,h2]⟩
 have nx:=noIds_Iu64 xs
 have ny:=noIds_Iu64 ys
 have hinj:∀ a b:List Int,encL (cI .u64) a=encL (cI .u64) b→a=b:=fun a b h=>by rw [← decIu64_enc a,h,decIu64_enc]
 refine SSp.to noCx_ok (n:=40) (g:=[]) 4 4 rfl (σ:={_k:Unit // xs.length=ys.length}) (fun _=>siTu64 xs.length ys.length 0) (fun _=>siHu64 (encL (cI .u64) xs) (encL (cI .u64) ys)) (mkS_le (Nat.le_refl _)) (by kernel_rfl) ?_ fun⟨_,hnm⟩=>?_
 ·rw [siu64_a,wd_neq]
  by_cases e:xs.length=ys.length
  ·simp only [e,decide_true,Bool.not_true,cond_false]
   exact⟨rfl,⟨(),e⟩,[.id 0,.id 1],by(exact zC)⟩
  ·simp only [e,decide_false,Bool.not_false,cond_true]
   have hs:sameIu64 xs.length ys.length (encL (cI .u64) xs) (encL (cI .u64) ys)=false:=by simp only [sameIu64,decide_eq_false_iff_not]; exact fun k=>e k.1
   exact⟨trivial,rfl,_,_,[.id 0,.id 1],⟨rfl,rfl⟩,by rw [hs]; (exact zC)⟩
 refine SSp.code_to (g:=[]) 5 rfl (σ:={_k:Unit // xs=ys}) (fun _=>[]) (fun _=>siHu64 (encL (cI .u64) xs) (encL (cI .u64) ys)) (by kernel_rfl) ?_ fun⟨_,hall⟩=>?_
 ·refine SCode.loop_vc noCx_ok (n:=40) 0 (by kernel_rfl) (σ:={k:Nat // k≤xs.length∧∀ i (h:i < xs.length) (h':i < ys.length),i < k→xs[i]=ys[i]}) (fun k=>siTu64 xs.length ys.length k.1) (fun _=>siHu64 (encL (cI .u64) xs) (encL (cI .u64) ys)) (fun k=>xs.length - k.1) (fun _=>Nat.le_refl _) (fun⟨k,hk,hall⟩=>?_) ⟨0,Nat.zero_le _,fun i _ _ hi=>absurd hi (by omega)⟩
  dsimp only
  rw [siu64_b,wd_lss]
  refine ite_way (fun h0=>?_) (fun h0=>⟨rfl,⟨(),List.ext_getElem hnm fun i h1 h2=>hall i h1 h2 (by omega)⟩,[.id 0,.id 1],by(exact zC)⟩)
  have h1:k < ys.length:=by omega
  (refine zN5 (encIu64_nth h0) (encIu64_nth h1) @encIu64_len (inc_i64 h0 hn) @xcm_neq ?_)
  (repeat (with_reducible refine must (by(first | with_reducible rfl | exact t_le (by omega) | exact t_eq (by omega) | exact t_nn (by omega) | exact t_lss (by omega) | exact t_leq (by omega) | exact t_gtr (by omega) | exact t_geq (by omega) | exact t_eql (by omega) | exact t_neq (by omega) | exact t_z (by omega) | exact wd_not_f | assumption)) ?_))
  by_cases e:xs[k]=ys[k]
  ·simp only [e,decide_true,Bool.not_true,cond_false]
   exact⟨rfl,⟨k+1,h0,fun i h2 h3 hi=>by rcases Nat.lt_succ_iff_lt_or_eq.1 hi with hi | rfl; exact hall i h2 h3 hi; exact e⟩,by simp only; omega,[.id 0,.id 1],by(exact zC)⟩
  ·have hs:sameIu64 xs.length ys.length (encL (cI .u64) xs) (encL (cI .u64) ys)=false:=by
    simp only [sameIu64,decide_eq_false_iff_not]
    intro q
    have:=hinj _ _ q.2
    subst this
    exact e rfl
   simp only [e,decide_false,Bool.not_false,cond_true]
   exact⟨trivial,rfl,_,_,[.id 0,.id 1],⟨rfl,rfl⟩,by rw [hs]; (exact zC)⟩
 refine SSp.last noCx_ok (n:=40) (mkS_le (Nat.le_refl _)) ?_
 rw [siu64_z]
 have hs:sameIu64 xs.length ys.length (encL (cI .u64) xs) (encL (cI .u64) ys)=true:=by
  simp only [sameIu64,decide_eq_true_eq]; exact⟨hnm,by rw [hall]⟩
 exact⟨trivial,rfl,_,_,[.id 0,.id 1],⟨rfl,rfl⟩,by rw [hs]; (exact zC)⟩
def sameIu64G:Gc:=fun args s=>match args with
 | [.slo b 0 n 0,.slo c 0 m 0]=>(match s.h.get b,s.h.get c,s.g with
   | some (.cells cs (some 1)),some (.cells ds (some 1)),[]=>cond (Nat.beq b c) none (some ([okIu64 cs n,okIu64 ds m],.bool (sameIu64 n m cs ds),s))
   | _,_,_=>none)
 | _=>none
theorem sameIu64G_ok:GOk prog 10 sameIu64G:=by
 intro args s bs l s' hg hb hfr
 unfold sameIu64G at hg
 split at hg
 ·rename_i b n c m
  split at hg
  ·rename_i cs ds hb1 hc1 hgl
   cases hbc:Nat.beq b c with
   | true=>rw [hbc] at hg; cases hg
   | false =>
     rw [hbc] at hg
     simp only [cond_false,Option.some.injEq,Prod.mk.injEq] at hg
     obtain⟨rfl,rfl,rfl⟩:=hg
     obtain⟨k1,k2⟩:=allT_cons.1 hb
     obtain⟨xs,rfl,rfl,h1⟩:=okIu64_iff.1 k1
     obtain⟨ys,rfl,rfl,h2⟩:=okIu64_iff.1 (allT_cons.1 k2).1
     have nx:=noIds_Iu64 xs
     have ny:=noIds_Iu64 ys
     refine SFun.lift_ro (ρ:=[b,c]) (bs:=siHu64 (encL (cI .u64) xs) (encL (cI .u64) ys)) (args0:=[.slo 0 0 xs.length 0,.slo 1 0 ys.length 0]) hfr (by simp [beq_ne hbc]) ⟨⟨there hfr hb1,_,hb1,by(exact zBk),fun κ hκ=>by(exact zBk)⟩,⟨there hfr hc1,_,hc1,by(exact zBk),fun κ hκ=>by(exact zBk)⟩,trivial⟩ (by(exact zTl)) rfl ?_
     rw [hgl]
     exact sameIu64_ok xs ys h1 h2
  ·cases hg
 ·cases hg
def cxq2:Cx:=cxl [(7,odG),(9,hpG),(10,wrapG sameIu64G)]
abbrev wS:List Code:=sp prog 4
abbrev wL:List Nat:=[1,4,5,6,8,9,10,11,12]
abbrev wT0 (w m:Nat):List (Nat×LV):=[(1,.slo 1 0 w 0),(5,.slo 2 0 m 0)]
abbrev wT (m L i:Nat):List (Nat×LV):=[(5,.slo 0 0 m 0),(6,.slo 1 0 m 0),(8,.slo 2 0 L 0),(9,.slo 3 0 L 0),(10,.int .i64 i)]
abbrev wT2 (m L i k:Nat):List (Nat×LV):=[(5,.slo 0 0 m 0),(6,.slo 1 0 m 0),(8,.slo 2 0 L 0),(9,.slo 3 0 L 0),(10,.int .i64 i),(11,.ptr 4 0),(12,.int .i64 k)]
abbrev wH (ax ox lx wx:List LV):List LB:=[.ro ax,.cells ox (some 1),.cells lx (some 1),.cells wx (some 1)]
abbrev wA (k b e s:Int) (x y:Value):List LV:=[.int .i64 0,.int .i64 0,.int .i64 0,.bool false,.int .i64 k,.int .i64 0,.int .u64 0,.int .u64 s,.int .i64 b,.int .i64 e,.val x,.val y,.val (.slice none 0 0),.str []]
abbrev wH2 (ax ox lx wx:List LV) (k b e s:Int) (x y:Value):List LB:=[.ro ax,.cells ox (some 1),.cells lx (some 1),.cells wx (some 1),.cells (wA k b e s x y) none]
abbrev wB:List Code:=spineL (loopOf (nthC wS 12))
abbrev wC:List Code:=spineL (blockIn (nthC wB 2))
theorem cxq2_ok:CtrOk prog (ctrOf cxq2):=cxl_ok ⟨odG_ok,hpG_ok,wrapG_ok sameIu64G_ok,trivial⟩
theorem lw_1 (n w:Nat) (dx wx:List LV) (F:World→Prop) (K:Pk):(xsp prog cxl1 60 105 (seg wS 0 6) (tm0 [.slo 0 0 n 0,.slo 1 0 w 0]) (mkS [.ro dx,.ro wx] (factG F)) (vK wL K))=(
 bif xcm .gtr (↑w) 100 then(
 K .ret [.slo 1 0 w 0,.bool true,.tup [],.tup [],.tup [],.tup [],.tup [],.tup [],.tup []] [some (.ro dx),some (.ro wx)] (factG F))
 else(
 ck (okDr F dx n) <|
 K .normal [.slo 1 0 w 0,.bool false,.slo 2 0 (m20 n) 0,.tup [],.tup [],.tup [],.tup [],.tup [],.tup []] [some (.ro dx),some (.ro wx),some (.obj atF [.int .i64 (Int.ofNat (m20 n))] 3),sD] (factG F))):=by kernel_rfl
theorem lw_0 (n w:Nat) (dx wx:List LV) (F:World→Prop) (K:Pk):(xsp prog cxl0 60 105 (seg wS 0 6) (tm0 [.slo 0 0 n 0,.slo 1 0 w 0]) (mkS [.ro dx,.ro wx] (factG F)) (vK wL K))=(
 bif xcm .gtr (↑w) 100 then(
 K .ret [.slo 1 0 w 0,.bool true,.tup [],.tup [],.tup [],.tup [],.tup [],.tup [],.tup []] [some (.ro dx),some (.ro wx)] (factG F))
 else(
 ck (okN0 dx) <|
 ck (xle n 0) <|
 K .normal [.slo 1 0 w 0,.bool false,.slo 2 0 0 0,.tup [],.tup [],.tup [],.tup [],.tup [],.tup []] [some (.ro dx),some (.ro wx),sC [] 14,sD,sD,sD] (factG F))):=by kernel_rfl
abbrev lw_b_b1 (m:Nat) (dx:List LV) (wx:List LV) (ax:List LV) (F:World→Prop):List (Option LB):=[some (.ro dx),some (.ro wx),some (.ro ax),sD,sD,sD,sC (orW ax m) 1,sC (hpW F ax wx m 0) 1,sC (hpW F ax wx m ↑m) 1]
theorem lw_b (w m:Nat) (dx wx ax:List LV) (F:World→Prop) (K:Pk):(xsp prog cxq2 60 105 (seg wS 6 6) (mkTm 105 (wT0 w m)) (mkS [.ro dx,.ro wx,.ro ax,.dead,.dead,.dead] (factG F)) (vK wL K))=(
 ck (okAt ax m) <|
 ck (okIu64 wx w) <|
 ck (okH F ax m) <|
 ck (xcm .leq 0 (Int.ofNat m)) <|
 ck (okIu64 wx w) <|
 ck (okH F ax m) <|
 ck (xcm .leq 0 ↑m) <|
 ck (xcm .leq (↑m) (Int.ofNat m)) <|
 bif xcm .neq ↑m ↑m then(
 K .ret [.slo 1 0 w 0,.bool false,.slo 2 0 m 0,.slo 6 0 m 0,.slo 8 0 (clN w) 0,.any,.any,.any,.any] (lw_b_b1 m dx wx ax F) (factG F))
 else(
 bif xcm .neq ↑(clN w) ↑(clN w) then(
 K .ret [.slo 1 0 w 0,.bool false,.slo 2 0 m 0,.slo 6 0 m 0,.slo 8 0 (clN w) 0,.any,.any,.any,.any] (lw_b_b1 m dx wx ax F) (factG F))
 else(
 bif xcm .lss (↑(clN w)) 32 then(
 K .ret [.slo 1 0 w 0,.bool false,.slo 2 0 m 0,.slo 6 0 m 0,.slo 8 0 (clN w) 0,.any,.any,.any,.any] (lw_b_b1 m dx wx ax F) (factG F))
 else(
 ck (xle (xadd 0 (xmul (clN w) 1)) (xln (hpW F ax wx m 0))) <|
 ck (xle (xmul (clN w) 8) 140737488355328) <|
 ck (xle (clN w) 140737488355328) <|
 K .normal [.slo 1 0 w 0,.any,.slo 2 0 m 0,.slo 6 0 m 0,.slo 8 0 (clN w) 0,.slo 9 0 (clN w) 0,.int .i64 0,.any,.any] [some (.ro dx),some (.ro wx),some (.ro ax),sD,sD,sD,sC (orW ax m) 1,sC (hpW F ax wx m 0) 1,sC (hpW F ax wx m ↑m) 1,sC (xcut (hpW F ax wx m 0) 0 (xmul (clN w) 1)) 1] (factG F))))):=by kernel_rfl
theorem lw_c (m L i:Nat) (ax ox lx wx:List LV) (F:World→Prop) (K:Pk):(xsp prog cxq2 60 105 (seg wB 0 2) (mkTm 105 (wT m L i)) (mkS (wH ax ox lx wx) (factG F)) (vK wL K))=(
 bif xcm .lss ↑i ↑m then(
 K .normal [.any,.any,.slo 0 0 m 0,.slo 1 0 m 0,.slo 2 0 L 0,.slo 3 0 L 0,.int .i64 ↑i,.any,.any] [some (.ro ax),sC ox 1,sC lx 1,sC wx 1] (factG F))
 else(
 K (.exit 0) [.any,.any,.slo 0 0 m 0,.slo 1 0 m 0,.slo 2 0 L 0,.slo 3 0 L 0,.int .i64 ↑i,.any,.any] [some (.ro ax),sC ox 1,sC lx 1,sC wx 1] (factG F))):=by kernel_rfl
theorem lw_d (m L i:Nat) (ax ox lx wx:List LV) (F:World→Prop) (K:Pk):(xsp prog cxq2 60 105 (seg wC 0 4) (mkTm 105 (wT m L i)) (mkS (wH ax ox lx wx) (factG F)) (vK wL K))=(
 ck (xle (xadd (xnat ↑i) 1) m) <|
 ck (xle (xadd (xix 0 (xnat ↑i) 1) 1) (xln ox)) <|
 ck (isI .i64 (nthD ox (xix 0 (xnat ↑i) 1))) <|
 bif xcm .lss (asI (nthD ox (xix 0 (xnat ↑i) 1))) 0 then(
 K .ret [.any,.bool false,.slo 0 0 m 0,.slo 1 0 m 0,.slo 2 0 L 0,.slo 3 0 L 0,.int .i64 ↑i,.any,.any] [some (.ro ax),sC ox 1,sC lx 1,sC wx 1] (factG F))
 else(
 ck (xle (xadd (xnat ↑i) 1) m) <|
 ck (xle (xadd (xix 0 (xnat ↑i) 1) 1) (xln ox)) <|
 ck (isI .i64 (nthD ox (xix 0 (xnat ↑i) 1))) <|
 bif xcm .geq (asI (nthD ox (xix 0 (xnat ↑i) 1))) ↑m then(
 K .ret [.any,.bool false,.slo 0 0 m 0,.slo 1 0 m 0,.slo 2 0 L 0,.slo 3 0 L 0,.int .i64 ↑i,.any,.any] [some (.ro ax),sC ox 1,sC lx 1,sC wx 1] (factG F))
 else(
 ck (xle (xadd (xnat ↑i) 1) m) <|
 ck (xle (xadd (xix 0 (xnat ↑i) 1) 1) (xln ox)) <|
 ck (isI .i64 (nthD ox (xix 0 (xnat ↑i) 1))) <|
 ck (xnn (asI (nthD ox (xix 0 (xnat ↑i) 1)))) <|
 ck (xle (xadd (xnat (asI (nthD ox (xix 0 (xnat ↑i) 1)))) 1) m) <|
 ck (xle (xadd (xix 0 (xnat (asI (nthD ox (xix 0 (xnat ↑i) 1)))) 14) 14) (xln ax)) <|
 ck (isI .i64 (nthD ax (xix 0 (xnat (asI (nthD ox (xix 0 (xnat ↑i) 1)))) 14))) <|
 ck (isI .i64 (nthD ax (xadd (xix 0 (xnat (asI (nthD ox (xix 0 (xnat ↑i) 1)))) 14) 1))) <|
 ck (isI .i64 (nthD ax (xadd (xadd (xix 0 (xnat (asI (nthD ox (xix 0 (xnat ↑i) 1)))) 14) 1) 1))) <|
 ck (isB (nthD ax (xadd (xadd (xadd (xix 0 (xnat (asI (nthD ox (xix 0 (xnat ↑i) 1)))) 14) 1) 1) 1))) <|
 ck (isI .i64 (nthD ax (xadd (xadd (xadd (xadd (xix 0 (xnat (asI (nthD ox (xix 0 (xnat ↑i) 1)))) 14) 1) 1) 1) 1))) <|
 ck (isI .i64 (nthD ax (xadd (xadd (xadd (xadd (xadd (xix 0 (xnat (asI (nthD ox (xix 0 (xnat ↑i) 1)))) 14) 1) 1) 1) 1) 1))) <|
 ck (isI .u64 (nthD ax (xadd (xadd (xadd (xadd (xadd (xadd (xix 0 (xnat (asI (nthD ox (xix 0 (xnat ↑i) 1)))) 14) 1) 1) 1) 1) 1) 1))) <|
 ck (isI .u64 (nthD ax (xadd (xadd (xadd (xadd (xadd (xadd (xadd (xix 0 (xnat (asI (nthD ox (xix 0 (xnat ↑i) 1)))) 14) 1) 1) 1) 1) 1) 1) 1))) <|
 ck (isI .i64 (nthD ax (xadd (xadd (xadd (xadd (xadd (xadd (xadd (xadd (xix 0 (xnat (asI (nthD ox (xix 0 (xnat ↑i) 1)))) 14) 1) 1) 1) 1) 1) 1) 1) 1))) <|
 ck (isI .i64 (nthD ax (xadd (xadd (xadd (xadd (xadd (xadd (xadd (xadd (xadd (xix 0 (xnat (asI (nthD ox (xix 0 (xnat ↑i) 1)))) 14) 1) 1) 1) 1) 1) 1) 1) 1) 1))) <|
 ck (isV (nthD ax (xadd (xadd (xadd (xadd (xadd (xadd (xadd (xadd (xadd (xadd (xix 0 (xnat (asI (nthD ox (xix 0 (xnat ↑i) 1)))) 14) 1) 1) 1) 1) 1) 1) 1) 1) 1) 1))) <|
 ck (isV (nthD ax (xadd (xadd (xadd (xadd (xadd (xadd (xadd (xadd (xadd (xadd (xadd (xix 0 (xnat (asI (nthD ox (xix 0 (xnat ↑i) 1)))) 14) 1) 1) 1) 1) 1) 1) 1) 1) 1) 1) 1))) <|
 ck (isV (nthD ax (xadd (xadd (xadd (xadd (xadd (xadd (xadd (xadd (xadd (xadd (xadd (xadd (xix 0 (xnat (asI (nthD ox (xix 0 (xnat ↑i) 1)))) 14) 1) 1) 1) 1) 1) 1) 1) 1) 1) 1) 1) 1))) <|
 ck (isS (nthD ax (xadd (xadd (xadd (xadd (xadd (xadd (xadd (xadd (xadd (xadd (xadd (xadd (xadd (xix 0 (xnat (asI (nthD ox (xix 0 (xnat ↑i) 1)))) 14) 1) 1) 1) 1) 1) 1) 1) 1) 1) 1) 1) 1) 1))) <|
 K .normal [.any,.any,.slo 0 0 m 0,.slo 1 0 m 0,.slo 2 0 L 0,.slo 3 0 L 0,.int .i64 ↑i,.ptr 4 0,.int .i64 0] [some (.ro ax),sC ox 1,sC lx 1,sC wx 1,sN [.int .i64 (asI (nthD ax (xix 0 (xnat (asI (nthD ox (xix 0 (xnat ↑i) 1)))) 14))),.int .i64 (asI (nthD ax (xadd (xix 0 (xnat (asI (nthD ox (xix 0 (xnat ↑i) 1)))) 14) 1))),.int .i64 (asI (nthD ax (xadd (xadd (xix 0 (xnat (asI (nthD ox (xix 0 (xnat ↑i) 1)))) 14) 1) 1))),.bool (asB (nthD ax (xadd (xadd (xadd (xix 0 (xnat (asI (nthD ox (xix 0 (xnat ↑i) 1)))) 14) 1) 1) 1))),.int .i64 (asI (nthD ax (xadd (xadd (xadd (xadd (xix 0 (xnat (asI (nthD ox (xix 0 (xnat ↑i) 1)))) 14) 1) 1) 1) 1))),.int .i64 (asI (nthD ax (xadd (xadd (xadd (xadd (xadd (xix 0 (xnat (asI (nthD ox (xix 0 (xnat ↑i) 1)))) 14) 1) 1) 1) 1) 1))),.int .u64 (asI (nthD ax (xadd (xadd (xadd (xadd (xadd (xadd (xix 0 (xnat (asI (nthD ox (xix 0 (xnat ↑i) 1)))) 14) 1) 1) 1) 1) 1) 1))),.int .u64 (asI (nthD ax (xadd (xadd (xadd (xadd (xadd (xadd (xadd (xix 0 (xnat (asI (nthD ox (xix 0 (xnat ↑i) 1)))) 14) 1) 1) 1) 1) 1) 1) 1))),.int .i64 (asI (nthD ax (xadd (xadd (xadd (xadd (xadd (xadd (xadd (xadd (xix 0 (xnat (asI (nthD ox (xix 0 (xnat ↑i) 1)))) 14) 1) 1) 1) 1) 1) 1) 1) 1))),.int .i64 (asI (nthD ax (xadd (xadd (xadd (xadd (xadd (xadd (xadd (xadd (xadd (xix 0 (xnat (asI (nthD ox (xix 0 (xnat ↑i) 1)))) 14) 1) 1) 1) 1) 1) 1) 1) 1) 1))),.val (asV (nthD ax (xadd (xadd (xadd (xadd (xadd (xadd (xadd (xadd (xadd (xadd (xix 0 (xnat (asI (nthD ox (xix 0 (xnat ↑i) 1)))) 14) 1) 1) 1) 1) 1) 1) 1) 1) 1) 1))),.val (asV (nthD ax (xadd (xadd (xadd (xadd (xadd (xadd (xadd (xadd (xadd (xadd (xadd (xix 0 (xnat (asI (nthD ox (xix 0 (xnat ↑i) 1)))) 14) 1) 1) 1) 1) 1) 1) 1) 1) 1) 1) 1))),.val (asV (nthD ax (xadd (xadd (xadd (xadd (xadd (xadd (xadd (xadd (xadd (xadd (xadd (xadd (xix 0 (xnat (asI (nthD ox (xix 0 (xnat ↑i) 1)))) 14) 1) 1) 1) 1) 1) 1) 1) 1) 1) 1) 1) 1))),.str (asS (nthD ax (xadd (xadd (xadd (xadd (xadd (xadd (xadd (xadd (xadd (xadd (xadd (xadd (xadd (xix 0 (xnat (asI (nthD ox (xix 0 (xnat ↑i) 1)))) 14) 1) 1) 1) 1) 1) 1) 1) 1) 1) 1) 1) 1) 1)))]] (factG F)))):=by kernel_rfl
abbrev lw_e_b1 (ax:List LV) (ox:List LV) (lx:List LV) (wx:List LV) (a:Int) (b:Int) (e:Int) (s:Int) (x:Value) (y:Value):List (Option LB):=[some (.ro ax),sC ox 1,sC lx 1,sC wx 1,sN [.int .i64 0,.int .i64 0,.int .i64 0,.bool false,.int .i64 a,.int .i64 0,.int .u64 0,.int .u64 s,.int .i64 b,.int .i64 e,.val x,.val y,.val (Value.slice none 0 0),.str []]]
theorem lw_e (m L i k:Nat) (ax ox lx wx:List LV) (a b e s:Int) (x y:Value) (F:World→Prop) (K:Pk):(xcode prog cxq2 60 105 (loopOf (nthC wC 4)) (mkTm 105 (wT2 m L i k)) (mkS (wH2 ax ox lx wx a b e s x y) (factG F)) (vK wL K))=(
 bif xcm .eql a 2 then(
 bif xcm .lss ↑k ↑(xvl y) then(
 ck (xvix y (xnat ↑k)) <|
 ck (xvrok F y (xmul (xnat ↑k) 2) 1) <|
 ck (xle 1 (xln (xvrow F y (xmul (xnat ↑k) 2) 1))) <|
 ck (isI .i64 (nthD (xvrow F y (xmul (xnat ↑k) 2) 1) 0)) <|
 ck (xvix y (xnat ↑k)) <|
 ck (xvrok F y (xadd (xmul (xnat ↑k) 2) 1) 1) <|
 ck (xle 1 (xln (xvrow F y (xadd (xmul (xnat ↑k) 2) 1) 1))) <|
 ck (isI .u64 (nthD (xvrow F y (xadd (xmul (xnat ↑k) 2) 1) 1) 0)) <|
 ck (xnn (asI (nthD (xvrow F y (xmul (xnat ↑k) 2) 1) 0))) <|
 ck (xle (xadd (xnat (asI (nthD (xvrow F y (xmul (xnat ↑k) 2) 1) 0))) 1) L) <|
 ck (xle (xadd (xix 0 (xnat (asI (nthD (xvrow F y (xmul (xnat ↑k) 2) 1) 0))) 1) 1) (xln wx)) <|
 K .normal [.any,.any,.slo 0 0 m 0,.slo 1 0 m 0,.slo 2 0 L 0,.slo 3 0 L 0,.int .i64 ↑i,.ptr 4 0,.int .i64 (xar .add .i64 (↑k) 1)] [some (.ro ax),sC ox 1,sC lx 1,sC (xlay wx (xix 0 (xnat (asI (nthD (xvrow F y (xmul (xnat ↑k) 2) 1) 0))) 1) [.int .u64 (asI (nthD (xvrow F y (xadd (xmul (xnat ↑k) 2) 1) 1) 0))]) 1,sN [.int .i64 0,.int .i64 0,.int .i64 0,.bool false,.int .i64 a,.int .i64 0,.int .u64 0,.int .u64 s,.int .i64 b,.int .i64 e,.val x,.val y,.val (Value.slice none 0 0),.str []]] (factG F))
 else(
 K (.exit 2) [.any,.any,.slo 0 0 m 0,.slo 1 0 m 0,.slo 2 0 L 0,.slo 3 0 L 0,.int .i64 ↑i,.ptr 4 0,.int .i64 ↑k] (lw_e_b1 ax ox lx wx a b e s x y) (factG F)))
 else(
 K (.exit 2) [.any,.any,.slo 0 0 m 0,.slo 1 0 m 0,.slo 2 0 L 0,.slo 3 0 L 0,.int .i64 ↑i,.ptr 4 0,.int .i64 ↑k] (lw_e_b1 ax ox lx wx a b e s x y) (factG F))):=by kernel_rfl
theorem lw_f (m L i:Nat) (ax ox lx wx:List LV) (F:World→Prop) (K:Pk):(xsp prog cxq2 60 105 (wB.drop 3) (mkTm 105 (wT m L i)) (mkS (wH ax ox lx wx) (factG F)) (vK wL K))=(
 K .normal [.any,.any,.slo 0 0 m 0,.slo 1 0 m 0,.slo 2 0 L 0,.slo 3 0 L 0,.int .i64 (xar .add .i64 (↑i) 1),.any,.any] [some (.ro ax),sC ox 1,sC lx 1,sC wx 1] (factG F)):=by kernel_rfl
theorem lw_z (m L i:Nat) (ax ox lx wx:List LV) (F:World→Prop) (K:Pk):(xsp prog cxq2 60 105 (wS.drop 13) (mkTm 105 (wT m L i)) (mkS (wH ax ox lx wx) (factG F)) (vK wL K))=(
 ck (okIu64 lx L) <|
 ck (okIu64 wx L) <|
 K .ret [.any,.bool (sameIu64 L L lx wx),.slo 0 0 m 0,.slo 1 0 m 0,.slo 2 0 L 0,.slo 3 0 L 0,.int .i64 ↑i,.any,.any] [some (.ro ax),sC ox 1,sC lx 1,sC wx 1] (factG F)):=by kernel_rfl
end
end Go.Lev
