/- chapter 22: ModelGives: comparisons -/
import Derived.Test.YtbeolgofafknmaaGreatDoorCR10
import Derived.Test.YtbeolgofafknmaaGreatDoorLc
import Derived.Test.YtbeolgofafknmaaGreatDoorChecked
import Derived.KernelRfl
namespace Go.Lev
set_option linter.unusedSimpArgs false
set_option linter.unusedVariables false
open Go.RowKit
open Go.Proofs.Tryz (prog)
set_option maxRecDepth 100000
noncomputable section
abbrev scTCell (n m k:Nat):List (Nat×LV):=[(0,.slo 0 0 n 0),(1,.slo 1 0 m 0),(5,.int .i64 k)]
abbrev scHCell (cs ds:List LV):List LB:=[.cells cs (some 2),.cells ds (some 2)]
abbrev scLCell:List Nat:=[0,1,4,5]
theorem scCell_a (n m:Nat) (cs ds:List LV) (K:Pk):(xsp prog (fun _=>none) 40 26 (seg (sp prog 18) 0 4) (tm0 [.slo 0 0 n 0,.slo 1 0 m 0]) (mkS (scHCell cs ds)) (vK scLCell K))=(
 bif xcm .neq ↑n ↑m then(
 K .ret [.slo 0 0 n 0,.slo 1 0 m 0,.bool false,.tup []] [sC cs 2,sC ds 2] [])
 else(
 K .normal [.slo 0 0 n 0,.slo 1 0 m 0,.bool false,.int .i64 0] [sC cs 2,sC ds 2] [])):=by kernel_rfl
theorem scCell_b (n m k:Nat) (cs ds:List LV) (K:Pk):(xcode prog (fun _=>none) 40 26 (loopOf (nthC (sp prog 18) 4)) (mkTm 26 (scTCell n m k)) (mkS (scHCell cs ds)) (vK scLCell K))=(
 bif xcm .lss ↑k ↑n then(
 ck (xle (xadd (xnat ↑k) 1) n) <|
 ck (xle (xadd (xix 0 (xnat ↑k) 2) 2) (xln cs)) <|
 ck (isI .i64 (nthD cs (xix 0 (xnat ↑k) 2))) <|
 ck (isI .u64 (nthD cs (xadd (xix 0 (xnat ↑k) 2) 1))) <|
 ck (xle (xadd (xnat ↑k) 1) m) <|
 ck (xle (xadd (xix 0 (xnat ↑k) 2) 2) (xln ds)) <|
 ck (isI .i64 (nthD ds (xix 0 (xnat ↑k) 2))) <|
 ck (isI .u64 (nthD ds (xadd (xix 0 (xnat ↑k) 2) 1))) <|
 bif xnot (xand (xcm .eql (asI (nthD cs (xix 0 (xnat ↑k) 2))) (asI (nthD ds (xix 0 (xnat ↑k) 2)))) (xand (xcm .eql (asI (nthD cs (xadd (xix 0 (xnat ↑k) 2) 1))) (asI (nthD ds (xadd (xix 0 (xnat ↑k) 2) 1)))) true)) then(
 K .ret [.slo 0 0 n 0,.slo 1 0 m 0,.bool false,.int .i64 ↑k] [sC cs 2,sC ds 2] [])
 else(
 K .normal [.slo 0 0 n 0,.slo 1 0 m 0,.any,.int .i64 (xar .add .i64 (↑k) 1)] [sC cs 2,sC ds 2] []))
 else(
 K (.exit 0) [.slo 0 0 n 0,.slo 1 0 m 0,.any,.int .i64 ↑k] [sC cs 2,sC ds 2] [])):=by kernel_rfl
theorem scCell_z (cs ds:List LV) (K:Pk):(xsp prog (fun _=>none) 40 26 ((sp prog 18).drop 5) (mkTm 26 []) (mkS (scHCell cs ds)) (vK scLCell K))=(
 K .ret [.any,.any,.bool true,.any] [sC cs 2,sC ds 2] []):=by kernel_rfl
open Classical in
def sameCCell (n m:Nat) (cs ds:List LV):Bool:=@decide (n=m∧cs=ds) (Classical.propDecidable _)
theorem sameCCell_self (n:Nat) (cs:List LV):sameCCell n n cs cs=true:=by simp [sameCCell]
theorem sameCCell_ok (xs ys:List (Int×Int)) (hn:xs.length≤9223372036854775807) (hm:ys.length≤9223372036854775807):SFun prog 18 [.slo 0 0 xs.length 0,.slo 1 0 ys.length 0] (mkS (scHCell (encL cell xs) (encL cell ys)))
  fun l s=>l=.bool (sameCCell xs.length ys.length (encL cell xs) (encL cell ys))∧s=mkS (scHCell (encL cell xs) (encL cell ys)):=by
 refine SFun.mono (SFun.pieces (Q:=fun l b=>l=.bool (sameCCell xs.length ys.length (encL cell xs) (encL cell ys))∧b=scHCell (encL cell xs) (encL cell ys)) 26 2 scLCell [4] (by kernel_rfl) rfl rfl rfl ?_) fun l s' ⟨b0,⟨h1,h2⟩,h3⟩=>⟨h1,by rw [h3,h2]⟩
 have nx:=noids_c xs
 have ny:=noids_c ys
 have hinj:∀ a b:List (Int×Int),encL cell a=encL cell b→a=b:=fun a b h=>by rw [← decC_enc a,h,decC_enc]
 refine SSp.to noCx_ok (n:=40) (g:=[]) 4 4 rfl (σ:={_k:Unit // xs.length=ys.length}) (fun _=>scTCell xs.length ys.length 0) (fun _=>scHCell (encL cell xs) (encL cell ys)) (mkS_le (Nat.le_refl _)) (by kernel_rfl) ?_ fun⟨_,hnm⟩=>?_
 ·rw [scCell_a,wd_neq]
  by_cases e:xs.length=ys.length
  ·simp only [e,decide_true,Bool.not_true,cond_false]
   exact⟨rfl,⟨(),e⟩,[.id 0,.id 1],by(exact zC)⟩
  ·simp only [e,decide_false,Bool.not_false,cond_true]
   have hs:sameCCell xs.length ys.length (encL cell xs) (encL cell ys)=false:=by simp only [sameCCell,decide_eq_false_iff_not]; exact fun k=>e k.1
   exact⟨trivial,rfl,_,_,[.id 0,.id 1],⟨rfl,rfl⟩,by rw [hs]; (exact zC)⟩
 refine SSp.code_to (g:=[]) 5 rfl (σ:={_k:Unit // xs=ys}) (fun _=>[]) (fun _=>scHCell (encL cell xs) (encL cell ys)) (by kernel_rfl) ?_ fun⟨_,hall⟩=>?_
 ·refine SCode.loop_vc noCx_ok (n:=40) 0 (by kernel_rfl) (σ:={k:Nat // k≤xs.length∧∀ i (h:i < xs.length) (h':i < ys.length),i < k→xs[i]=ys[i]}) (fun k=>scTCell xs.length ys.length k.1) (fun _=>scHCell (encL cell xs) (encL cell ys)) (fun k=>xs.length - k.1) (fun _=>Nat.le_refl _) (fun⟨k,hk,hall⟩=>?_) ⟨0,Nat.zero_le _,fun i _ _ hi=>absurd hi (by omega)⟩
  dsimp only
  rw [scCell_b,wd_lss]
  refine ite_way (fun h0=>?_) (fun h0=>⟨rfl,⟨(),List.ext_getElem hnm fun i h1 h2=>hall i h1 h2 (by omega)⟩,[.id 0,.id 1],by(exact zC)⟩)
  have h1:k < ys.length:=by omega
  (refine zN7 (cell_0 h0) (cell_0 h1) (cell_1 h0) (cell_1 h1) @cell_n (inc_i64 h0 hn) @xcm_eql ?_)
  (repeat (with_reducible refine must (by(first | with_reducible rfl | exact t_le (by omega) | exact t_eq (by omega) | exact t_nn (by omega) | exact t_lss (by omega) | exact t_leq (by omega) | exact t_gtr (by omega) | exact t_geq (by omega) | exact t_eql (by omega) | exact t_neq (by omega) | exact t_z (by omega) | exact wd_not_f | assumption)) ?_))
  by_cases e:xs[k]=ys[k]
  ·simp only [e,decide_true,wd_and_t,wd_not_t,cond_false]
   exact⟨rfl,⟨k+1,h0,fun i h2 h3 hi=>by rcases Nat.lt_succ_iff_lt_or_eq.1 hi with hi | rfl; exact hall i h2 h3 hi; exact e⟩,by simp only; omega,[.id 0,.id 1],by(exact zC)⟩
  ·have hs:sameCCell xs.length ys.length (encL cell xs) (encL cell ys)=false:=by
    simp only [sameCCell,decide_eq_false_iff_not]
    intro q
    have:=hinj _ _ q.2
    subst this
    exact e rfl
   have ht:xnot (xand (decide (xs[k].1=ys[k].1)) (xand (decide (xs[k].2=ys[k].2)) true))=true:=by
    by_cases e1:xs[k].1=ys[k].1
    ·have e2:xs[k].2≠ys[k].2:=fun e2=>e (Prod.ext e1 e2)
     simp only [e1,e2,decide_true,decide_false]; rfl
    ·simp only [e1,decide_false]; rfl
   rw [ht,cond_true]
   exact⟨trivial,rfl,_,_,[.id 0,.id 1],⟨rfl,rfl⟩,by rw [hs]; (exact zC)⟩
 refine SSp.last noCx_ok (n:=40) (mkS_le (Nat.le_refl _)) ?_
 rw [scCell_z]
 have hs:sameCCell xs.length ys.length (encL cell xs) (encL cell ys)=true:=by
  simp only [sameCCell,decide_eq_true_eq]; exact⟨hnm,by rw [hall]⟩
 exact⟨trivial,rfl,_,_,[.id 0,.id 1],⟨rfl,rfl⟩,by rw [hs]; (exact zC)⟩
def sameCCellG:Gc:=fun args s=>match args with
 | [.slo b 0 n 0,.slo c 0 m 0]=>(match s.h.get b,s.h.get c,s.g with
   | some (.cells cs (some 2)),some (.cells ds (some 2)),[]=>cond (Nat.beq b c) none (some ([okC cs n,okC ds m],.bool (sameCCell n m cs ds),s))
   | _,_,_=>none)
 | _=>none
theorem sameCCellG_ok:GOk prog 18 sameCCellG:=by
 intro args s bs l s' hg hb hfr
 unfold sameCCellG at hg
 split at hg
 ·rename_i b n c m
  split at hg
  ·rename_i cs ds hb1 hc1 hgl
   cases hbc:Nat.beq b c with
   | true=>rw [hbc] at hg; cases hg
   | false =>
     rw [hbc] at hg
     simp only [cond_false,Option.some.injEq,Prod.mk.injEq] at hg
     obtain⟨rfl,rfl,rfl⟩:=hg
     obtain⟨k1,k2⟩:=allT_cons.1 hb
     obtain⟨xs,rfl,rfl,h1⟩:=okC_iff.1 k1
     obtain⟨ys,rfl,rfl,h2⟩:=okC_iff.1 (allT_cons.1 k2).1
     have nx:=noids_c xs
     have ny:=noids_c ys
     refine SFun.lift_ro (ρ:=[b,c]) (bs:=scHCell (encL cell xs) (encL cell ys)) (args0:=[.slo 0 0 xs.length 0,.slo 1 0 ys.length 0]) hfr (by simp [beq_ne hbc]) ⟨⟨there hfr hb1,_,hb1,by(exact zBk),fun κ hκ=>by(exact zBk)⟩,⟨there hfr hc1,_,hc1,by(exact zBk),fun κ hκ=>by(exact zBk)⟩,trivial⟩ (by(exact zTl)) rfl ?_
     rw [hgl]
     exact sameCCell_ok xs ys h1 h2
  ·cases hg
 ·cases hg
abbrev siTu64 (n m k:Nat):List (Nat×LV):=[(0,.slo 0 0 n 0),(1,.slo 1 0 m 0),(5,.int .i64 k)]
abbrev siHu64 (cs ds:List LV):List LB:=[.cells cs (some 1),.cells ds (some 1)]
abbrev siLu64:List Nat:=[0,1,4,5]
theorem siu64_a (n m:Nat) (cs ds:List LV) (K:Pk):(xsp prog (fun _=>none) 40 26 (seg (sp prog 14) 0 4) (tm0 [.slo 0 0 n 0,.slo 1 0 m 0]) (mkS (siHu64 cs ds)) (vK siLu64 K))=(
 bif xcm .neq ↑n ↑m then(
 K .ret [.slo 0 0 n 0,.slo 1 0 m 0,.bool false,.tup []] [sC cs 1,sC ds 1] [])
 else(
 K .normal [.slo 0 0 n 0,.slo 1 0 m 0,.bool false,.int .i64 0] [sC cs 1,sC ds 1] [])):=by kernel_rfl
theorem siu64_b (n m k:Nat) (cs ds:List LV) (K:Pk):(xcode prog (fun _=>none) 40 26 (loopOf (nthC (sp prog 14) 4)) (mkTm 26 (siTu64 n m k)) (mkS (siHu64 cs ds)) (vK siLu64 K))=(
 bif xcm .lss ↑k ↑n then(
 ck (xle (xadd (xnat ↑k) 1) n) <|
 ck (xle (xadd (xix 0 (xnat ↑k) 1) 1) (xln cs)) <|
 ck (isI .u64 (nthD cs (xix 0 (xnat ↑k) 1))) <|
 ck (xle (xadd (xnat ↑k) 1) m) <|
 ck (xle (xadd (xix 0 (xnat ↑k) 1) 1) (xln ds)) <|
 ck (isI .u64 (nthD ds (xix 0 (xnat ↑k) 1))) <|
 bif xcm .neq (asI (nthD cs (xix 0 (xnat ↑k) 1))) (asI (nthD ds (xix 0 (xnat ↑k) 1))) then(
 K .ret [.slo 0 0 n 0,.slo 1 0 m 0,.bool false,.int .i64 ↑k] [sC cs 1,sC ds 1] [])
 else(
 K .normal [.slo 0 0 n 0,.slo 1 0 m 0,.any,.int .i64 (xar .add .i64 (↑k) 1)] [sC cs 1,sC ds 1] []))
 else(
 K (.exit 0) [.slo 0 0 n 0,.slo 1 0 m 0,.any,.int .i64 ↑k] [sC cs 1,sC ds 1] [])):=by kernel_rfl
theorem siu64_z (cs ds:List LV) (K:Pk):(xsp prog (fun _=>none) 40 26 ((sp prog 14).drop 5) (mkTm 26 []) (mkS (siHu64 cs ds)) (vK siLu64 K))=(
 K .ret [.any,.any,.bool true,.any] [sC cs 1,sC ds 1] []):=by kernel_rfl
open Classical in
def sameIu64 (n m:Nat) (cs ds:List LV):Bool:=@decide (n=m∧cs=ds) (Classical.propDecidable _)
theorem sameIu64_self (n:Nat) (cs:List LV):sameIu64 n n cs cs=true:=by simp [sameIu64]
theorem sameIu64_ok (xs ys:List Int) (hn:xs.length≤9223372036854775807) (hm:ys.length≤9223372036854775807):SFun prog 14 [.slo 0 0 xs.length 0,.slo 1 0 ys.length 0] (mkS (siHu64 (encL (cI .u64) xs) (encL (cI .u64) ys)))
  fun l s=>l=.bool (sameIu64 xs.length ys.length (encL (cI .u64) xs) (encL (cI .u64) ys))∧s=mkS (siHu64 (encL (cI .u64) xs) (encL (cI .u64) ys)):=by
 refine SFun.mono (SFun.pieces (Q:=fun l b=>l=.bool (sameIu64 xs.length ys.length (encL (cI .u64) xs) (encL (cI .u64) ys))∧b=siHu64 (encL (cI .u64) xs) (encL (cI .u64) ys)) 26 2 siLu64 [4] (by kernel_rfl) rfl rfl rfl ?_) fun l s' ⟨b0,⟨h1,h2⟩,h3⟩=>⟨h1,by rw [h3,h2]⟩
 have nx:=noIds_Iu64 xs
 have ny:=noIds_Iu64 ys
 have hinj:∀ a b:List Int,encL (cI .u64) a=encL (cI .u64) b→a=b:=fun a b h=>by rw [← decIu64_enc a,h,decIu64_enc]
 refine SSp.to noCx_ok (n:=40) (g:=[]) 4 4 rfl (σ:={_k:Unit // xs.length=ys.length}) (fun _=>siTu64 xs.length ys.length 0) (fun _=>siHu64 (encL (cI .u64) xs) (encL (cI .u64) ys)) (mkS_le (Nat.le_refl _)) (by kernel_rfl) ?_ fun⟨_,hnm⟩=>?_
 ·rw [siu64_a,wd_neq]
  by_cases e:xs.length=ys.length
  ·simp only [e,decide_true,Bool.not_true,cond_false]
   exact⟨rfl,⟨(),e⟩,[.id 0,.id 1],by(exact zC)⟩
  ·simp only [e,decide_false,Bool.not_false,cond_true]
   have hs:sameIu64 xs.length ys.length (encL (cI .u64) xs) (encL (cI .u64) ys)=false:=by simp only [sameIu64,decide_eq_false_iff_not]; exact fun k=>e k.1
   exact⟨trivial,rfl,_,_,[.id 0,.id 1],⟨rfl,rfl⟩,by rw [hs]; (exact zC)⟩
 refine SSp.code_to (g:=[]) 5 rfl (σ:={_k:Unit // xs=ys}) (fun _=>[]) (fun _=>siHu64 (encL (cI .u64) xs) (encL (cI .u64) ys)) (by kernel_rfl) ?_ fun⟨_,hall⟩=>?_
 ·refine SCode.loop_vc noCx_ok (n:=40) 0 (by kernel_rfl) (σ:={k:Nat // k≤xs.length∧∀ i (h:i < xs.length) (h':i < ys.length),i < k→xs[i]=ys[i]}) (fun k=>siTu64 xs.length ys.length k.1) (fun _=>siHu64 (encL (cI .u64) xs) (encL (cI .u64) ys)) (fun k=>xs.length - k.1) (fun _=>Nat.le_refl _) (fun⟨k,hk,hall⟩=>?_) ⟨0,Nat.zero_le _,fun i _ _ hi=>absurd hi (by omega)⟩
  dsimp only
  rw [siu64_b,wd_lss]
  refine ite_way (fun h0=>?_) (fun h0=>⟨rfl,⟨(),List.ext_getElem hnm fun i h1 h2=>hall i h1 h2 (by omega)⟩,[.id 0,.id 1],by(exact zC)⟩)
  have h1:k < ys.length:=by omega
  (refine zN5 (encIu64_nth h0) (encIu64_nth h1) @encIu64_len (inc_i64 h0 hn) @xcm_neq ?_)
  (repeat (with_reducible refine must (by(first | with_reducible rfl | exact t_le (by omega) | exact t_eq (by omega) | exact t_nn (by omega) | exact t_lss (by omega) | exact t_leq (by omega) | exact t_gtr (by omega) | exact t_geq (by omega) | exact t_eql (by omega) | exact t_neq (by omega) | exact t_z (by omega) | exact wd_not_f | assumption)) ?_))
  by_cases e:xs[k]=ys[k]
  ·simp only [e,decide_true,Bool.not_true,cond_false]
   exact⟨rfl,⟨k+1,h0,fun i h2 h3 hi=>by rcases Nat.lt_succ_iff_lt_or_eq.1 hi with hi | rfl; exact hall i h2 h3 hi; exact e⟩,by simp only; omega,[.id 0,.id 1],by(exact zC)⟩
  ·have hs:sameIu64 xs.length ys.length (encL (cI .u64) xs) (encL (cI .u64) ys)=false:=by
    simp only [sameIu64,decide_eq_false_iff_not]
    intro q
    have:=hinj _ _ q.2
    subst this
    exact e rfl
   simp only [e,decide_false,Bool.not_false,cond_true]
   exact⟨trivial,rfl,_,_,[.id 0,.id 1],⟨rfl,rfl⟩,by rw [hs]; (exact zC)⟩
 refine SSp.last noCx_ok (n:=40) (mkS_le (Nat.le_refl _)) ?_
 rw [siu64_z]
 have hs:sameIu64 xs.length ys.length (encL (cI .u64) xs) (encL (cI .u64) ys)=true:=by
  simp only [sameIu64,decide_eq_true_eq]; exact⟨hnm,by rw [hall]⟩
 exact⟨trivial,rfl,_,_,[.id 0,.id 1],⟨rfl,rfl⟩,by rw [hs]; (exact zC)⟩
def sameIu64G:Gc:=fun args s=>match args with
 | [.slo b 0 n 0,.slo c 0 m 0]=>(match s.h.get b,s.h.get c,s.g with
   | some (.cells cs (some 1)),some (.cells ds (some 1)),[]=>cond (Nat.beq b c) none (some ([okIu64 cs n,okIu64 ds m],.bool (sameIu64 n m cs ds),s))
   | _,_,_=>none)
 | _=>none
theorem sameIu64G_ok:GOk prog 14 sameIu64G:=by
 intro args s bs l s' hg hb hfr
 unfold sameIu64G at hg
 split at hg
 ·rename_i b n c m
  split at hg
  ·rename_i cs ds hb1 hc1 hgl
   cases hbc:Nat.beq b c with
   | true=>rw [hbc] at hg; cases hg
   | false =>
     rw [hbc] at hg
     simp only [cond_false,Option.some.injEq,Prod.mk.injEq] at hg
     obtain⟨rfl,rfl,rfl⟩:=hg
     obtain⟨k1,k2⟩:=allT_cons.1 hb
     obtain⟨xs,rfl,rfl,h1⟩:=okIu64_iff.1 k1
     obtain⟨ys,rfl,rfl,h2⟩:=okIu64_iff.1 (allT_cons.1 k2).1
     have nx:=noIds_Iu64 xs
     have ny:=noIds_Iu64 ys
     refine SFun.lift_ro (ρ:=[b,c]) (bs:=siHu64 (encL (cI .u64) xs) (encL (cI .u64) ys)) (args0:=[.slo 0 0 xs.length 0,.slo 1 0 ys.length 0]) hfr (by simp [beq_ne hbc]) ⟨⟨there hfr hb1,_,hb1,by(exact zBk),fun κ hκ=>by(exact zBk)⟩,⟨there hfr hc1,_,hc1,by(exact zBk),fun κ hκ=>by(exact zBk)⟩,trivial⟩ (by(exact zTl)) rfl ?_
     rw [hgl]
     exact sameIu64_ok xs ys h1 h2
  ·cases hg
 ·cases hg
end
end Go.Lev
