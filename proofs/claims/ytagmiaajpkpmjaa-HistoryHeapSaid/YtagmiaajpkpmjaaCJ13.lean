/- chapter 29: Apply as contracts; trees of Heap -/
import Derived.Test.YtagmiaajpkpmjaaCJ12
import Derived.Test.YtagmiaajpkpmjaaLc
import Derived.Test.YtagmiaajpkpmjaaChecked
import Derived.KernelRfl
namespace Go.Lev
set_option linter.unusedSimpArgs false
set_option linter.unusedVariables false
open Go.RowKit
open Go.Proofs.Try (prog)
set_option maxRecDepth 100000
noncomputable section
def decC:List LV→List (Int×Int)
 | .int _ a::.int _ b::r=>(a,b)::decC r
 | _=>[]
theorem decC_enc:∀ xs,decC (encL cell xs)=xs
 | []=>rfl
 | (a,b)::r=>by
   show(a,b)::decC (encL cell r)=_
   rw [decC_enc r]
theorem row_uniq {W:World} {v:Value} {xs ys:List (Int×Int)} (h1:RowArg W v xs.length (encL cell xs)) (h2:RowArg W v ys.length (encL cell ys)):xs=ys:=by
 have e:xs.length=ys.length:=by rw [← vlen_row h1,← vlen_row h2]
 have inj:encL cell xs=encL cell ys→xs=ys:=fun h=>by rw [← decC_enc xs,h,decC_enc]
 refine inj ?_
 have l1:=cell_n xs; have l2:=cell_n ys
 rcases Nat.eq_zero_or_pos xs.length with h0 | h0
 ·rw [List.length_eq_zero_iff.1 h0,List.length_eq_zero_iff.1 (by omega:ys.length=0)]
 ·have k1:=(vrow_eq (F:=fun W'=>W'=W) ⟨W,rfl⟩ (fun W' hW=>by subst hW; exact h1) (can_c xs) (k:=0) (m:=xs.length * 2) (by omega) (by omega)).2
  have k2:=(vrow_eq (F:=fun W'=>W'=W) ⟨W,rfl⟩ (fun W' hW=>by subst hW; exact h2) (can_c ys) (k:=0) (m:=xs.length * 2) (by omega) (by omega)).2
  rw [k1,List.drop_zero,List.drop_zero,List.take_of_length_le (by omega),List.take_of_length_le (by omega)] at k2
  exact k2
def okVs (F:World→Prop) (v:Value) (ys:List (Int×Int)):Prop:=(∃ W,F W)∧(∀ W,F W→RowArg W v ys.length (encL cell ys))∧ys.length≤1000
def csF (F:World→Prop) (v:Value):List (Int×Int):=match Classical.propDecidable (∃ ys,okVs F v ys) with
 | .isTrue h=>Classical.choose h
 | .isFalse _=>[]
def okV (F:World→Prop) (v:Value):Bool:=@decide (∃ ys,okVs F v ys) (Classical.propDecidable _)
theorem okV_iff {F:World→Prop} {v:Value}:okV F v=true↔∃ ys,okVs F v ys:=by simp only [okV,decide_eq_true_eq]
theorem csF_eq {F:World→Prop} {v:Value} {ys:List (Int×Int)} (h:okVs F v ys):csF F v=ys:=by
 have hp:∃ ys,okVs F v ys:=⟨ys,h⟩
 have hc:okVs F v (csF F v):=by
  unfold csF
  split
  ·rename_i h2 _; exact Classical.choose_spec h2
  ·rename_i h2 _; exact absurd hp h2
 obtain⟨⟨W,hW⟩,h2,_⟩:=h
 exact row_uniq (hc.2.1 W hW) (h2 W hW)
def hwC (ws:List LV):List LV:=encL (cI .u64) (hw0 (decIu64 ws))
def apV (F:World→Prop) (v:Value) (ws:List LV):List LV:=encL (cI .u64) (apN (hw0 (decIu64 ws)) (csF F v))
theorem apr_c (n:Nat) (ws:List LV) (F:World→Prop) (k1:okIu64 ws n=true):SFun prog 18 [.slo 0 0 n 0,.nils] (mkS [.ro ws] (factG F)) fun l s=>l=.slo 1 0 (clN n) 0∧s=mkS [.ro ws,.cells (hwC ws) (some 1)] (factG F):=by
 obtain⟨xs,rfl,rfl,_⟩:=okIu64_iff.1 k1
 rw [hwC,decIu64_enc]
 exact aqr_ok xs F
theorem apo_c (n:Nat) (ws:List LV) (v:Value) (F:World→Prop) (k1:okIu64 ws n=true) (k2:okV F v=true):SFun prog 18 [.slo 0 0 n 0,.val v] (mkS [.cells ws (some 1)] (factG F)) fun l s=>l=.slo 1 0 (clN n) 0∧s=mkS [.cells ws (some 1),.cells (apV F v ws) (some 1)] (factG F):=by
 obtain⟨xs,rfl,rfl,_⟩:=okIu64_iff.1 k1
 obtain⟨ys,hy⟩:=okV_iff.1 k2
 rw [apV,decIu64_enc,csF_eq hy]
 exact aqo_ok xs ys v F hy.1 hy.2.1 hy.2.2
theorem okIu_nd {ws:List LV} {n:Nat} (h:okIu64 ws n=true):noIds ws=true:=by
 obtain⟨xs,rfl,_,_⟩:=okIu64_iff.1 h; exact noIds_Iu64 xs
def aprG:Gc:=fun args s=>match args,s.g with
 | [.slo a 0 n 0,.nils],[(0,[.fact F])]=>(match s.h.get a with
   | some (.ro ws)=>(match s.lay [a] [.ro ws] [.cells (hwC ws) (some 1)] with
     | some s'=>some ([okIu64 ws n],.slo s.n 0 (clN n) 0,s')
     | none=>none)
   | _=>none)
 | _,_=>none
theorem aprG_ok:GOk prog 18 aprG:=by
 intro args s bs l s' hg hb hfr
 unfold aprG at hg
 split at hg
 ·rename_i a n F hgl
  split at hg
  ·rename_i ws hb0
   split at hg
   ·rename_i s1 hs1
    simp only [Option.some.injEq,Prod.mk.injEq] at hg
    obtain⟨rfl,rfl,rfl⟩:=hg
    simp only [allT_cons] at hb
    obtain⟨k1,_⟩:=hb
    have nw:noIds ws=true:=okIu_nd k1
    refine SFun.lay (bs:=[.ro ws]) (args0:=[.slo 0 0 n 0,.nils]) (bs':=[.ro ws,.cells (hwC ws) (some 1)]) (v0:=.slo 1 0 (clN n) 0) hfr hs1 (by simp)
     ⟨⟨there hfr hb0,_,hb0,lb_ro (by(exact zId)),fun κ hκ=>lb_ro (by(exact zId))⟩,trivial⟩ (by(exact zTl)) ?_
     fun κ h1 h2=>⟨⟨lb_ro (by(exact zId)),lb_same (noIds_Iu64 _),trivial⟩,lw_slo (h2 0 (by simp))⟩
    rw [hgl]; exact(apr_c n ws F k1)
   ·cases hg
  ·cases hg
 ·cases hg
def apoG:Gc:=fun args s=>match args,s.g with
 | [.slo a 0 n 0,.val v],[(0,[.fact F])]=>(match s.h.get a with
   | some (.cells ws (some 1))=>(match s.lay [a] [.cells ws (some 1)] [.cells (apV F v ws) (some 1)] with
     | some s'=>some ([okIu64 ws n,okV F v],.slo s.n 0 (clN n) 0,s')
     | none=>none)
   | _=>none)
 | _,_=>none
theorem apoG_ok:GOk prog 18 apoG:=by
 intro args s bs l s' hg hb hfr
 unfold apoG at hg
 split at hg
 ·rename_i a n v F hgl
  split at hg
  ·rename_i ws hb0
   split at hg
   ·rename_i s1 hs1
    simp only [Option.some.injEq,Prod.mk.injEq] at hg
    obtain⟨rfl,rfl,rfl⟩:=hg
    simp only [allT_cons] at hb
    obtain⟨k1,k2,_⟩:=hb
    have nw:noIds ws=true:=okIu_nd k1
    refine SFun.lay (bs:=[.cells ws (some 1)]) (args0:=[.slo 0 0 n 0,.val v]) (bs':=[.cells ws (some 1),.cells (apV F v ws) (some 1)]) (v0:=.slo 1 0 (clN n) 0) hfr hs1 (by simp)
     ⟨⟨there hfr hb0,_,hb0,lb_same (by(exact zId)),fun κ hκ=>lb_same (by(exact zId))⟩,trivial⟩ (by(exact zTl)) ?_
     fun κ h1 h2=>⟨⟨lb_same (by(exact zId)),lb_same (noIds_Iu64 _),trivial⟩,lw_slo (h2 0 (by simp))⟩
    rw [hgl]; exact(apo_c n ws v F k1 k2)
   ·cases hg
  ·cases hg
 ·cases hg
def cxh1:Cx:=cxl [(18,aprG),(7,odG)]
def cxh2:Cx:=cxl [(18,apoG)]
abbrev hS:List Code:=sp prog 9
abbrev hL:List Nat:=[1,6,7,19,20,21]
abbrev hT (L m k j:Nat):List (Nat×LV):=[(1,.slo 1 0 m 0),(7,.slo 2 0 L 0),(19,.slo 3 0 k 0),(20,.int .i64 k),(21,.int .i64 j)]
abbrev hH (ws ax hx ox:List LV):List LB:=[.ro ws,.ro ax,.cells hx (some 1),.cells ox (some 1)]
theorem cxh1_ok:CtrOk prog (ctrOf cxh1):=cxl_ok ⟨aprG_ok,odG_ok,trivial⟩
theorem cxh2_ok:CtrOk prog (ctrOf cxh2):=cxl_ok ⟨apoG_ok,trivial⟩
theorem hp_a (n m:Nat) (z:Int) (ws ax:List LV) (F:World→Prop) (K:Pk):(xsp prog cxh1 60 33 (seg hS 0 3) (tm0 [.slo 0 0 n 0,.slo 1 0 m 0,.int .i64 z]) (mkS [.ro ws,.ro ax] (factG F)) (vK hL K))=(
 ck (okIu64 ws n) <|
 ck (okAt ax m) <|
 ck (xnn (xmn (xmx z 0) ↑m)) <|
 ck (xle (xnat (xmn (xmx z 0) ↑m)) m) <|
 K .normal [.slo 1 0 m 0,.nils,.slo 2 0 (clN n) 0,.slo 3 0 (xsub (xnat (xmn (xmx z 0) ↑m)) 0) 0,.int .i64 ↑(xsub (xnat (xmn (xmx z 0) ↑m)) 0),.int .i64 0] [some (.ro ws),some (.ro ax),sC (hwC ws) 1,sC (orW ax m) 1] (factG F)):=by kernel_rfl
theorem hp_b (L m k j:Nat) (ws ax hx ox:List LV) (F:World→Prop) (K:Pk):(xcode prog cxh2 60 33 (loopOf (nthC hS 3)) (mkTm 33 (hT L m k j)) (mkS (hH ws ax hx ox) (factG F)) (vK hL K))=(
 bif xcm .lss ↑j ↑k then(
 ck (xle (xadd (xnat ↑j) 1) k) <|
 ck (xle (xadd (xix 0 (xnat ↑j) 1) 1) (xln ox)) <|
 ck (isI .i64 (nthD ox (xix 0 (xnat ↑j) 1))) <|
 ck (xnn (asI (nthD ox (xix 0 (xnat ↑j) 1)))) <|
 ck (xle (xadd (xnat (asI (nthD ox (xix 0 (xnat ↑j) 1)))) 1) m) <|
 ck (xle (xadd (xix 0 (xnat (asI (nthD ox (xix 0 (xnat ↑j) 1)))) 14) 14) (xln ax)) <|
 ck (isI .i64 (nthD ax (xix 0 (xnat (asI (nthD ox (xix 0 (xnat ↑j) 1)))) 14))) <|
 ck (isI .i64 (nthD ax (xadd (xix 0 (xnat (asI (nthD ox (xix 0 (xnat ↑j) 1)))) 14) 1))) <|
 ck (isI .i64 (nthD ax (xadd (xadd (xix 0 (xnat (asI (nthD ox (xix 0 (xnat ↑j) 1)))) 14) 1) 1))) <|
 ck (isB (nthD ax (xadd (xadd (xadd (xix 0 (xnat (asI (nthD ox (xix 0 (xnat ↑j) 1)))) 14) 1) 1) 1))) <|
 ck (isI .i64 (nthD ax (xadd (xadd (xadd (xadd (xix 0 (xnat (asI (nthD ox (xix 0 (xnat ↑j) 1)))) 14) 1) 1) 1) 1))) <|
 ck (isI .i64 (nthD ax (xadd (xadd (xadd (xadd (xadd (xix 0 (xnat (asI (nthD ox (xix 0 (xnat ↑j) 1)))) 14) 1) 1) 1) 1) 1))) <|
 ck (isI .u64 (nthD ax (xadd (xadd (xadd (xadd (xadd (xadd (xix 0 (xnat (asI (nthD ox (xix 0 (xnat ↑j) 1)))) 14) 1) 1) 1) 1) 1) 1))) <|
 ck (isI .u64 (nthD ax (xadd (xadd (xadd (xadd (xadd (xadd (xadd (xix 0 (xnat (asI (nthD ox (xix 0 (xnat ↑j) 1)))) 14) 1) 1) 1) 1) 1) 1) 1))) <|
 ck (isI .i64 (nthD ax (xadd (xadd (xadd (xadd (xadd (xadd (xadd (xadd (xix 0 (xnat (asI (nthD ox (xix 0 (xnat ↑j) 1)))) 14) 1) 1) 1) 1) 1) 1) 1) 1))) <|
 ck (isI .i64 (nthD ax (xadd (xadd (xadd (xadd (xadd (xadd (xadd (xadd (xadd (xix 0 (xnat (asI (nthD ox (xix 0 (xnat ↑j) 1)))) 14) 1) 1) 1) 1) 1) 1) 1) 1) 1))) <|
 ck (isV (nthD ax (xadd (xadd (xadd (xadd (xadd (xadd (xadd (xadd (xadd (xadd (xix 0 (xnat (asI (nthD ox (xix 0 (xnat ↑j) 1)))) 14) 1) 1) 1) 1) 1) 1) 1) 1) 1) 1))) <|
 ck (isV (nthD ax (xadd (xadd (xadd (xadd (xadd (xadd (xadd (xadd (xadd (xadd (xadd (xix 0 (xnat (asI (nthD ox (xix 0 (xnat ↑j) 1)))) 14) 1) 1) 1) 1) 1) 1) 1) 1) 1) 1) 1))) <|
 ck (isV (nthD ax (xadd (xadd (xadd (xadd (xadd (xadd (xadd (xadd (xadd (xadd (xadd (xadd (xix 0 (xnat (asI (nthD ox (xix 0 (xnat ↑j) 1)))) 14) 1) 1) 1) 1) 1) 1) 1) 1) 1) 1) 1) 1))) <|
 ck (isS (nthD ax (xadd (xadd (xadd (xadd (xadd (xadd (xadd (xadd (xadd (xadd (xadd (xadd (xadd (xix 0 (xnat (asI (nthD ox (xix 0 (xnat ↑j) 1)))) 14) 1) 1) 1) 1) 1) 1) 1) 1) 1) 1) 1) 1) 1))) <|
 bif xcm .neq (asI (nthD ax (xadd (xadd (xadd (xadd (xix 0 (xnat (asI (nthD ox (xix 0 (xnat ↑j) 1)))) 14) 1) 1) 1) 1))) 2 then(
 K .normal [.slo 1 0 m 0,.any,.slo 2 0 L 0,.slo 3 0 k 0,.int .i64 ↑k,.int .i64 (xar .add .i64 (↑j) 1)] [some (.ro ws),some (.ro ax),sC hx 1,sC ox 1,sN [.int .i64 (asI (nthD ax (xix 0 (xnat (asI (nthD ox (xix 0 (xnat ↑j) 1)))) 14))),.int .i64 (asI (nthD ax (xadd (xix 0 (xnat (asI (nthD ox (xix 0 (xnat ↑j) 1)))) 14) 1))),.int .i64 (asI (nthD ax (xadd (xadd (xix 0 (xnat (asI (nthD ox (xix 0 (xnat ↑j) 1)))) 14) 1) 1))),.bool (asB (nthD ax (xadd (xadd (xadd (xix 0 (xnat (asI (nthD ox (xix 0 (xnat ↑j) 1)))) 14) 1) 1) 1))),.int .i64 (asI (nthD ax (xadd (xadd (xadd (xadd (xix 0 (xnat (asI (nthD ox (xix 0 (xnat ↑j) 1)))) 14) 1) 1) 1) 1))),.int .i64 (asI (nthD ax (xadd (xadd (xadd (xadd (xadd (xix 0 (xnat (asI (nthD ox (xix 0 (xnat ↑j) 1)))) 14) 1) 1) 1) 1) 1))),.int .u64 (asI (nthD ax (xadd (xadd (xadd (xadd (xadd (xadd (xix 0 (xnat (asI (nthD ox (xix 0 (xnat ↑j) 1)))) 14) 1) 1) 1) 1) 1) 1))),.int .u64 (asI (nthD ax (xadd (xadd (xadd (xadd (xadd (xadd (xadd (xix 0 (xnat (asI (nthD ox (xix 0 (xnat ↑j) 1)))) 14) 1) 1) 1) 1) 1) 1) 1))),.int .i64 (asI (nthD ax (xadd (xadd (xadd (xadd (xadd (xadd (xadd (xadd (xix 0 (xnat (asI (nthD ox (xix 0 (xnat ↑j) 1)))) 14) 1) 1) 1) 1) 1) 1) 1) 1))),.int .i64 (asI (nthD ax (xadd (xadd (xadd (xadd (xadd (xadd (xadd (xadd (xadd (xix 0 (xnat (asI (nthD ox (xix 0 (xnat ↑j) 1)))) 14) 1) 1) 1) 1) 1) 1) 1) 1) 1))),.val (asV (nthD ax (xadd (xadd (xadd (xadd (xadd (xadd (xadd (xadd (xadd (xadd (xix 0 (xnat (asI (nthD ox (xix 0 (xnat ↑j) 1)))) 14) 1) 1) 1) 1) 1) 1) 1) 1) 1) 1))),.val (asV (nthD ax (xadd (xadd (xadd (xadd (xadd (xadd (xadd (xadd (xadd (xadd (xadd (xix 0 (xnat (asI (nthD ox (xix 0 (xnat ↑j) 1)))) 14) 1) 1) 1) 1) 1) 1) 1) 1) 1) 1) 1))),.val (asV (nthD ax (xadd (xadd (xadd (xadd (xadd (xadd (xadd (xadd (xadd (xadd (xadd (xadd (xix 0 (xnat (asI (nthD ox (xix 0 (xnat ↑j) 1)))) 14) 1) 1) 1) 1) 1) 1) 1) 1) 1) 1) 1) 1))),.str (asS (nthD ax (xadd (xadd (xadd (xadd (xadd (xadd (xadd (xadd (xadd (xadd (xadd (xadd (xadd (xix 0 (xnat (asI (nthD ox (xix 0 (xnat ↑j) 1)))) 14) 1) 1) 1) 1) 1) 1) 1) 1) 1) 1) 1) 1) 1)))]] (factG F))
 else(
 ck (okIu64 hx L) <|
 ck (okV F (asV (nthD ax (xadd (xadd (xadd (xadd (xadd (xadd (xadd (xadd (xadd (xadd (xadd (xix 0 (xnat (asI (nthD ox (xix 0 (xnat ↑j) 1)))) 14) 1) 1) 1) 1) 1) 1) 1) 1) 1) 1) 1)))) <|
 K .normal [.slo 1 0 m 0,.any,.slo 5 0 (clN L) 0,.slo 3 0 k 0,.int .i64 ↑k,.int .i64 (xar .add .i64 (↑j) 1)] [some (.ro ws),some (.ro ax),sC hx 1,sC ox 1,sN [.int .i64 (asI (nthD ax (xix 0 (xnat (asI (nthD ox (xix 0 (xnat ↑j) 1)))) 14))),.int .i64 (asI (nthD ax (xadd (xix 0 (xnat (asI (nthD ox (xix 0 (xnat ↑j) 1)))) 14) 1))),.int .i64 (asI (nthD ax (xadd (xadd (xix 0 (xnat (asI (nthD ox (xix 0 (xnat ↑j) 1)))) 14) 1) 1))),.bool (asB (nthD ax (xadd (xadd (xadd (xix 0 (xnat (asI (nthD ox (xix 0 (xnat ↑j) 1)))) 14) 1) 1) 1))),.int .i64 (asI (nthD ax (xadd (xadd (xadd (xadd (xix 0 (xnat (asI (nthD ox (xix 0 (xnat ↑j) 1)))) 14) 1) 1) 1) 1))),.int .i64 (asI (nthD ax (xadd (xadd (xadd (xadd (xadd (xix 0 (xnat (asI (nthD ox (xix 0 (xnat ↑j) 1)))) 14) 1) 1) 1) 1) 1))),.int .u64 (asI (nthD ax (xadd (xadd (xadd (xadd (xadd (xadd (xix 0 (xnat (asI (nthD ox (xix 0 (xnat ↑j) 1)))) 14) 1) 1) 1) 1) 1) 1))),.int .u64 (asI (nthD ax (xadd (xadd (xadd (xadd (xadd (xadd (xadd (xix 0 (xnat (asI (nthD ox (xix 0 (xnat ↑j) 1)))) 14) 1) 1) 1) 1) 1) 1) 1))),.int .i64 (asI (nthD ax (xadd (xadd (xadd (xadd (xadd (xadd (xadd (xadd (xix 0 (xnat (asI (nthD ox (xix 0 (xnat ↑j) 1)))) 14) 1) 1) 1) 1) 1) 1) 1) 1))),.int .i64 (asI (nthD ax (xadd (xadd (xadd (xadd (xadd (xadd (xadd (xadd (xadd (xix 0 (xnat (asI (nthD ox (xix 0 (xnat ↑j) 1)))) 14) 1) 1) 1) 1) 1) 1) 1) 1) 1))),.val (asV (nthD ax (xadd (xadd (xadd (xadd (xadd (xadd (xadd (xadd (xadd (xadd (xix 0 (xnat (asI (nthD ox (xix 0 (xnat ↑j) 1)))) 14) 1) 1) 1) 1) 1) 1) 1) 1) 1) 1))),.val (asV (nthD ax (xadd (xadd (xadd (xadd (xadd (xadd (xadd (xadd (xadd (xadd (xadd (xix 0 (xnat (asI (nthD ox (xix 0 (xnat ↑j) 1)))) 14) 1) 1) 1) 1) 1) 1) 1) 1) 1) 1) 1))),.val (asV (nthD ax (xadd (xadd (xadd (xadd (xadd (xadd (xadd (xadd (xadd (xadd (xadd (xadd (xix 0 (xnat (asI (nthD ox (xix 0 (xnat ↑j) 1)))) 14) 1) 1) 1) 1) 1) 1) 1) 1) 1) 1) 1) 1))),.str (asS (nthD ax (xadd (xadd (xadd (xadd (xadd (xadd (xadd (xadd (xadd (xadd (xadd (xadd (xadd (xix 0 (xnat (asI (nthD ox (xix 0 (xnat ↑j) 1)))) 14) 1) 1) 1) 1) 1) 1) 1) 1) 1) 1) 1) 1) 1)))],sC (apV F (asV (nthD ax (xadd (xadd (xadd (xadd (xadd (xadd (xadd (xadd (xadd (xadd (xadd (xix 0 (xnat (asI (nthD ox (xix 0 (xnat ↑j) 1)))) 14) 1) 1) 1) 1) 1) 1) 1) 1) 1) 1) 1))) hx) 1] (factG F)))
 else(
 K (.exit 0) [.slo 1 0 m 0,.any,.slo 2 0 L 0,.slo 3 0 k 0,.int .i64 ↑k,.int .i64 ↑j] [some (.ro ws),some (.ro ax),sC hx 1,sC ox 1] (factG F))):=by kernel_rfl
theorem hp_z (L m k j:Nat) (ws ax hx ox:List LV) (F:World→Prop) (K:Pk):(xsp prog cxh2 60 33 (hS.drop 4) (mkTm 33 (hT L m k j)) (mkS (hH ws ax hx ox) (factG F)) (vK hL K))=(
 K .ret [.slo 1 0 m 0,.slo 2 0 L 0,.slo 2 0 L 0,.slo 3 0 k 0,.int .i64 ↑k,.int .i64 ↑j] [some (.ro ws),some (.ro ax),sC hx 1,sC ox 1] (factG F)):=by kernel_rfl
end
end Go.Lev
