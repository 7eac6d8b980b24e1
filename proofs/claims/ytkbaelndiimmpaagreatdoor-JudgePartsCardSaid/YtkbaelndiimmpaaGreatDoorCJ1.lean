/- chapter 30: Repeat and Contains as contracts -/
import Derived.Test.YtkbaelndiimmpaaGreatDoorCW12
import Derived.Test.YtkbaelndiimmpaaGreatDoorLc
import Derived.Test.YtkbaelndiimmpaaGreatDoorChecked
import Derived.KernelRfl
namespace Go.Lev
set_option linter.unusedSimpArgs false
set_option linter.unusedVariables false
open Go.RowKit
open Go.Proofs.Tryz (prog)
set_option maxRecDepth 100000
noncomputable section
def idxOf:List Int→Int→Option Nat
 | [],_=>none
 | x::r,v=>if x=v then some 0 else(idxOf r v).map (· + 1)
theorem idxOf_none {xs:List Int} {v:Int} (h:∀ j (hj:j < xs.length),xs[j]≠v):idxOf xs v=none:=by
 induction xs with
 | nil=>rfl
 | cons x r ih =>
   rw [idxOf,if_neg (show ¬ x=v from h 0 (by simp)),ih fun j hj=>h (j+1) (by simp; omega)]; rfl
theorem idxOf_some {xs:List Int} {v:Int} {i:Nat} (hi:i < xs.length) (h:∀ j (hj:j < xs.length),j < i→xs[j]≠v) (e:xs[i]=v):idxOf xs v=some i:=by
 induction xs generalizing i with
 | nil=>simp at hi
 | cons x r ih =>
   cases i with
   | zero=>rw [idxOf,if_pos (by simpa using e)]
   | succ i =>
     rw [idxOf,if_neg (show ¬ x=v from h 0 (by simp) (by omega)),ih (i:=i) (by simpa using hi) (fun j hj hji=>h (j+1) (by simp; omega) (by omega)) (by simpa using e)]; rfl
theorem idxOf_lt {xs:List Int} {v:Int} {i:Nat} (h:idxOf xs v=some i):∃ hi:i < xs.length,xs[i]=v:=by
 induction xs generalizing i with
 | nil=>cases h
 | cons x r ih =>
   rw [idxOf] at h
   split at h
   ·rename_i e; cases h; exact⟨by simp,by simpa using e⟩
   ·cases hr:idxOf r v with
    | none=>rw [hr] at h; cases h
    | some k =>
      rw [hr] at h; cases h
      obtain⟨h1,h2⟩:=ih hr
      exact⟨by simpa using h1,by simpa using h2⟩
def idxI (xs:List Int) (v:Int):Int:=match idxOf xs v with
 | some i=>(i:Int)
 | none => -1
def idxW (cs:List LV) (n:Nat) (v:Int):Int:=idxI ((decIi64 cs).take n) v
def okX (cs:List LV) (n:Nat):Bool:=@decide (∃ xs:List Int,cs=encL (cI .i64) xs∧n≤xs.length∧xs.length≤1000000) (Classical.propDecidable _)
theorem okX_iff {cs:List LV} {n:Nat}:okX cs n=true↔∃ xs:List Int,cs=encL (cI .i64) xs∧n≤xs.length∧xs.length≤1000000:=by simp only [okX,decide_eq_true_eq]
abbrev idL:List Nat:=[0,1,4,5,6,7,8]
abbrev idT (n i:Nat) (v:Int):List (Nat×LV):=[(0,.slo 0 0 n 0),(1,.int .i64 v),(6,.slo 0 0 n 0),(7,.int .i64 n),(8,.int .i64 i)]
theorem id_a (n:Nat) (v:Int) (cs:List LV) (K:Pk):(xsp prog (fun _=>none) 40 19 (seg (sp prog 31) 0 2) (tm0 [.slo 0 0 n 0,.int .i64 v]) (mkS [.cells cs (some 1)]) (vK idL K))=(
 K .normal [.slo 0 0 n 0,.int .i64 v,.int .i64 0,.tup [],.slo 0 0 n 0,.int .i64 ↑n,.int .i64 0] [sC cs 1] []):=by kernel_rfl
theorem id_b (n i:Nat) (v:Int) (cs:List LV) (K:Pk):(xcode prog (fun _=>none) 40 19 (loopOf (nthC (sp prog 31) 2)) (mkTm 19 (idT n i v)) (mkS [.cells cs (some 1)]) (vK idL K))=(
 bif xcm .lss ↑i ↑n then(
 ck (xle (xadd (xnat ↑i) 1) n) <|
 ck (xle (xadd (xix 0 (xnat ↑i) 1) 1) (xln cs)) <|
 ck (isI .i64 (nthD cs (xix 0 (xnat ↑i) 1))) <|
 bif xcm .eql v (asI (nthD cs (xix 0 (xnat ↑i) 1))) then(
 K .ret [.slo 0 0 n 0,.int .i64 v,.int .i64 ↑i,.int .i64 ↑i,.slo 0 0 n 0,.int .i64 ↑n,.int .i64 ↑i] [sC cs 1] [])
 else(
 K .normal [.slo 0 0 n 0,.int .i64 v,.any,.int .i64 ↑i,.slo 0 0 n 0,.int .i64 ↑n,.int .i64 (xar .add .i64 (↑i) 1)] [sC cs 1] []))
 else(
 K (.exit 0) [.slo 0 0 n 0,.int .i64 v,.any,.any,.slo 0 0 n 0,.int .i64 ↑n,.int .i64 ↑i] [sC cs 1] [])):=by kernel_rfl
theorem id_z (cs:List LV) (K:Pk):(xsp prog (fun _=>none) 40 19 ((sp prog 31).drop 3) (mkTm 19 []) (mkS [.cells cs (some 1)]) (vK idL K))=(
 K .ret [.any,.any,.int .i64 (-1),.any,.any,.any,.any] [sC cs 1] []):=by kernel_rfl
theorem id_ok (xs:List Int) (n:Nat) (hn:n≤xs.length) (hx:xs.length≤1000000) (v:Int):SFun prog 31 [.slo 0 0 n 0,.int .i64 v] (mkS [.cells (encL (cI .i64) xs) (some 1)]) fun l s=>l=.int .i64 (idxI (xs.take n) v)∧s=mkS [.cells (encL (cI .i64) xs) (some 1)]:=by
 refine SFun.mono (SFun.pieces (Q:=fun l b=>l=.int .i64 (idxI (xs.take n) v)∧b=[.cells (encL (cI .i64) xs) (some 1)]) 19 1 idL [4] (by kernel_rfl) rfl rfl rfl ?_) fun l s' ⟨b0,⟨h1,h2⟩,h3⟩=>⟨h1,by rw [h3,h2]⟩
 have nx:=noIds_Ii64 xs
 have tl:(xs.take n).length=n:=by simp; omega
 refine SSp.to noCx_ok (n:=40) (g:=[]) 2 2 rfl (σ:=Unit) (fun _=>idT n 0 v) (fun _=>[.cells (encL (cI .i64) xs) (some 1)]) (mkS_le (Nat.le_refl _)) (by kernel_rfl) ?_ fun _=>?_
 ·rw [id_a]; exact⟨rfl,(),[.id 0],by(exact zC)⟩
 refine SSp.code_to (g:=[]) 3 rfl (σ:={_k:Unit // idxOf (xs.take n) v=none}) (fun _=>[]) (fun _=>[.cells (encL (cI .i64) xs) (some 1)]) (by kernel_rfl) ?_ fun⟨_,hs⟩=>?_
 ·refine SCode.loop_vc noCx_ok (n:=40) 0 (by kernel_rfl) (σ:={i:Nat // i≤n∧∀ j (hj:j < (xs.take n).length),j < i→(xs.take n)[j]≠v}) (fun i=>idT n i.1 v) (fun _=>[.cells (encL (cI .i64) xs) (some 1)]) (fun i=>n - i.1) (fun _=>Nat.le_of_ble_eq_true rfl) (fun⟨i,hi,hall⟩=>?_) ⟨0,Nat.zero_le _,fun j hj h=>absurd h (by omega)⟩
  dsimp only
  rw [id_b,wd_lss]
  refine ite_way (fun hk=>?_) (fun hk=>?_)
  ·have hix:i < xs.length:=by omega
   have e3:xar .add .i64 (i:Int) 1=((i+1:Nat):Int):=inc_i64 hk (by omega)
   have et:(xs.take n)[i]'(by omega)=xs[i]:=by simp
   (refine zN3 (encIi64_nth hix) @encIi64_len @e3 ?_)
   (refine zR ?_)
   refine ways (fun h1=>?_) (fun h1=>?_)
   ·have h1':v=xs[i]:=by simpa [xcm_eql] using h1
    have:idxI (xs.take n) v=(i:Int):=by rw [idxI,idxOf_some (by omega:i < (xs.take n).length) hall (by rw [et,h1'])]
    exact⟨trivial,rfl,_,_,[.id 0],⟨rfl,rfl⟩,by rw [this]; (exact zC)⟩
   ·have h1':¬ v=xs[i]:=by simpa [xcm_eql] using h1
    refine⟨rfl,⟨i+1,hk,fun j hj hji=>?_⟩,by simp only; omega,[.id 0],by(exact zC)⟩
    rcases Nat.lt_succ_iff_lt_or_eq.1 hji with h | rfl
    ·exact hall j hj h
    ·rw [et]; exact fun e=>h1' e.symm
  ·refine⟨rfl,⟨(),idxOf_none fun j hj=>hall j hj (by omega)⟩,[.id 0],by(exact zC)⟩
 refine SSp.last noCx_ok (n:=40) (mkS_le (Nat.le_of_ble_eq_true rfl)) ?_
 rw [id_z]
 exact⟨trivial,rfl,_,_,[.id 0],⟨rfl,rfl⟩,by rw [idxI,hs]; (exact zC)⟩
theorem id_c (n:Nat) (v:Int) (cs:List LV) (k1:okX cs n=true):SFun prog 31 [.slo 0 0 n 0,.int .i64 v] (mkS [.cells cs (some 1)]) fun l s=>l=.int .i64 (idxW cs n v)∧s=mkS [.cells cs (some 1)]:=by
 obtain⟨xs,rfl,h1,h2⟩:=okX_iff.1 k1
 rw [idxW,decIi64_enc]
 exact id_ok xs n h1 h2 v
def idG:Gc:=fun args s=>match args,s.g with
 | [.slo b 0 n 0,.int .i64 v],[]=>(match s.h.get b with
   | some (.cells cs (some 1))=>(match s.lay [b] [.cells cs (some 1)] [] with
     | some s'=>some ([okX cs n],.int .i64 (idxW cs n v),s')
     | none=>none)
   | _=>none)
 | _,_=>none
theorem idG_ok:GOk prog 31 idG:=by
 intro args s bs l s' hg hb hfr
 unfold idG at hg
 split at hg
 ·rename_i b n v hgl
  split at hg
  ·rename_i cs hb0
   split at hg
   ·rename_i s1 hs1
    simp only [Option.some.injEq,Prod.mk.injEq] at hg
    obtain⟨rfl,rfl,rfl⟩:=hg
    simp only [allT_cons] at hb
    obtain⟨k1,_⟩:=hb
    have no:noIds cs=true:=by obtain⟨_,e,_⟩:=okX_iff.1 k1; rw [e]; exact noIds_Ii64 _
    refine SFun.lay (bs:=[.cells cs (some 1)]) (args0:=[.slo 0 0 n 0,.int .i64 v]) (bs':=[.cells cs (some 1)]) (v0:=.int .i64 (idxW cs n v)) hfr hs1 (by simp)
     ⟨⟨there hfr hb0,_,hb0,lb_same (by(exact zId)),fun κ hκ=>lb_same (by(exact zId))⟩,trivial⟩ (by(exact zTl)) ?_
     fun κ h1 h2=>⟨⟨lb_same (by(exact zId)),trivial⟩,lw_int⟩
    rw [hgl]; exact(id_c n v cs k1)
   ·cases hg
  ·cases hg
 ·cases hg
abbrev muL:List Nat:=[4,5]
theorem mu_t (y:Int) (K:Pk):(xsp prog (fun _=>none) 40 51 ((sp prog 43).drop 0) (tm0 [.int .u64 1,.int .u64 y]) (mkS []) (vK muL K))=(
 K .ret [.int .u64 (xar .add .u64 (xar .add .u64 (xar .mul .u64 0 (xsh .shr .u64 y 32)) (xsh .shr .u64 (xar .add .u64 (xar .mul .u64 0 (xar .and .u64 y 4294967295)) (xsh .shr .u64 (xar .mul .u64 1 (xar .and .u64 y 4294967295)) 32)) 32)) (xsh .shr .u64 (xar .add .u64 (xar .and .u64 (xar .add .u64 (xar .mul .u64 0 (xar .and .u64 y 4294967295)) (xsh .shr .u64 (xar .mul .u64 1 (xar .and .u64 y 4294967295)) 32)) 4294967295) (xar .mul .u64 1 (xsh .shr .u64 y 32))) 32)),.int .u64 (xar .mul .u64 1 y)] [] []):=by kernel_rfl
theorem low_all:(List.range 257).all (fun n=>decide (xar .and .u64 (n:Int) 4294967295=(n:Int)) && decide (xsh .shr .u64 (n:Int) 32=0) && decide (xar .mul .u64 1 (n:Int)=(n:Int)) && decide (xar .mul .u64 0 (n:Int)=0) && decide (xar .mul .u64 (n:Int) 0=0))=true:=by kernel_rfl
theorem low_at {n:Nat} (h:n≤256):xar .and .u64 (n:Int) 4294967295=(n:Int)∧xsh .shr .u64 (n:Int) 32=0∧xar .mul .u64 1 (n:Int)=(n:Int)∧xar .mul .u64 0 (n:Int)=0:=by
 have:=List.all_eq_true.1 low_all n (List.mem_range.2 (by omega))
 simp only [Bool.and_eq_true,decide_eq_true_eq] at this
 exact⟨this.1.1.1.1,this.1.1.1.2,this.1.1.2,this.1.2⟩
theorem mu_ok (n:Nat) (h:n≤256):SFun prog 43 [.int .u64 1,.int .u64 n] (mkS []) fun l s=>l=.tup [.int .u64 0,.int .u64 n]∧s=mkS []:=by
 refine SFun.mono (SFun.pieces (Q:=fun l b=>l=.tup [.int .u64 0,.int .u64 n]∧b=[]) 51 0 muL [4,5] (by kernel_rfl) rfl rfl rfl ?_) fun l s' ⟨b0,⟨h1,h2⟩,h3⟩=>⟨h1,by rw [h3,h2]⟩
 refine SSp.last noCx_ok (n:=40) (mkS_le (Nat.le_refl _)) ?_
 obtain⟨a1,a2,a3,a4⟩:=low_at h
 have e1:xar .and .u64 1 4294967295=1:=by kernel_rfl
 have e2:xsh .shr .u64 1 32=0:=by kernel_rfl
 have e3:xar .mul .u64 1 0=0:=by kernel_rfl
 have e4:xar .add .u64 0 0=0:=by kernel_rfl
 have e5:xar .and .u64 0 4294967295=0:=by kernel_rfl
 have e6:xsh .shr .u64 0 32=0:=by kernel_rfl
 have e7:xar .mul .u64 0 0=0:=by kernel_rfl
 rw [mu_t]
 simp only [a1,a2,a3,a4,e1,e2,e3,e4,e5,e6,e7,wd_nni,cond_true]
 (refine zR ?_)
 exact⟨trivial,rfl,_,_,[],⟨rfl,rfl⟩,by(exact zC)⟩
def lowN (y:Int):Bool:=decide (0≤y∧y≤256)
theorem mu_c (y:Int) (k1:lowN y=true):SFun prog 43 [.int .u64 1,.int .u64 y] (mkS []) fun l s=>l=.tup [.int .u64 0,.int .u64 y]∧s=mkS []:=by
 simp only [lowN,decide_eq_true_eq] at k1
 obtain⟨n,rfl⟩:∃ n:Nat,y=(n:Int):=⟨y.toNat,by omega⟩
 exact mu_ok n (by omega)
def muG:Gc:=fun args s=>match args,s.g with
 | [.int .u64 1,.int .u64 y],[]=>(match s.lay [] [] [] with
   | some s'=>some ([lowN y],.tup [.int .u64 0,.int .u64 y],s')
   | none=>none)
 | _,_=>none
theorem muG_ok:GOk prog 43 muG:=by
 intro args s bs l s' hg hb hfr
 unfold muG at hg
 split at hg
 ·rename_i y hgl
  split at hg
  ·rename_i s1 hs1
   simp only [Option.some.injEq,Prod.mk.injEq] at hg
   obtain⟨rfl,rfl,rfl⟩:=hg
   simp only [allT_cons] at hb
   obtain⟨k1,_⟩:=hb
   refine SFun.lay (bs:=[]) (args0:=[.int .u64 1,.int .u64 y]) (bs':=[]) (v0:=.tup [.int .u64 0,.int .u64 y]) hfr hs1 (by simp)
    trivial (by(exact zTl)) ?_
    fun κ h1 h2=>⟨trivial,lw_noid rfl⟩
   rw [hgl]; exact(mu_c y k1)
  ·cases hg
 ·cases hg
def cxm1:Cx:=cxl [(43,muG)]
theorem mv_t (y:Int) (K:Pk):(xsp prog cxm1 40 30 ((sp prog 30).drop 0) (tm0 [.int .u64 1,.int .u64 y]) (mkS []) (vK muL K))=(
 ck (lowN y) <|
 K .ret [.int .u64 0,.int .u64 y] [] []):=by kernel_rfl
theorem cxm1_ok:CtrOk prog (ctrOf cxm1):=cxl_ok ⟨muG_ok,trivial⟩
theorem mv_c (y:Int) (k1:lowN y=true):SFun prog 30 [.int .u64 1,.int .u64 y] (mkS []) fun l s=>l=.tup [.int .u64 0,.int .u64 y]∧s=mkS []:=by
 refine SFun.mono (SFun.pieces (Q:=fun l b=>l=.tup [.int .u64 0,.int .u64 y]∧b=[]) 30 0 muL [4,5] (by kernel_rfl) rfl rfl rfl ?_) fun l s' ⟨b0,⟨h1,h2⟩,h3⟩=>⟨h1,by rw [h3,h2]⟩
 refine SSp.last cxm1_ok (n:=40) (mkS_le (Nat.le_refl _)) ?_
 rw [mv_t]
 simp only [k1,cond_true]
 (refine zR ?_)
 exact⟨trivial,rfl,_,_,[],⟨rfl,rfl⟩,by(exact zC)⟩
def mvG:Gc:=fun args s=>match args,s.g with
 | [.int .u64 1,.int .u64 y],[]=>(match s.lay [] [] [] with
   | some s'=>some ([lowN y],.tup [.int .u64 0,.int .u64 y],s')
   | none=>none)
 | _,_=>none
theorem mvG_ok:GOk prog 30 mvG:=by
 intro args s bs l s' hg hb hfr
 unfold mvG at hg
 split at hg
 ·rename_i y hgl
  split at hg
  ·rename_i s1 hs1
   simp only [Option.some.injEq,Prod.mk.injEq] at hg
   obtain⟨rfl,rfl,rfl⟩:=hg
   simp only [allT_cons] at hb
   obtain⟨k1,_⟩:=hb
   refine SFun.lay (bs:=[]) (args0:=[.int .u64 1,.int .u64 y]) (bs':=[]) (v0:=.tup [.int .u64 0,.int .u64 y]) hfr hs1 (by simp)
    trivial (by(exact zTl)) ?_
    fun κ h1 h2=>⟨trivial,lw_noid rfl⟩
   rw [hgl]; exact(mv_c y k1)
  ·cases hg
 ·cases hg
def rpL (N n:Nat):List Int:=List.replicate n 1++List.replicate (N - n) 0
theorem rpL_len {N n:Nat} (h:n≤N):(rpL N n).length=N:=by simp [rpL]; omega
theorem rpL_full (N:Nat):rpL N N=List.replicate N 1:=by simp [rpL]
def cxm2:Cx:=cxl [(30,mvG)]
abbrev rpS:List Code:=sp prog 20
abbrev rpQ:List Nat:=[4,7,8]
abbrev rpT (N n:Nat):List (Nat×LV):=[(7,.sl 1 0 N N),(8,.int .i64 n)]
abbrev rpH (cs:List LV):List LB:=[.cells [.int .i64 1] none,.cells cs none]
theorem rp_a (N:Nat) (K:Pk):(xsp prog cxm2 40 48 (seg rpS 0 8) (tm0 [.sl 0 0 1 1,.int .i64 N]) (mkS [.cells [.int .i64 1] none]) (vK rpQ K))=(
 bif xcm .lss (↑N) 0 then(
 False)
 else(
 ck (lowN (xwr .u64 ↑N)) <|
 bif xcm .gtr (xwr .u64 ↑N) 9223372036854775807 then(
 False)
 else(
 ck (xnn (xwr .i64 (xwr .u64 ↑N))) <|
 ck (xnn (xwr .i64 (xwr .u64 ↑N))) <|
 ck (xle (xnat (xwr .i64 (xwr .u64 ↑N))) (xnat (xwr .i64 (xwr .u64 ↑N)))) <|
 ck (xle (xnat (xwr .i64 (xwr .u64 ↑N))) 100000) <|
 ck (xle (xadd 0 (xmul (xlow 1 (xnat (xwr .i64 (xwr .u64 ↑N)))) 1)) 1) <|
 ck (xle (xadd 0 (xln (xcut [.int .i64 1] 0 (xmul (xlow 1 (xnat (xwr .i64 (xwr .u64 ↑N)))) 1)))) (xln (xrep (xnat (xwr .i64 (xwr .u64 ↑N))) [.int .i64 0]))) <|
 K .normal [.nils,.sl 1 0 (xnat (xwr .i64 (xwr .u64 ↑N))) (xnat (xwr .i64 (xwr .u64 ↑N))),.int .i64 ↑(xlow 1 (xnat (xwr .i64 (xwr .u64 ↑N))))] [sN [.int .i64 1],sN (xlay (xrep (xnat (xwr .i64 (xwr .u64 ↑N))) [.int .i64 0]) 0 (xcut [.int .i64 1] 0 (xmul (xlow 1 (xnat (xwr .i64 (xwr .u64 ↑N)))) 1)))] []))):=by kernel_rfl
theorem rp_b (N n:Nat) (cs:List LV) (K:Pk):(xcode prog cxm2 40 48 (loopOf (nthC rpS 8)) (mkTm 48 (rpT N n)) (mkS (rpH cs)) (vK rpQ K))=(
 bif xcm .lss ↑n ↑N then(
 ck (xle (xadd (xnat ↑n) 1) N) <|
 ck (xle (xnat ↑n) N) <|
 ck (xle N N) <|
 ck (xle (xnat ↑n) N) <|
 ck (xle (xadd 0 (xmul (xlow (xnat ↑n) (xsub N (xnat ↑n))) 1)) (xln cs)) <|
 ck (xle (xadd (xix 0 (xnat ↑n) 1) (xln (xcut cs 0 (xmul (xlow (xnat ↑n) (xsub N (xnat ↑n))) 1)))) (xln cs)) <|
 K .normal [.any,.sl 1 0 N N,.int .i64 (xar .add .i64 ↑n ↑(xlow (xnat ↑n) (xsub N (xnat ↑n))))] [sN [.int .i64 1],sN (xlay cs (xix 0 (xnat ↑n) 1) (xcut cs 0 (xmul (xlow (xnat ↑n) (xsub N (xnat ↑n))) 1)))] [])
 else(
 K (.exit 0) [.any,.sl 1 0 N N,.int .i64 ↑n] [sN [.int .i64 1],sN cs] [])):=by kernel_rfl
theorem rp_z (N n:Nat) (cs:List LV) (K:Pk):(xsp prog cxm2 40 48 (rpS.drop 9) (mkTm 48 (rpT N n)) (mkS (rpH cs)) (vK rpQ K))=(
 K .ret [.sl 1 0 N N,.sl 1 0 N N,.int .i64 ↑n] [sN [.int .i64 1],sN cs] []):=by kernel_rfl
end
end Go.Lev
