/- chapter 30: Safe of both as contracts; Words: trees -/
import Derived.Test.YtkbaelndiimmpaaGreatDoorCW8
import Derived.Test.YtkbaelndiimmpaaGreatDoorLc
import Derived.Test.YtkbaelndiimmpaaGreatDoorChecked
import Derived.KernelRfl
namespace Go.Lev
set_option linter.unusedSimpArgs false
set_option linter.unusedVariables false
open Go.RowKit
open Go.Proofs.Tryz (prog)
set_option maxRecDepth 100000
noncomputable section
def decIu8:List LV→List Int
 | .int _ a::r=>a::decIu8 r
 | _=>[]
theorem decIu8_enc:∀ xs,decIu8 (encL (cI .u8) xs)=xs
 | []=>rfl
 | x::r=>by simp [encL,cI,decIu8,decIu8_enc r]
theorem encIu8_len (xs:List Int):(encL (cI .u8) xs).length=xs.length:=by rw [encL_length (cI_len .u8)]; omega
theorem encIu8_nth {xs:List Int} {i:Nat} (h:i < xs.length):nthD (encL (cI .u8) xs) i=.int .u8 xs[i]:=by
 have:=encL_nth (cI_len .u8) (j:=0) h (by omega)
 simp only [Nat.mul_one,Nat.add_zero] at this
 exact this
theorem noIds_Iu8 (xs:List Int):noIds (encL (cI .u8) xs)=true:=noIds_encL (fun _=>rfl) xs
theorem within_x (a lo hi:Int) (K:Fk):(xfun prog (fun _=>none) 40 7 [.int .i64 a,.int .i64 lo,.int .i64 hi] (mkS []) (vF K))=(
 ck (xcm .neq (xar .add .i64 (xar .sub .i64 hi lo) 1) 0) <|
 bif xcm .lss (xar .rem .i64 a (xar .add .i64 (xar .sub .i64 hi lo) 1)) 0 then(
 K (.int .i64 (xar .add .i64 lo (xar .add .i64 (xar .sub .i64 (xar .add .i64 (xar .rem .i64 a (xar .add .i64 (xar .sub .i64 hi lo) 1)) hi) lo) 1))) [] [])
 else(
 K (.int .i64 (xar .add .i64 lo (xar .rem .i64 a (xar .add .i64 (xar .sub .i64 hi lo) 1)))) [] [])):=by kernel_rfl
def wthV (a lo hi:Int):Int:=lo+a % (hi - lo+1)
def withinG:Gc:=fun args s=>match args,s.g with
 | [.int .i64 a,.int .i64 lo,.int .i64 hi],[]=>some ([xcm .leq lo hi,xcm .leq (-1000000) lo,xcm .leq hi 1000000],.int .i64 (wthV a lo hi),s)
 | _,_=>none
theorem tmod_pos (a m:Int) (hm:0 < m) : -m < a.tmod m∧a.tmod m < m∧(a.tmod m=a % m∨(a.tmod m < 0∧a.tmod m+m=a % m)):=by
 have hb:=Int.emod_nonneg a (b:=m) (by omega)
 have hc:=Int.emod_lt_of_pos a hm
 rcases Int.lt_or_le a 0 with h | h
 ·have e:a.tmod m = -((-a).tmod m):=by have:=Int.neg_tmod (-a) m; rw [Int.neg_neg] at this; exact this
  have h6:0≤(-a).tmod m:=Int.tmod_nonneg _ (by omega)
  have h7:(-a).tmod m < m:=Int.tmod_lt_of_pos _ hm
  refine⟨by omega,by omega,?_⟩
  have h8:m ∣ a - a.tmod m:=Int.dvd_self_sub_tmod
  have h9:m ∣ a - a % m:=Int.dvd_self_sub_emod
  obtain⟨u,hu⟩:=h8
  obtain⟨v,hv⟩:=h9
  have hd:a % m - a.tmod m=m * (u - v):=by rw [Int.mul_sub]; omega
  by_cases h0:u - v ≤ -1
  ·have:m * (u - v)≤m * (-1):=Int.mul_le_mul_of_nonneg_left h0 (by omega)
   omega
  ·by_cases h1:u - v=0
   ·rw [h1] at hd; simp at hd; exact .inl (by omega)
   ·by_cases h2:u - v=1
    ·rw [h2] at hd; simp at hd; exact .inr ⟨by omega,by omega⟩
    ·have:m * 2≤m * (u - v):=Int.mul_le_mul_of_nonneg_left (by omega) (by omega)
     omega
 ·have h6:=Int.tmod_nonneg m h
  exact⟨by omega,Int.tmod_lt_of_pos _ hm,.inl (Int.tmod_eq_emod_of_nonneg h)⟩
theorem wthV_in {a lo hi:Int} (h:lo≤hi):lo≤wthV a lo hi∧wthV a lo hi≤hi:=by
 simp only [wthV]
 have hb:=Int.emod_nonneg a (b:=hi - lo+1) (by omega)
 have hc:=Int.emod_lt_of_pos a (b:=hi - lo+1) (by omega)
 omega
theorem within_ok (a lo hi:Int) (h:lo≤hi) (h1 : -1000000≤lo) (h2:hi≤1000000):SFun prog 7 [.int .i64 a,.int .i64 lo,.int .i64 hi] (mkS []) fun l s=>l=.int .i64 (wthV a lo hi)∧s=mkS []:=by
 refine SFun.mono (SFun.vc (Q:=fun l b=>l=.int .i64 (wthV a lo hi)∧b=[]) noCx_ok (n:=40) 0 rfl ?_) fun l s' ⟨b0,⟨h1,h2⟩,h3⟩=>⟨h1,by rw [h3,h2]⟩
 have hq:=Int.emod_nonneg a (b:=hi - lo+1) (by omega)
 have e1:xar .sub .i64 hi lo=hi - lo:=sub_i64 (by omega) (by omega)
 have e2:xar .add .i64 (hi - lo) 1=hi - lo+1:=add_i64 (by omega) (by omega)
 have e3:xar .rem .i64 a (hi - lo+1)=a.tmod (hi - lo+1):=xar_rem _ _ _ (by omega)
 obtain⟨t1,t2,t3⟩:=tmod_pos a (hi - lo+1) (by omega)
 rw [within_x,e1,e2,e3]
 refine must (t_neq (by omega)) ?_
 rw [xcm_lss]
 refine ite_way (fun hn=>?_) (fun hn=>?_)
 ·have e:xar .add .i64 lo (xar .add .i64 (xar .sub .i64 (xar .add .i64 (a.tmod (hi - lo+1)) hi) lo) 1)=wthV a lo hi:=by
   simp only [wthV]
   rw [add_i64 (x:=a.tmod (hi - lo+1)) (by omega) (by omega),sub_i64 (by omega) (by omega),add_i64 (x:=a.tmod (hi - lo+1)+hi - lo) (by omega) (by omega),add_i64 (by omega) (by omega)]
   omega
  rw [e]
  exact⟨rfl,_,[],[],⟨rfl,rfl⟩,by(exact zC)⟩
 ·have e:xar .add .i64 lo (a.tmod (hi - lo+1))=wthV a lo hi:=by
   simp only [wthV]
   rw [add_i64 (by omega) (by omega)]; omega
  rw [e]
  exact⟨rfl,_,[],[],⟨rfl,rfl⟩,by(exact zC)⟩
theorem withinG_ok:GOk prog 7 withinG:=by
 intro args s bs l s' hg hb hfr
 unfold withinG at hg
 split at hg
 ·rename_i a lo hi hgl
  simp only [Option.some.injEq,Prod.mk.injEq] at hg
  obtain⟨rfl,rfl,rfl⟩:=hg
  obtain⟨k1,hb⟩:=allT_cons.1 hb
  obtain⟨k2,hb⟩:=allT_cons.1 hb
  have k3:=(allT_cons.1 hb).1
  rw [xcm_leq,decide_eq_true_eq] at k1 k2 k3
  exact SFun.pure hfr hgl rfl rfl (within_ok a lo hi k1 k2 k3)
 ·cases hg
inductive J5 where | a0 | a1 | a2 | a3 | a4
def J5.v:J5→Int | .a0=>0 | .a1=>1 | .a2=>2 | .a3=>3 | .a4=>4
def J5.m:J5→Nat | .a0=>4 | .a1=>3 | .a2=>2 | .a3=>1 | .a4=>0
theorem ls_lens2 {us:Row} {r1 r2 r3 r4:Row} (h:lsAll us=some (r1,r2,r3,r4)):r1.length≤256∧r2.length≤256∧r3.length≤256∧r4.length≤256:=by
 have key:∀ {ws:List Int} {bs:List Blk} {c a:Int} {row r:List Int},lsW ws bs c a row=some r→r.length≤row.length+lft bs row:=fun {ws bs c a row r}=>by
  intro h
  induction row using WellFounded.induction (measure (lft bs)).wf generalizing a with
  | _ row ih =>
    by_cases e:a=0
    ·subst e; rw [lsW_end] at h; cases h; omega
    ·by_cases k:isBk bs c a∧a ∉ row
     ·rw [lsW_go e k] at h
      have h2:=lft_lt k.1 k.2
      have h1:=ih _ h2 h
      have L1:(row++[a]).length=row.length+1:=by simp
      omega
     ·rw [lsW_bad e k] at h; cases h
 cases hb:bkF us with
 | none=>rw [lsAll_b hb] at h; cases h
 | some bs =>
   have h0:∀ c r,ls1 us bs c=some r→r.length≤256:=fun c r hr=>by
    have:=key hr
    have h1:=bkF_n hb; have h2:=lft_0 bs
    simp only [List.length_nil,Nat.zero_add] at this
    omega
   rw [lsAll,hb] at h
   simp only [Option.bind_some,Option.bind_eq_some_iff] at h
   obtain⟨s1,e1,s2,e2,s3,e3,s4,e4,e5⟩:=h
   cases e5
   exact⟨h0 _ _ e1,h0 _ _ e2,h0 _ _ e3,h0 _ _ e4⟩
def cxwd:Cx:=cxl [(7,withinG)]
abbrev wdS:List Code:=sp prog 6
abbrev wdL:List Nat:=[1,2,6,7,8,9,10]
abbrev wdT0 (m N:Nat) (i:Int):List (Nat×LV):=[(1,.nils),(2,.slo 0 0 m 0),(7,.slo 1 0 N 0),(8,.int .i64 i)]
abbrev wdT (m N p i:Nat):List (Nat×LV):=[(2,.slo 0 0 m 0),(7,.slo 1 0 N 0),(9,.int .i64 p),(10,.int .i64 i)]
abbrev wdH (bx wc:List LV):List LB:=[.ro bx,.cells wc (some 1)]
theorem wq_a (n:Int) (m:Nat) (bx:List LV) (K:Pk):(xsp prog cxwd 40 114 (seg wdS 0 4) (tm0 [.int .i64 n,.nils,.slo 0 0 m 0]) (mkS [.ro bx]) (vK wdL K))=(
 ck (xnn (wthV n 32 80)) <|
 ck (xnn (wthV n 32 80)) <|
 ck (xle (xnat (wthV n 32 80)) (xnat (wthV n 32 80))) <|
 ck (xle (xnat (wthV n 32 80)) 100000) <|
 ck (xle 6 (xnat (wthV n 32 80))) <|
 ck (xle 6 (xln (xrep (xnat (wthV n 32 80)) [.int .u64 0]))) <|
 K .normal [.nils,.slo 0 0 m 0,.nils,.sl 1 0 (xnat (wthV n 32 80)) (xnat (wthV n 32 80)),.int .i64 0,.tup [],.tup []] [some (.ro bx),sN (xlay (xrep (xnat (wthV n 32 80)) [.int .u64 0]) 5 [.int .u64 14])] []):=by kernel_rfl
theorem wq_b (m N:Nat) (bx wc:List LV) (K:Pk):(xcode prog cxwd 40 114 (loopOf (nthC wdS 4)) (mkTm 114 (wdT0 m N 0)) (mkS (wdH bx wc)) (vK wdL K))=(
 K (.exit 0) [.nils,.slo 0 0 m 0,.any,.slo 1 0 N 0,.int .i64 0,.any,.any] [some (.ro bx),sC wc 1] []):=by kernel_rfl
theorem wq_c (m N:Nat) (bx wc:List LV) (K:Pk):(xsp prog cxwd 40 114 (seg wdS 5 2) (mkTm 114 (wdT0 m N 0)) (mkS (wdH bx wc)) (vK wdL K))=(
 K .normal [.nils,.slo 0 0 m 0,.any,.slo 1 0 N 0,.int .i64 0,.int .i64 14,.int .i64 0] [some (.ro bx),sC wc 1] []):=by kernel_rfl
theorem wq_d (m N p i:Nat) (bx wc:List LV) (K:Pk):(xcode prog cxwd 40 114 (loopOf (nthC wdS 7)) (mkTm 114 (wdT m N p i)) (mkS (wdH bx wc)) (vK wdL K))=(
 bif xcm .lss ↑i ↑m then(
 bif xcm .lss (↑i) 8 then(
 ck (xle (xadd (xnat ↑i) 1) m) <|
 ck (xle (xadd (xix 0 (xnat ↑i) 1) 1) (xln bx)) <|
 ck (isI .u8 (nthD bx (xix 0 (xnat ↑i) 1))) <|
 ck (xnn (xwr .u64 (xar .add .i64 (xwr .i64 (xar .rem .u8 (asI (nthD bx (xix 0 (xnat ↑i) 1))) 3)) 1))) <|
 bif xcm .gtr (xar .add .i64 (xar .add .i64 (↑p) 1) (xsh .shl .i64 1 (xwr .u64 (xar .add .i64 (xwr .i64 (xar .rem .u8 (asI (nthD bx (xix 0 (xnat ↑i) 1))) 3)) 1)))) ↑N then(
 K (.exit 2) [.any,.slo 0 0 m 0,.any,.slo 1 0 N 0,.any,.int .i64 ↑p,.int .i64 ↑i] [some (.ro bx),sC wc 1] [])
 else(
 ck (xle (xadd (xnat ↑p) 1) N) <|
 ck (xle (xadd (xix 0 (xnat ↑p) 1) 1) (xln wc)) <|
 ck (xle (xadd (xnat ↑i) 1) m) <|
 ck (xle (xadd (xix 0 (xnat ↑i) 1) 1) (xln bx)) <|
 ck (isI .u8 (nthD bx (xix 0 (xnat ↑i) 1))) <|
 bif xcm .gtr (xar .and .u8 (asI (nthD bx (xix 0 (xnat ↑i) 1))) 16) 0 then(
 ck (xle (xadd (xnat ↑p) 1) N) <|
 ck (xle (xadd (xix 0 (xnat ↑p) 1) 1) (xln (xlay wc (xix 0 (xnat ↑p) 1) [.int .u64 (xwr .u64 (xar .add .i64 (xwr .i64 (xar .rem .u8 (asI (nthD bx (xix 0 (xnat ↑i) 1))) 3)) 1))]))) <|
 ck (xnn (xwr .u64 (xar .add .i64 (xwr .i64 (xar .rem .u8 (asI (nthD bx (xix 0 (xnat ↑i) 1))) 3)) 1))) <|
 ck (xle 6 N) <|
 ck (xle 6 (xln (xlay (xlay wc (xix 0 (xnat ↑p) 1) [.int .u64 (xwr .u64 (xar .add .i64 (xwr .i64 (xar .rem .u8 (asI (nthD bx (xix 0 (xnat ↑i) 1))) 3)) 1))]) (xix 0 (xnat ↑p) 1) [.int .u64 (xwr .u64 (xar .add .i64 (xar .add .i64 (xwr .i64 (xar .rem .u8 (asI (nthD bx (xix 0 (xnat ↑i) 1))) 3)) 1) 8))]))) <|
 K .normal [.any,.slo 0 0 m 0,.any,.slo 1 0 N 0,.any,.int .i64 (xar .add .i64 (xar .add .i64 (↑p) 1) (xsh .shl .i64 1 (xwr .u64 (xar .add .i64 (xwr .i64 (xar .rem .u8 (asI (nthD bx (xix 0 (xnat ↑i) 1))) 3)) 1)))),.int .i64 (xar .add .i64 (↑i) 1)] [some (.ro bx),sC (xlay (xlay (xlay wc (xix 0 (xnat ↑p) 1) [.int .u64 (xwr .u64 (xar .add .i64 (xwr .i64 (xar .rem .u8 (asI (nthD bx (xix 0 (xnat ↑i) 1))) 3)) 1))]) (xix 0 (xnat ↑p) 1) [.int .u64 (xwr .u64 (xar .add .i64 (xar .add .i64 (xwr .i64 (xar .rem .u8 (asI (nthD bx (xix 0 (xnat ↑i) 1))) 3)) 1) 8))]) 5 [.int .u64 (xwr .u64 (xar .add .i64 (xar .add .i64 (↑p) 1) (xsh .shl .i64 1 (xwr .u64 (xar .add .i64 (xwr .i64 (xar .rem .u8 (asI (nthD bx (xix 0 (xnat ↑i) 1))) 3)) 1)))))]) 1] [])
 else(
 ck (xle (xadd (xnat ↑i) 1) m) <|
 ck (xle (xadd (xix 0 (xnat ↑i) 1) 1) (xln bx)) <|
 ck (isI .u8 (nthD bx (xix 0 (xnat ↑i) 1))) <|
 bif xcm .gtr (xar .and .u8 (asI (nthD bx (xix 0 (xnat ↑i) 1))) 32) 0 then(
 ck (xnn (xar .sub .i64 (xar .add .i64 1 (xar .add .i64 (xwr .i64 (xar .rem .u8 (asI (nthD bx (xix 0 (xnat ↑i) 1))) 3)) 1)) 1)) <|
 ck (xle (xadd (xnat (xar .sub .i64 (xar .add .i64 1 (xar .add .i64 (xwr .i64 (xar .rem .u8 (asI (nthD bx (xix 0 (xnat ↑i) 1))) 3)) 1)) 1)) 1) N) <|
 ck (xle (xadd (xix 0 (xnat (xar .sub .i64 (xar .add .i64 1 (xar .add .i64 (xwr .i64 (xar .rem .u8 (asI (nthD bx (xix 0 (xnat ↑i) 1))) 3)) 1)) 1)) 1) 1) (xln (xlay wc (xix 0 (xnat ↑p) 1) [.int .u64 (xwr .u64 (xar .add .i64 (xwr .i64 (xar .rem .u8 (asI (nthD bx (xix 0 (xnat ↑i) 1))) 3)) 1))]))) <|
 ck (isI .u64 (nthD (xlay wc (xix 0 (xnat ↑p) 1) [.int .u64 (xwr .u64 (xar .add .i64 (xwr .i64 (xar .rem .u8 (asI (nthD bx (xix 0 (xnat ↑i) 1))) 3)) 1))]) (xix 0 (xnat (xar .sub .i64 (xar .add .i64 1 (xar .add .i64 (xwr .i64 (xar .rem .u8 (asI (nthD bx (xix 0 (xnat ↑i) 1))) 3)) 1)) 1)) 1))) <|
 ck (xnn (xar .add .i64 (↑p) 1)) <|
 ck (xle (xadd (xnat (xar .add .i64 (↑p) 1)) 1) N) <|
 ck (xle (xadd (xix 0 (xnat (xar .add .i64 (↑p) 1)) 1) 1) (xln (xlay wc (xix 0 (xnat ↑p) 1) [.int .u64 (xwr .u64 (xar .add .i64 (xwr .i64 (xar .rem .u8 (asI (nthD bx (xix 0 (xnat ↑i) 1))) 3)) 1))]))) <|
 ck (xnn (xar .sub .i64 (xar .add .i64 1 (xar .add .i64 (xwr .i64 (xar .rem .u8 (asI (nthD bx (xix 0 (xnat ↑i) 1))) 3)) 1)) 1)) <|
 ck (xle (xadd (xnat (xar .sub .i64 (xar .add .i64 1 (xar .add .i64 (xwr .i64 (xar .rem .u8 (asI (nthD bx (xix 0 (xnat ↑i) 1))) 3)) 1)) 1)) 1) N) <|
 ck (xle (xadd (xix 0 (xnat (xar .sub .i64 (xar .add .i64 1 (xar .add .i64 (xwr .i64 (xar .rem .u8 (asI (nthD bx (xix 0 (xnat ↑i) 1))) 3)) 1)) 1)) 1) 1) (xln (xlay (xlay wc (xix 0 (xnat ↑p) 1) [.int .u64 (xwr .u64 (xar .add .i64 (xwr .i64 (xar .rem .u8 (asI (nthD bx (xix 0 (xnat ↑i) 1))) 3)) 1))]) (xix 0 (xnat (xar .add .i64 (↑p) 1)) 1) [.int .u64 (asI (nthD (xlay wc (xix 0 (xnat ↑p) 1) [.int .u64 (xwr .u64 (xar .add .i64 (xwr .i64 (xar .rem .u8 (asI (nthD bx (xix 0 (xnat ↑i) 1))) 3)) 1))]) (xix 0 (xnat (xar .sub .i64 (xar .add .i64 1 (xar .add .i64 (xwr .i64 (xar .rem .u8 (asI (nthD bx (xix 0 (xnat ↑i) 1))) 3)) 1)) 1)) 1)))]))) <|
 ck (xnn (xwr .u64 (xar .add .i64 (xwr .i64 (xar .rem .u8 (asI (nthD bx (xix 0 (xnat ↑i) 1))) 3)) 1))) <|
 ck (xle 6 N) <|
 ck (xle 6 (xln (xlay (xlay (xlay wc (xix 0 (xnat ↑p) 1) [.int .u64 (xwr .u64 (xar .add .i64 (xwr .i64 (xar .rem .u8 (asI (nthD bx (xix 0 (xnat ↑i) 1))) 3)) 1))]) (xix 0 (xnat (xar .add .i64 (↑p) 1)) 1) [.int .u64 (asI (nthD (xlay wc (xix 0 (xnat ↑p) 1) [.int .u64 (xwr .u64 (xar .add .i64 (xwr .i64 (xar .rem .u8 (asI (nthD bx (xix 0 (xnat ↑i) 1))) 3)) 1))]) (xix 0 (xnat (xar .sub .i64 (xar .add .i64 1 (xar .add .i64 (xwr .i64 (xar .rem .u8 (asI (nthD bx (xix 0 (xnat ↑i) 1))) 3)) 1)) 1)) 1)))]) (xix 0 (xnat (xar .sub .i64 (xar .add .i64 1 (xar .add .i64 (xwr .i64 (xar .rem .u8 (asI (nthD bx (xix 0 (xnat ↑i) 1))) 3)) 1)) 1)) 1) [.int .u64 (xwr .u64 (xar .add .i64 (↑p) 1))]))) <|
 K .normal [.any,.slo 0 0 m 0,.any,.slo 1 0 N 0,.any,.int .i64 (xar .add .i64 (xar .add .i64 (↑p) 1) (xsh .shl .i64 1 (xwr .u64 (xar .add .i64 (xwr .i64 (xar .rem .u8 (asI (nthD bx (xix 0 (xnat ↑i) 1))) 3)) 1)))),.int .i64 (xar .add .i64 (↑i) 1)] [some (.ro bx),sC (xlay (xlay (xlay (xlay wc (xix 0 (xnat ↑p) 1) [.int .u64 (xwr .u64 (xar .add .i64 (xwr .i64 (xar .rem .u8 (asI (nthD bx (xix 0 (xnat ↑i) 1))) 3)) 1))]) (xix 0 (xnat (xar .add .i64 (↑p) 1)) 1) [.int .u64 (asI (nthD (xlay wc (xix 0 (xnat ↑p) 1) [.int .u64 (xwr .u64 (xar .add .i64 (xwr .i64 (xar .rem .u8 (asI (nthD bx (xix 0 (xnat ↑i) 1))) 3)) 1))]) (xix 0 (xnat (xar .sub .i64 (xar .add .i64 1 (xar .add .i64 (xwr .i64 (xar .rem .u8 (asI (nthD bx (xix 0 (xnat ↑i) 1))) 3)) 1)) 1)) 1)))]) (xix 0 (xnat (xar .sub .i64 (xar .add .i64 1 (xar .add .i64 (xwr .i64 (xar .rem .u8 (asI (nthD bx (xix 0 (xnat ↑i) 1))) 3)) 1)) 1)) 1) [.int .u64 (xwr .u64 (xar .add .i64 (↑p) 1))]) 5 [.int .u64 (xwr .u64 (xar .add .i64 (xar .add .i64 (↑p) 1) (xsh .shl .i64 1 (xwr .u64 (xar .add .i64 (xwr .i64 (xar .rem .u8 (asI (nthD bx (xix 0 (xnat ↑i) 1))) 3)) 1)))))]) 1] [])
 else(
 ck (xnn (xwr .u64 (xar .add .i64 (xwr .i64 (xar .rem .u8 (asI (nthD bx (xix 0 (xnat ↑i) 1))) 3)) 1))) <|
 ck (xle 6 N) <|
 ck (xle 6 (xln (xlay wc (xix 0 (xnat ↑p) 1) [.int .u64 (xwr .u64 (xar .add .i64 (xwr .i64 (xar .rem .u8 (asI (nthD bx (xix 0 (xnat ↑i) 1))) 3)) 1))]))) <|
 K .normal [.any,.slo 0 0 m 0,.any,.slo 1 0 N 0,.any,.int .i64 (xar .add .i64 (xar .add .i64 (↑p) 1) (xsh .shl .i64 1 (xwr .u64 (xar .add .i64 (xwr .i64 (xar .rem .u8 (asI (nthD bx (xix 0 (xnat ↑i) 1))) 3)) 1)))),.int .i64 (xar .add .i64 (↑i) 1)] [some (.ro bx),sC (xlay (xlay wc (xix 0 (xnat ↑p) 1) [.int .u64 (xwr .u64 (xar .add .i64 (xwr .i64 (xar .rem .u8 (asI (nthD bx (xix 0 (xnat ↑i) 1))) 3)) 1))]) 5 [.int .u64 (xwr .u64 (xar .add .i64 (xar .add .i64 (↑p) 1) (xsh .shl .i64 1 (xwr .u64 (xar .add .i64 (xwr .i64 (xar .rem .u8 (asI (nthD bx (xix 0 (xnat ↑i) 1))) 3)) 1)))))]) 1] []))))
 else(
 K (.exit 2) [.any,.slo 0 0 m 0,.any,.slo 1 0 N 0,.any,.int .i64 ↑p,.int .i64 ↑i] [some (.ro bx),sC wc 1] []))
 else(
 K (.exit 2) [.any,.slo 0 0 m 0,.any,.slo 1 0 N 0,.any,.int .i64 ↑p,.int .i64 ↑i] [some (.ro bx),sC wc 1] [])):=by kernel_rfl
theorem wq_z (m N p i:Nat) (bx wc:List LV) (K:Pk):(xsp prog cxwd 40 114 (wdS.drop 8) (mkTm 114 (wdT m N p i)) (mkS (wdH bx wc)) (vK wdL K))=(
 K .ret [.any,.slo 0 0 m 0,.slo 1 0 N 0,.slo 1 0 N 0,.any,.int .i64 ↑p,.int .i64 ↑i] [some (.ro bx),sC wc 1] []):=by kernel_rfl
end
end Go.Lev
