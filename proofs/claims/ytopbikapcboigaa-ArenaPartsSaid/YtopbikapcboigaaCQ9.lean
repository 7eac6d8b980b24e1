/- chapter 11: ArenaParts: trees -/
import Derived.Test.YtopbikapcboigaaCQ8
import Derived.Test.YtopbikapcboigaaLc
import Derived.Test.YtopbikapcboigaaChecked
import Derived.KernelRfl
namespace Go.Lev
set_option linter.unusedSimpArgs false
set_option linter.unusedVariables false
open Go.RowKit
open Go.Proofs.Try (prog)
set_option maxRecDepth 100000
noncomputable section
def pOk (wc sc:List LV):Bool:=@decide (∃ (ws st:List Int) (e:Nat) (cs:List (Nat×Nat)) (R:Nat→List Nat),wc=encL (cI .u64) ws∧sc=encL (cI .i64) st∧PI ws st e cs R∧inU ws) (Classical.propDecidable _)
theorem parted_c (n m:Nat) (wc sc:List LV) (k1:okU wc n=true) (k2:okIi64 sc m=true) (k3:pOk wc sc=true):SFun prog 37 [.slo 0 0 n 0,.slo 1 0 m 0] (mkS [.cells wc (some 1),.cells sc (some 1)]) fun l t=>l=.bool true∧t=mkS [.cells wc (some 1),.cells sc (some 1)]:=by
 simp only [pOk,decide_eq_true_eq] at k3
 obtain⟨ws,st,e,cs,R,rfl,rfl,I,hu⟩:=k3
 obtain⟨us,e1,rfl,_,_⟩:=okU_iff.1 k1
 obtain⟨xs,e2,rfl,_⟩:=okIi64_iff.1 k2
 have e3:us=ws:=by have:=congrArg decIu64 e1; simpa [decIu64_enc] using this.symm
 have e4:xs=st:=by have:=congrArg decIi64 e2; simpa [decIi64_enc] using this.symm
 subst e3 e4
 exact parted_ok I hu
theorem Iip_no {tc:List LV} {m:Nat} (h:okIi64 tc m=true):noIds tc=true:=by obtain⟨_,e,_⟩:=okIi64_iff.1 h; rw [e]; exact noIds_Ii64 _
def parG:Gc:=fun args s=>match args,s.g with
 | [.slo a 0 n 0,.slo b 0 m 0],[]=>(match s.h.get a with
   | some (.cells wc (some 1))=>(match s.h.get b with
     | some (.cells sc (some 1))=>cond (nodupB [a,b]) (match s.lay [a,b] [.cells wc (some 1),.cells sc (some 1)] [] with
       | some s'=>some ([okU wc n,okIi64 sc m,pOk wc sc],.bool true,s')
       | none=>none) none
     | _=>none)
   | _=>none)
 | _,_=>none
theorem parG_ok:GOk prog 37 parG:=by
 intro args s bs l s' hg hb hfr
 unfold parG at hg
 split at hg
 ·rename_i a n b m hgl
  split at hg
  ·rename_i wc hb0
   split at hg
   ·rename_i sc hb1
    cases hbc:nodupB [a,b] with
    | false=>rw [hbc] at hg; cases hg
    | true =>
      rw [hbc] at hg
      simp only [cond_true] at hg
      split at hg
      ·rename_i s1 hs1
       simp only [Option.some.injEq,Prod.mk.injEq] at hg
       obtain⟨rfl,rfl,rfl⟩:=hg
       simp only [allT_cons] at hb
       obtain⟨k1,k2,k3,_⟩:=hb
       have no1:=okU_no k1
       have no2:=Iip_no k2
       refine SFun.lay (bs:=[.cells wc (some 1),.cells sc (some 1)]) (args0:=[.slo 0 0 n 0,.slo 1 0 m 0]) (bs':=[.cells wc (some 1),.cells sc (some 1)]) (v0:=.bool true) hfr hs1 (nodupB_nd hbc)
        ⟨⟨there hfr hb0,_,hb0,lb_same (by(exact zId)),fun κ hκ=>lb_same (by(exact zId))⟩,⟨there hfr hb1,_,hb1,lb_same (by(exact zId)),fun κ hκ=>lb_same (by(exact zId))⟩,trivial⟩ (by(exact zTl)) ?_
        fun κ h1 h2=>⟨⟨lb_same (by(exact zId)),lb_same (by(exact zId)),trivial⟩,lw_bool⟩
       rw [hgl]; exact(parted_c n m wc sc k1 k2 k3)
      ·cases hg
   ·cases hg
  ·cases hg
 ·cases hg
def szJ (n:Int):Nat:=(min (max n 32) 256).toNat
theorem szJ_b (n:Int):32≤szJ n∧szJ n≤256:=by unfold szJ; omega
theorem szJ_x (n:Int):xmn (xmx n 32) 256=(szJ n:Int):=by unfold szJ; simp only [wd_mn,wd_mx]; split <;> (try split) <;> omega
def szI (n:Int):Nat:=szJ n
def frsL (k:Nat):List Int:=(List.replicate k 0).set 5 14
def frsC (n:Int):List LV:=encL (cI .u64) (frsL (szJ n))
theorem frs_x (n:Int) (K:Fk):(xfun prog (fun _=>none) 40 11 [.int .i64 n] (mkS []) (vF K))=(
 ck (xnn (xmn (xmx n 32) 256)) <|
 ck (xnn (xmn (xmx n 32) 256)) <|
 ck (xle (xnat (xmn (xmx n 32) 256)) (xnat (xmn (xmx n 32) 256))) <|
 ck (xle (xnat (xmn (xmx n 32) 256)) 100000) <|
 ck (xle 6 (xnat (xmn (xmx n 32) 256))) <|
 ck (xle 6 (xln (xrep (xnat (xmn (xmx n 32) 256)) [.int .u64 0]))) <|
 K (.sl 0 0 (xnat (xmn (xmx n 32) 256)) (xnat (xmn (xmx n 32) 256))) [sN (xlay (xrep (xnat (xmn (xmx n 32) 256)) [.int .u64 0]) 5 [.int .u64 14])] []):=by kernel_rfl
theorem frs_f (n:Int):SFun prog 11 [.int .i64 n] (mkS []) fun l s=>l=.slo 0 0 (szI n) 0∧s=mkS [.cells (frsC n) (some 1)]:=by
 refine SFun.mono (SFun.vc (Q:=fun l b=>l=.slo 0 0 (szI n) 0∧b=[.cells (frsC n) (some 1)]) noCx_ok (n:=40) 0 rfl ?_) fun l s' ⟨b0,⟨h1,h2⟩,h3⟩=>⟨h1,by rw [h3,h2]⟩
 have hb:=szJ_b n
 rw [frs_x]
 simp only [szJ_x]
 have e1:xrep (szJ n) [.int .u64 0]=encL (cI .u64) (List.replicate (szJ n) 0):=rep_enc _
 have e2:xlay (encL (cI .u64) (List.replicate (szJ n) 0)) 5 [.int .u64 14]=encL (cI .u64) (frsL (szJ n)):=set_I _ 5 14 (by simp; omega)
 have nn:=noIds_Iu64 (frsL (szJ n))
 have ll:(encL (cI .u64) (frsL (szJ n))).length=szJ n * 1:=by rw [encIu64_len,frsL,List.length_set,List.length_replicate,Nat.mul_one]
 have l2:(encL (cI .u64) (List.replicate (szJ n) 0)).length=szJ n:=by rw [encIu64_len,List.length_replicate]
 (refine zN4 @e1 @e2 @ll @l2 ?_)
 (refine zR ?_)
 exact⟨rfl,_,_,[.cap 0 0 (szJ n)],⟨rfl,rfl⟩,by(exact zC)⟩
def frsG:Gc:=fun args s=>match args,s.g with
 | [.int .i64 n],[]=>(match s.lay [] [] [.cells (frsC n) (some 1)] with
   | some s'=>some ([],.slo s.n 0 (szI n) 0,s')
   | none=>none)
 | _,_=>none
theorem frsG_ok:GOk prog 11 frsG:=by
 intro args s bs l s' hg hb hfr
 unfold frsG at hg
 split at hg
 ·rename_i n hgl
  split at hg
  ·rename_i s1 hs1
   simp only [Option.some.injEq,Prod.mk.injEq] at hg
   obtain⟨rfl,rfl,rfl⟩:=hg
   refine SFun.lay (bs:=[]) (args0:=[.int .i64 n]) (bs':=[.cells (frsC n) (some 1)]) (v0:=.slo 0 0 (szI n) 0) hfr hs1 (by simp)
    trivial (by(exact zTl)) ?_
    fun κ h1 h2=>⟨⟨lb_same (noIds_Iu64 _),trivial⟩,lw_slo (h2 0 (by simp))⟩
   rw [hgl]; exact(frs_f n)
  ·cases hg
 ·cases hg
def cxap:Cx:=cxl [(3,runG),(11,frsG),(10,whO),(35,withinG),(12,alG),(13,frG),(14,gvG),(64,lcellsG),(36,raG),(37,parG)]
abbrev apS:List Code:=sp prog 7
abbrev apL:List Nat:=[1,4,5,6,7]
abbrev apT (m sz i:Nat):List (Nat×LV):=[(1,.slo 0 0 m 0),(5,.slo 1 0 sz 0),(6,.slo 2 0 257 0),(7,.int .i64 i)]
abbrev apH (ax wc sc:List LV):List LB:=[.ro ax,.cells wc (some 1),.cells sc (some 1)]
theorem ap_a (w:Int) (m:Nat) (ax:List LV) (K:Pk):(xsp prog cxap 60 141 (seg apS 0 6) (tm0 [.int .i64 w,.slo 0 0 m 0]) (mkS [.ro ax]) (vK apL K))=(
 K .normal [.slo 0 0 m 0,.bool false,.slo 1 0 (szI w) 0,.sl 2 0 257 257,.int .i64 0] [some (.ro ax),sC (frsC w) 1,sN [.int .i64 0,.int .i64 0,.int .i64 0,.int .i64 0,.int .i64 0,.int .i64 0,.int .i64 0,.int .i64 0,.int .i64 0,.int .i64 0,.int .i64 0,.int .i64 0,.int .i64 0,.int .i64 0,.int .i64 0,.int .i64 0,.int .i64 0,.int .i64 0,.int .i64 0,.int .i64 0,.int .i64 0,.int .i64 0,.int .i64 0,.int .i64 0,.int .i64 0,.int .i64 0,.int .i64 0,.int .i64 0,.int .i64 0,.int .i64 0,.int .i64 0,.int .i64 0,.int .i64 0,.int .i64 0,.int .i64 0,.int .i64 0,.int .i64 0,.int .i64 0,.int .i64 0,.int .i64 0,.int .i64 0,.int .i64 0,.int .i64 0,.int .i64 0,.int .i64 0,.int .i64 0,.int .i64 0,.int .i64 0,.int .i64 0,.int .i64 0,.int .i64 0,.int .i64 0,.int .i64 0,.int .i64 0,.int .i64 0,.int .i64 0,.int .i64 0,.int .i64 0,.int .i64 0,.int .i64 0,.int .i64 0,.int .i64 0,.int .i64 0,.int .i64 0,.int .i64 0,.int .i64 0,.int .i64 0,.int .i64 0,.int .i64 0,.int .i64 0,.int .i64 0,.int .i64 0,.int .i64 0,.int .i64 0,.int .i64 0,.int .i64 0,.int .i64 0,.int .i64 0,.int .i64 0,.int .i64 0,.int .i64 0,.int .i64 0,.int .i64 0,.int .i64 0,.int .i64 0,.int .i64 0,.int .i64 0,.int .i64 0,.int .i64 0,.int .i64 0,.int .i64 0,.int .i64 0,.int .i64 0,.int .i64 0,.int .i64 0,.int .i64 0,.int .i64 0,.int .i64 0,.int .i64 0,.int .i64 0,.int .i64 0,.int .i64 0,.int .i64 0,.int .i64 0,.int .i64 0,.int .i64 0,.int .i64 0,.int .i64 0,.int .i64 0,.int .i64 0,.int .i64 0,.int .i64 0,.int .i64 0,.int .i64 0,.int .i64 0,.int .i64 0,.int .i64 0,.int .i64 0,.int .i64 0,.int .i64 0,.int .i64 0,.int .i64 0,.int .i64 0,.int .i64 0,.int .i64 0,.int .i64 0,.int .i64 0,.int .i64 0,.int .i64 0,.int .i64 0,.int .i64 0,.int .i64 0,.int .i64 0,.int .i64 0,.int .i64 0,.int .i64 0,.int .i64 0,.int .i64 0,.int .i64 0,.int .i64 0,.int .i64 0,.int .i64 0,.int .i64 0,.int .i64 0,.int .i64 0,.int .i64 0,.int .i64 0,.int .i64 0,.int .i64 0,.int .i64 0,.int .i64 0,.int .i64 0,.int .i64 0,.int .i64 0,.int .i64 0,.int .i64 0,.int .i64 0,.int .i64 0,.int .i64 0,.int .i64 0,.int .i64 0,.int .i64 0,.int .i64 0,.int .i64 0,.int .i64 0,.int .i64 0,.int .i64 0,.int .i64 0,.int .i64 0,.int .i64 0,.int .i64 0,.int .i64 0,.int .i64 0,.int .i64 0,.int .i64 0,.int .i64 0,.int .i64 0,.int .i64 0,.int .i64 0,.int .i64 0,.int .i64 0,.int .i64 0,.int .i64 0,.int .i64 0,.int .i64 0,.int .i64 0,.int .i64 0,.int .i64 0,.int .i64 0,.int .i64 0,.int .i64 0,.int .i64 0,.int .i64 0,.int .i64 0,.int .i64 0,.int .i64 0,.int .i64 0,.int .i64 0,.int .i64 0,.int .i64 0,.int .i64 0,.int .i64 0,.int .i64 0,.int .i64 0,.int .i64 0,.int .i64 0,.int .i64 0,.int .i64 0,.int .i64 0,.int .i64 0,.int .i64 0,.int .i64 0,.int .i64 0,.int .i64 0,.int .i64 0,.int .i64 0,.int .i64 0,.int .i64 0,.int .i64 0,.int .i64 0,.int .i64 0,.int .i64 0,.int .i64 0,.int .i64 0,.int .i64 0,.int .i64 0,.int .i64 0,.int .i64 0,.int .i64 0,.int .i64 0,.int .i64 0,.int .i64 0,.int .i64 0,.int .i64 0,.int .i64 0,.int .i64 0,.int .i64 0,.int .i64 0,.int .i64 0,.int .i64 0,.int .i64 0,.int .i64 0,.int .i64 0,.int .i64 0,.int .i64 0,.int .i64 0,.int .i64 0,.int .i64 0,.int .i64 0,.int .i64 0,.int .i64 0,.int .i64 0,.int .i64 0,.int .i64 0,.int .i64 0,.int .i64 0,.int .i64 0]] []):=by kernel_rfl
abbrev ap_b_b1 (sz:Nat) (i:Nat) (ax:List LV) (wc:List LV) (sc:List LV):List (Option LB):=[some (.ro ax),sC wc 1,sC (xlay sc (xix 0 (xnat (alV (szQ sz) 96 (vhC wc sz) [.tup [.agg [],.agg []]] (wthV (asI (nthD ax (xadd (xix 0 (xnat ↑i) 3) 1))) 1 16))) 1) [.int .i64 1]) 1,sN [.slo 4 0 (vhN sz) 0,.slo 5 0 (szQ sz) 0,.int .i64 (alD (szQ sz) (vhC wc sz) [.tup [.agg [],.agg []]] (wthV (asI (nthD ax (xadd (xix 0 (xnat ↑i) 3) 1))) 1 16) 0),.ptr 6 0],sC (vhC wc sz) 2,sC (spW (szQ sz) (vhC wc sz)) 1,sN [.int .i64 96,.slo 7 0 (alN (szQ sz) 96 (vhC wc sz) [.tup [.agg [],.agg []]] (wthV (asI (nthD ax (xadd (xix 0 (xnat ↑i) 3) 1))) 1 16) 1) 0],some (.obj lvF (alC (szQ sz) 96 (vhC wc sz) [.tup [.agg [],.agg []]] (wthV (asI (nthD ax (xadd (xix 0 (xnat ↑i) 3) 1))) 1 16)) 11),sD,sD,sC (lcC (alC (szQ sz) 96 (vhC wc sz) [.tup [.agg [],.agg []]] (wthV (asI (nthD ax (xadd (xix 0 (xnat ↑i) 3) 1))) 1 16))) 2,sD,sC (apC wc (lcC (alC (szQ sz) 96 (vhC wc sz) [.tup [.agg [],.agg []]] (wthV (asI (nthD ax (xadd (xix 0 (xnat ↑i) 3) 1))) 1 16)))) 1]
abbrev ap_b_b2 (sz:Nat) (i:Nat) (ax:List LV) (wc:List LV) (sc:List LV):List (Option LB):=[some (.ro ax),sC wc 1,sC sc 1,sN [.slo 4 0 (vhN sz) 0,.slo 5 0 (szQ sz) 0,.int .i64 (alD (szQ sz) (vhC wc sz) [.tup [.agg [],.agg []]] (wthV (asI (nthD ax (xadd (xix 0 (xnat ↑i) 3) 1))) 1 16) 0),.ptr 6 0],sC (vhC wc sz) 2,sC (spW (szQ sz) (vhC wc sz)) 1,sN [.int .i64 96,.slo 7 0 (alN (szQ sz) 96 (vhC wc sz) [.tup [.agg [],.agg []]] (wthV (asI (nthD ax (xadd (xix 0 (xnat ↑i) 3) 1))) 1 16) 1) 0],some (.obj lvF (alC (szQ sz) 96 (vhC wc sz) [.tup [.agg [],.agg []]] (wthV (asI (nthD ax (xadd (xix 0 (xnat ↑i) 3) 1))) 1 16)) 9),sD,sD]
abbrev ap_b_b3 (sz:Nat) (i:Nat) (ax:List LV) (wc:List LV) (sc:List LV):List (Option LB):=[some (.ro ax),sC wc 1,sC sc 1,sN [.slo 4 0 (vhN sz) 0,.slo 5 0 (szQ sz) 0,.int .i64 (alD (szQ sz) (vhC wc sz) [.tup [.agg [],.agg []]] (wthV (asI (nthD ax (xadd (xix 0 (xnat ↑i) 3) 1))) 1 16) 0),.ptr 6 0],sC (vhC wc sz) 2,sC (spW (szQ sz) (vhC wc sz)) 1,sN [.int .i64 96,.slo 7 0 (alN (szQ sz) 96 (vhC wc sz) [.tup [.agg [],.agg []]] (wthV (asI (nthD ax (xadd (xix 0 (xnat ↑i) 3) 1))) 1 16) 1) 0],some (.obj lvF (alC (szQ sz) 96 (vhC wc sz) [.tup [.agg [],.agg []]] (wthV (asI (nthD ax (xadd (xix 0 (xnat ↑i) 3) 1))) 1 16)) 11),sD,sD,sC (lcC (alC (szQ sz) 96 (vhC wc sz) [.tup [.agg [],.agg []]] (wthV (asI (nthD ax (xadd (xix 0 (xnat ↑i) 3) 1))) 1 16))) 2,sD,sC (apC wc (lcC (alC (szQ sz) 96 (vhC wc sz) [.tup [.agg [],.agg []]] (wthV (asI (nthD ax (xadd (xix 0 (xnat ↑i) 3) 1))) 1 16)))) 1]
theorem ap_b (m sz i:Nat) (ax wc sc:List LV) (K:Pk):(xcode prog cxap 80 141 (loopOf (nthC apS 6)) (mkTm 141 (apT m sz i)) (mkS (apH ax wc sc)) (vK apL K))=(
 bif xcm .lss ↑i ↑m then(
 bif xcm .lss (↑i) 60 then(
 ck (okIu64 wc sz) <|
 ck (xle sz 1000000) <|
 ck (xle (xadd (xnat ↑i) 1) m) <|
 ck (xle (xadd (xadd (xix 0 (xnat ↑i) 3) 1) 1) (xln ax)) <|
 ck (isI .i64 (nthD ax (xadd (xix 0 (xnat ↑i) 3) 1))) <|
 ck (xle (xadd (xnat ↑i) 1) m) <|
 ck (xle (xadd (xix 0 (xnat ↑i) 3) 1) (xln ax)) <|
 ck (isI .i64 (nthD ax (xix 0 (xnat ↑i) 3))) <|
 bif xcm .eql (wthV (asI (nthD ax (xix 0 (xnat ↑i) 3))) 0 5) 0 then(
 ck (okK (szQ sz) (vhN sz) (vhC wc sz)) <|
 ck (eqL (spW (szQ sz) (vhC wc sz)) (spW (szQ sz) (vhC wc sz))) <|
 ck (okR 96 [.tup [.agg [],.agg []]] 1) <|
 ck (fbF (szQ sz) 96 (vhC wc sz) [.tup [.agg [],.agg []]] (wthV (asI (nthD ax (xadd (xix 0 (xnat ↑i) 3) 1))) 1 255)) <|
 ck (isF lvF lvF) <|
 ck (xnn (wthV (asI (nthD ax (xadd (xix 0 (xnat ↑i) 3) 1))) 1 255)) <|
 ck (xle (xadd (xnat (wthV (asI (nthD ax (xadd (xix 0 (xnat ↑i) 3) 1))) 1 255)) 1) 257) <|
 ck (xle (xadd (xix 0 (xnat (wthV (asI (nthD ax (xadd (xix 0 (xnat ↑i) 3) 1))) 1 255)) 1) 1) (xln sc)) <|
 ck (isI .i64 (nthD sc (xix 0 (xnat (wthV (asI (nthD ax (xadd (xix 0 (xnat ↑i) 3) 1))) 1 255)) 1))) <|
 bif xnot (xbq (xcm .eql (fbE (szQ sz) 96 (vhC wc sz) [.tup [.agg [],.agg []]] (wthV (asI (nthD ax (xadd (xix 0 (xnat ↑i) 3) 1))) 1 255)) 0) (xcm .eql (asI (nthD sc (xix 0 (xnat (wthV (asI (nthD ax (xadd (xix 0 (xnat ↑i) 3) 1))) 1 255)) 1))) 1)) then(
 K .ret [.slo 0 0 m 0,.bool false,.slo 1 0 sz 0,.slo 2 0 257 0,.int .i64 ↑i] [some (.ro ax),sC wc 1,sC sc 1,sN [.slo 4 0 (vhN sz) 0,.slo 5 0 (szQ sz) 0,.int .i64 (hrD (szQ sz) (vhC wc sz) [.tup [.agg [],.agg []]] (wthV (asI (nthD ax (xadd (xix 0 (xnat ↑i) 3) 1))) 1 255) 0),.ptr 6 0],sC (vhC wc sz) 2,sC (spW (szQ sz) (vhC wc sz)) 1,sN [.int .i64 96,.slo 7 0 (fbN (szQ sz) 96 (vhC wc sz) [.tup [.agg [],.agg []]] (wthV (asI (nthD ax (xadd (xix 0 (xnat ↑i) 3) 1))) 1 255) 1) 0],some (.obj lvF (fbC (szQ sz) 96 (vhC wc sz) [.tup [.agg [],.agg []]] (wthV (asI (nthD ax (xadd (xix 0 (xnat ↑i) 3) 1))) 1 255)) 9),sD,sD] [])
 else(
 bif xcm .eql (fbE (szQ sz) 96 (vhC wc sz) [.tup [.agg [],.agg []]] (wthV (asI (nthD ax (xadd (xix 0 (xnat ↑i) 3) 1))) 1 255)) 0 then(
 ck (xnn (wthV (asI (nthD ax (xadd (xix 0 (xnat ↑i) 3) 1))) 1 255)) <|
 ck (xle (xadd (xnat (wthV (asI (nthD ax (xadd (xix 0 (xnat ↑i) 3) 1))) 1 255)) 1) 257) <|
 ck (xle (xadd (xix 0 (xnat (wthV (asI (nthD ax (xadd (xix 0 (xnat ↑i) 3) 1))) 1 255)) 1) 1) (xln sc)) <|
 ck (okR 96 (fbC (szQ sz) 96 (vhC wc sz) [.tup [.agg [],.agg []]] (wthV (asI (nthD ax (xadd (xix 0 (xnat ↑i) 3) 1))) 1 255)) (fbN (szQ sz) 96 (vhC wc sz) [.tup [.agg [],.agg []]] (wthV (asI (nthD ax (xadd (xix 0 (xnat ↑i) 3) 1))) 1 255) 1)) <|
 ck (isF lvF lvF) <|
 ck (okIu64 wc sz) <|
 ck (okC (lcC (fbC (szQ sz) 96 (vhC wc sz) [.tup [.agg [],.agg []]] (wthV (asI (nthD ax (xadd (xix 0 (xnat ↑i) 3) 1))) 1 255))) (lcN (fbC (szQ sz) 96 (vhC wc sz) [.tup [.agg [],.agg []]] (wthV (asI (nthD ax (xadd (xix 0 (xnat ↑i) 3) 1))) 1 255)))) <|
 ck (xle (lcN (fbC (szQ sz) 96 (vhC wc sz) [.tup [.agg [],.agg []]] (wthV (asI (nthD ax (xadd (xix 0 (xnat ↑i) 3) 1))) 1 255))) 1000) <|
 ck (xle sz 1000000) <|
 K .normal [.slo 0 0 m 0,.any,.slo 12 0 (szQ sz) 0,.slo 2 0 257 0,.int .i64 (xar .add .i64 (↑i) 1)] [some (.ro ax),sC wc 1,sC (xlay sc (xix 0 (xnat (wthV (asI (nthD ax (xadd (xix 0 (xnat ↑i) 3) 1))) 1 255)) 1) [.int .i64 2]) 1,sN [.slo 4 0 (vhN sz) 0,.slo 5 0 (szQ sz) 0,.int .i64 (hrD (szQ sz) (vhC wc sz) [.tup [.agg [],.agg []]] (wthV (asI (nthD ax (xadd (xix 0 (xnat ↑i) 3) 1))) 1 255) 0),.ptr 6 0],sC (vhC wc sz) 2,sC (spW (szQ sz) (vhC wc sz)) 1,sN [.int .i64 96,.slo 7 0 (fbN (szQ sz) 96 (vhC wc sz) [.tup [.agg [],.agg []]] (wthV (asI (nthD ax (xadd (xix 0 (xnat ↑i) 3) 1))) 1 255) 1) 0],some (.obj lvF (fbC (szQ sz) 96 (vhC wc sz) [.tup [.agg [],.agg []]] (wthV (asI (nthD ax (xadd (xix 0 (xnat ↑i) 3) 1))) 1 255)) 11),sD,sD,sC (lcC (fbC (szQ sz) 96 (vhC wc sz) [.tup [.agg [],.agg []]] (wthV (asI (nthD ax (xadd (xix 0 (xnat ↑i) 3) 1))) 1 255))) 2,sD,sC (apC wc (lcC (fbC (szQ sz) 96 (vhC wc sz) [.tup [.agg [],.agg []]] (wthV (asI (nthD ax (xadd (xix 0 (xnat ↑i) 3) 1))) 1 255)))) 1] [])
 else(
 ck (okR 96 (fbC (szQ sz) 96 (vhC wc sz) [.tup [.agg [],.agg []]] (wthV (asI (nthD ax (xadd (xix 0 (xnat ↑i) 3) 1))) 1 255)) (fbN (szQ sz) 96 (vhC wc sz) [.tup [.agg [],.agg []]] (wthV (asI (nthD ax (xadd (xix 0 (xnat ↑i) 3) 1))) 1 255) 1)) <|
 ck (isF lvF lvF) <|
 ck (okIu64 wc sz) <|
 ck (okC (lcC (fbC (szQ sz) 96 (vhC wc sz) [.tup [.agg [],.agg []]] (wthV (asI (nthD ax (xadd (xix 0 (xnat ↑i) 3) 1))) 1 255))) (lcN (fbC (szQ sz) 96 (vhC wc sz) [.tup [.agg [],.agg []]] (wthV (asI (nthD ax (xadd (xix 0 (xnat ↑i) 3) 1))) 1 255)))) <|
 ck (xle (lcN (fbC (szQ sz) 96 (vhC wc sz) [.tup [.agg [],.agg []]] (wthV (asI (nthD ax (xadd (xix 0 (xnat ↑i) 3) 1))) 1 255))) 1000) <|
 ck (xle sz 1000000) <|
 K .normal [.slo 0 0 m 0,.any,.slo 12 0 (szQ sz) 0,.slo 2 0 257 0,.int .i64 (xar .add .i64 (↑i) 1)] [some (.ro ax),sC wc 1,sC sc 1,sN [.slo 4 0 (vhN sz) 0,.slo 5 0 (szQ sz) 0,.int .i64 (hrD (szQ sz) (vhC wc sz) [.tup [.agg [],.agg []]] (wthV (asI (nthD ax (xadd (xix 0 (xnat ↑i) 3) 1))) 1 255) 0),.ptr 6 0],sC (vhC wc sz) 2,sC (spW (szQ sz) (vhC wc sz)) 1,sN [.int .i64 96,.slo 7 0 (fbN (szQ sz) 96 (vhC wc sz) [.tup [.agg [],.agg []]] (wthV (asI (nthD ax (xadd (xix 0 (xnat ↑i) 3) 1))) 1 255) 1) 0],some (.obj lvF (fbC (szQ sz) 96 (vhC wc sz) [.tup [.agg [],.agg []]] (wthV (asI (nthD ax (xadd (xix 0 (xnat ↑i) 3) 1))) 1 255)) 11),sD,sD,sC (lcC (fbC (szQ sz) 96 (vhC wc sz) [.tup [.agg [],.agg []]] (wthV (asI (nthD ax (xadd (xix 0 (xnat ↑i) 3) 1))) 1 255))) 2,sD,sC (apC wc (lcC (fbC (szQ sz) 96 (vhC wc sz) [.tup [.agg [],.agg []]] (wthV (asI (nthD ax (xadd (xix 0 (xnat ↑i) 3) 1))) 1 255)))) 1] [])))
 else(
 bif xcm .eql (wthV (asI (nthD ax (xix 0 (xnat ↑i) 3))) 0 5) 1 then(
 ck (xnn (wthV (asI (nthD ax (xadd (xix 0 (xnat ↑i) 3) 1))) 1 255)) <|
 ck (xle (xadd (xnat (wthV (asI (nthD ax (xadd (xix 0 (xnat ↑i) 3) 1))) 1 255)) 1) 257) <|
 ck (xle (xadd (xix 0 (xnat (wthV (asI (nthD ax (xadd (xix 0 (xnat ↑i) 3) 1))) 1 255)) 1) 1) (xln sc)) <|
 ck (isI .i64 (nthD sc (xix 0 (xnat (wthV (asI (nthD ax (xadd (xix 0 (xnat ↑i) 3) 1))) 1 255)) 1))) <|
 bif xcm .eql (asI (nthD sc (xix 0 (xnat (wthV (asI (nthD ax (xadd (xix 0 (xnat ↑i) 3) 1))) 1 255)) 1))) 3 then(
 K .normal [.slo 0 0 m 0,.any,.slo 1 0 sz 0,.slo 2 0 257 0,.int .i64 (xar .add .i64 (↑i) 1)] [some (.ro ax),sC wc 1,sC sc 1,sN [.slo 4 0 (vhN sz) 0,.slo 5 0 (szQ sz) 0,.int .i64 0,.ptr 6 0],sC (vhC wc sz) 2,sC (spW (szQ sz) (vhC wc sz)) 1,sN [.int .i64 96,.slo 7 0 1 0],some (.obj lvF [.tup [.agg [],.agg []]] 8),sD] [])
 else(
 ck (okK (szQ sz) (vhN sz) (vhC wc sz)) <|
 ck (eqL (spW (szQ sz) (vhC wc sz)) (spW (szQ sz) (vhC wc sz))) <|
 ck (okR 96 [.tup [.agg [],.agg []]] 1) <|
 ck (isF lvF lvF) <|
 ck (xnn (wthV (asI (nthD ax (xadd (xix 0 (xnat ↑i) 3) 1))) 1 255)) <|
 ck (xle (xadd (xnat (wthV (asI (nthD ax (xadd (xix 0 (xnat ↑i) 3) 1))) 1 255)) 1) 257) <|
 ck (xle (xadd (xix 0 (xnat (wthV (asI (nthD ax (xadd (xix 0 (xnat ↑i) 3) 1))) 1 255)) 1) 1) (xln sc)) <|
 ck (isI .i64 (nthD sc (xix 0 (xnat (wthV (asI (nthD ax (xadd (xix 0 (xnat ↑i) 3) 1))) 1 255)) 1))) <|
 bif xnot (xbq (xcm .eql (gvE (szQ sz) 96 (vhC wc sz) [.tup [.agg [],.agg []]] (wthV (asI (nthD ax (xadd (xix 0 (xnat ↑i) 3) 1))) 1 255)) 0) (xcm .eql (asI (nthD sc (xix 0 (xnat (wthV (asI (nthD ax (xadd (xix 0 (xnat ↑i) 3) 1))) 1 255)) 1))) 2)) then(
 K .ret [.slo 0 0 m 0,.bool false,.slo 1 0 sz 0,.slo 2 0 257 0,.int .i64 ↑i] [some (.ro ax),sC wc 1,sC sc 1,sN [.slo 4 0 (vhN sz) 0,.slo 5 0 (szQ sz) 0,.int .i64 (gvD (szQ sz) (vhC wc sz) [.tup [.agg [],.agg []]] (wthV (asI (nthD ax (xadd (xix 0 (xnat ↑i) 3) 1))) 1 255) 0),.ptr 6 0],sC (vhC wc sz) 2,sC (spW (szQ sz) (vhC wc sz)) 1,sN [.int .i64 96,.slo 7 0 (gvN (szQ sz) 96 (vhC wc sz) [.tup [.agg [],.agg []]] (wthV (asI (nthD ax (xadd (xix 0 (xnat ↑i) 3) 1))) 1 255) 1) 0],some (.obj lvF (gvC (szQ sz) 96 (vhC wc sz) [.tup [.agg [],.agg []]] (wthV (asI (nthD ax (xadd (xix 0 (xnat ↑i) 3) 1))) 1 255)) 9),sD,sD] [])
 else(
 bif xcm .eql (gvE (szQ sz) 96 (vhC wc sz) [.tup [.agg [],.agg []]] (wthV (asI (nthD ax (xadd (xix 0 (xnat ↑i) 3) 1))) 1 255)) 0 then(
 ck (xnn (wthV (asI (nthD ax (xadd (xix 0 (xnat ↑i) 3) 1))) 1 255)) <|
 ck (xle (xadd (xnat (wthV (asI (nthD ax (xadd (xix 0 (xnat ↑i) 3) 1))) 1 255)) 1) 257) <|
 ck (xle (xadd (xix 0 (xnat (wthV (asI (nthD ax (xadd (xix 0 (xnat ↑i) 3) 1))) 1 255)) 1) 1) (xln sc)) <|
 ck (okR 96 (gvC (szQ sz) 96 (vhC wc sz) [.tup [.agg [],.agg []]] (wthV (asI (nthD ax (xadd (xix 0 (xnat ↑i) 3) 1))) 1 255)) (gvN (szQ sz) 96 (vhC wc sz) [.tup [.agg [],.agg []]] (wthV (asI (nthD ax (xadd (xix 0 (xnat ↑i) 3) 1))) 1 255) 1)) <|
 ck (isF lvF lvF) <|
 ck (okIu64 wc sz) <|
 ck (okC (lcC (gvC (szQ sz) 96 (vhC wc sz) [.tup [.agg [],.agg []]] (wthV (asI (nthD ax (xadd (xix 0 (xnat ↑i) 3) 1))) 1 255))) (lcN (gvC (szQ sz) 96 (vhC wc sz) [.tup [.agg [],.agg []]] (wthV (asI (nthD ax (xadd (xix 0 (xnat ↑i) 3) 1))) 1 255)))) <|
 ck (xle (lcN (gvC (szQ sz) 96 (vhC wc sz) [.tup [.agg [],.agg []]] (wthV (asI (nthD ax (xadd (xix 0 (xnat ↑i) 3) 1))) 1 255))) 1000) <|
 ck (xle sz 1000000) <|
 K .normal [.slo 0 0 m 0,.any,.slo 12 0 (szQ sz) 0,.slo 2 0 257 0,.int .i64 (xar .add .i64 (↑i) 1)] [some (.ro ax),sC wc 1,sC (xlay sc (xix 0 (xnat (wthV (asI (nthD ax (xadd (xix 0 (xnat ↑i) 3) 1))) 1 255)) 1) [.int .i64 3]) 1,sN [.slo 4 0 (vhN sz) 0,.slo 5 0 (szQ sz) 0,.int .i64 (gvD (szQ sz) (vhC wc sz) [.tup [.agg [],.agg []]] (wthV (asI (nthD ax (xadd (xix 0 (xnat ↑i) 3) 1))) 1 255) 0),.ptr 6 0],sC (vhC wc sz) 2,sC (spW (szQ sz) (vhC wc sz)) 1,sN [.int .i64 96,.slo 7 0 (gvN (szQ sz) 96 (vhC wc sz) [.tup [.agg [],.agg []]] (wthV (asI (nthD ax (xadd (xix 0 (xnat ↑i) 3) 1))) 1 255) 1) 0],some (.obj lvF (gvC (szQ sz) 96 (vhC wc sz) [.tup [.agg [],.agg []]] (wthV (asI (nthD ax (xadd (xix 0 (xnat ↑i) 3) 1))) 1 255)) 11),sD,sD,sC (lcC (gvC (szQ sz) 96 (vhC wc sz) [.tup [.agg [],.agg []]] (wthV (asI (nthD ax (xadd (xix 0 (xnat ↑i) 3) 1))) 1 255))) 2,sD,sC (apC wc (lcC (gvC (szQ sz) 96 (vhC wc sz) [.tup [.agg [],.agg []]] (wthV (asI (nthD ax (xadd (xix 0 (xnat ↑i) 3) 1))) 1 255)))) 1] [])
 else(
 ck (okR 96 (gvC (szQ sz) 96 (vhC wc sz) [.tup [.agg [],.agg []]] (wthV (asI (nthD ax (xadd (xix 0 (xnat ↑i) 3) 1))) 1 255)) (gvN (szQ sz) 96 (vhC wc sz) [.tup [.agg [],.agg []]] (wthV (asI (nthD ax (xadd (xix 0 (xnat ↑i) 3) 1))) 1 255) 1)) <|
 ck (isF lvF lvF) <|
 ck (okIu64 wc sz) <|
 ck (okC (lcC (gvC (szQ sz) 96 (vhC wc sz) [.tup [.agg [],.agg []]] (wthV (asI (nthD ax (xadd (xix 0 (xnat ↑i) 3) 1))) 1 255))) (lcN (gvC (szQ sz) 96 (vhC wc sz) [.tup [.agg [],.agg []]] (wthV (asI (nthD ax (xadd (xix 0 (xnat ↑i) 3) 1))) 1 255)))) <|
 ck (xle (lcN (gvC (szQ sz) 96 (vhC wc sz) [.tup [.agg [],.agg []]] (wthV (asI (nthD ax (xadd (xix 0 (xnat ↑i) 3) 1))) 1 255))) 1000) <|
 ck (xle sz 1000000) <|
 K .normal [.slo 0 0 m 0,.any,.slo 12 0 (szQ sz) 0,.slo 2 0 257 0,.int .i64 (xar .add .i64 (↑i) 1)] [some (.ro ax),sC wc 1,sC sc 1,sN [.slo 4 0 (vhN sz) 0,.slo 5 0 (szQ sz) 0,.int .i64 (gvD (szQ sz) (vhC wc sz) [.tup [.agg [],.agg []]] (wthV (asI (nthD ax (xadd (xix 0 (xnat ↑i) 3) 1))) 1 255) 0),.ptr 6 0],sC (vhC wc sz) 2,sC (spW (szQ sz) (vhC wc sz)) 1,sN [.int .i64 96,.slo 7 0 (gvN (szQ sz) 96 (vhC wc sz) [.tup [.agg [],.agg []]] (wthV (asI (nthD ax (xadd (xix 0 (xnat ↑i) 3) 1))) 1 255) 1) 0],some (.obj lvF (gvC (szQ sz) 96 (vhC wc sz) [.tup [.agg [],.agg []]] (wthV (asI (nthD ax (xadd (xix 0 (xnat ↑i) 3) 1))) 1 255)) 11),sD,sD,sC (lcC (gvC (szQ sz) 96 (vhC wc sz) [.tup [.agg [],.agg []]] (wthV (asI (nthD ax (xadd (xix 0 (xnat ↑i) 3) 1))) 1 255))) 2,sD,sC (apC wc (lcC (gvC (szQ sz) 96 (vhC wc sz) [.tup [.agg [],.agg []]] (wthV (asI (nthD ax (xadd (xix 0 (xnat ↑i) 3) 1))) 1 255)))) 1] []))))
 else(
 ck (xle (xadd (xnat ↑i) 1) m) <|
 ck (xle (xadd (xadd (xix 0 (xnat ↑i) 3) 1) 1) (xln ax)) <|
 ck (isI .i64 (nthD ax (xadd (xix 0 (xnat ↑i) 3) 1))) <|
 ck (okK (szQ sz) (vhN sz) (vhC wc sz)) <|
 ck (eqL (spW (szQ sz) (vhC wc sz)) (spW (szQ sz) (vhC wc sz))) <|
 ck (okR 96 [.tup [.agg [],.agg []]] 1) <|
 ck (isF lvF lvF) <|
 bif xcm .eql (alE (szQ sz) 96 (vhC wc sz) [.tup [.agg [],.agg []]] (wthV (asI (nthD ax (xadd (xix 0 (xnat ↑i) 3) 1))) 1 16)) 0 then(
 bif xcm .lss (alV (szQ sz) 96 (vhC wc sz) [.tup [.agg [],.agg []]] (wthV (asI (nthD ax (xadd (xix 0 (xnat ↑i) 3) 1))) 1 16)) 1 then(
 K .ret [.slo 0 0 m 0,.bool false,.slo 1 0 sz 0,.slo 2 0 257 0,.int .i64 ↑i] (ap_b_b2 sz i ax wc sc) [])
 else(
 bif xcm .geq (alV (szQ sz) 96 (vhC wc sz) [.tup [.agg [],.agg []]] (wthV (asI (nthD ax (xadd (xix 0 (xnat ↑i) 3) 1))) 1 16)) 256 then(
 K .ret [.slo 0 0 m 0,.bool false,.slo 1 0 sz 0,.slo 2 0 257 0,.int .i64 ↑i] (ap_b_b2 sz i ax wc sc) [])
 else(
 ck (xnn (alV (szQ sz) 96 (vhC wc sz) [.tup [.agg [],.agg []]] (wthV (asI (nthD ax (xadd (xix 0 (xnat ↑i) 3) 1))) 1 16))) <|
 ck (xle (xadd (xnat (alV (szQ sz) 96 (vhC wc sz) [.tup [.agg [],.agg []]] (wthV (asI (nthD ax (xadd (xix 0 (xnat ↑i) 3) 1))) 1 16))) 1) 257) <|
 ck (xle (xadd (xix 0 (xnat (alV (szQ sz) 96 (vhC wc sz) [.tup [.agg [],.agg []]] (wthV (asI (nthD ax (xadd (xix 0 (xnat ↑i) 3) 1))) 1 16))) 1) 1) (xln sc)) <|
 ck (isI .i64 (nthD sc (xix 0 (xnat (alV (szQ sz) 96 (vhC wc sz) [.tup [.agg [],.agg []]] (wthV (asI (nthD ax (xadd (xix 0 (xnat ↑i) 3) 1))) 1 16))) 1))) <|
 bif xcm .eql (asI (nthD sc (xix 0 (xnat (alV (szQ sz) 96 (vhC wc sz) [.tup [.agg [],.agg []]] (wthV (asI (nthD ax (xadd (xix 0 (xnat ↑i) 3) 1))) 1 16))) 1))) 1 then(
 K .ret [.slo 0 0 m 0,.bool false,.slo 1 0 sz 0,.slo 2 0 257 0,.int .i64 ↑i] (ap_b_b2 sz i ax wc sc) [])
 else(
 ck (xnn (alV (szQ sz) 96 (vhC wc sz) [.tup [.agg [],.agg []]] (wthV (asI (nthD ax (xadd (xix 0 (xnat ↑i) 3) 1))) 1 16))) <|
 ck (xle (xadd (xnat (alV (szQ sz) 96 (vhC wc sz) [.tup [.agg [],.agg []]] (wthV (asI (nthD ax (xadd (xix 0 (xnat ↑i) 3) 1))) 1 16))) 1) 257) <|
 ck (xle (xadd (xix 0 (xnat (alV (szQ sz) 96 (vhC wc sz) [.tup [.agg [],.agg []]] (wthV (asI (nthD ax (xadd (xix 0 (xnat ↑i) 3) 1))) 1 16))) 1) 1) (xln sc)) <|
 ck (isI .i64 (nthD sc (xix 0 (xnat (alV (szQ sz) 96 (vhC wc sz) [.tup [.agg [],.agg []]] (wthV (asI (nthD ax (xadd (xix 0 (xnat ↑i) 3) 1))) 1 16))) 1))) <|
 bif xcm .eql (asI (nthD sc (xix 0 (xnat (alV (szQ sz) 96 (vhC wc sz) [.tup [.agg [],.agg []]] (wthV (asI (nthD ax (xadd (xix 0 (xnat ↑i) 3) 1))) 1 16))) 1))) 2 then(
 K .ret [.slo 0 0 m 0,.bool false,.slo 1 0 sz 0,.slo 2 0 257 0,.int .i64 ↑i] (ap_b_b2 sz i ax wc sc) [])
 else(
 bif xcm .neq (alE (szQ sz) 96 (vhC wc sz) [.tup [.agg [],.agg []]] (wthV (asI (nthD ax (xadd (xix 0 (xnat ↑i) 3) 1))) 1 16)) 0 then(
 bif xcm .neq (alE (szQ sz) 96 (vhC wc sz) [.tup [.agg [],.agg []]] (wthV (asI (nthD ax (xadd (xix 0 (xnat ↑i) 3) 1))) 1 16)) 4 then(
 K .ret [.slo 0 0 m 0,.bool false,.slo 1 0 sz 0,.slo 2 0 257 0,.int .i64 ↑i] (ap_b_b2 sz i ax wc sc) [])
 else(
 bif xcm .eql (alE (szQ sz) 96 (vhC wc sz) [.tup [.agg [],.agg []]] (wthV (asI (nthD ax (xadd (xix 0 (xnat ↑i) 3) 1))) 1 16)) 0 then(
 ck (xnn (alV (szQ sz) 96 (vhC wc sz) [.tup [.agg [],.agg []]] (wthV (asI (nthD ax (xadd (xix 0 (xnat ↑i) 3) 1))) 1 16))) <|
 ck (xle (xadd (xnat (alV (szQ sz) 96 (vhC wc sz) [.tup [.agg [],.agg []]] (wthV (asI (nthD ax (xadd (xix 0 (xnat ↑i) 3) 1))) 1 16))) 1) 257) <|
 ck (xle (xadd (xix 0 (xnat (alV (szQ sz) 96 (vhC wc sz) [.tup [.agg [],.agg []]] (wthV (asI (nthD ax (xadd (xix 0 (xnat ↑i) 3) 1))) 1 16))) 1) 1) (xln sc)) <|
 ck (okR 96 (alC (szQ sz) 96 (vhC wc sz) [.tup [.agg [],.agg []]] (wthV (asI (nthD ax (xadd (xix 0 (xnat ↑i) 3) 1))) 1 16)) (alN (szQ sz) 96 (vhC wc sz) [.tup [.agg [],.agg []]] (wthV (asI (nthD ax (xadd (xix 0 (xnat ↑i) 3) 1))) 1 16) 1)) <|
 ck (isF lvF lvF) <|
 ck (okIu64 wc sz) <|
 ck (okC (lcC (alC (szQ sz) 96 (vhC wc sz) [.tup [.agg [],.agg []]] (wthV (asI (nthD ax (xadd (xix 0 (xnat ↑i) 3) 1))) 1 16))) (lcN (alC (szQ sz) 96 (vhC wc sz) [.tup [.agg [],.agg []]] (wthV (asI (nthD ax (xadd (xix 0 (xnat ↑i) 3) 1))) 1 16)))) <|
 ck (xle (lcN (alC (szQ sz) 96 (vhC wc sz) [.tup [.agg [],.agg []]] (wthV (asI (nthD ax (xadd (xix 0 (xnat ↑i) 3) 1))) 1 16))) 1000) <|
 ck (xle sz 1000000) <|
 K .normal [.slo 0 0 m 0,.any,.slo 12 0 (szQ sz) 0,.slo 2 0 257 0,.int .i64 (xar .add .i64 (↑i) 1)] (ap_b_b1 sz i ax wc sc) [])
 else(
 ck (okR 96 (alC (szQ sz) 96 (vhC wc sz) [.tup [.agg [],.agg []]] (wthV (asI (nthD ax (xadd (xix 0 (xnat ↑i) 3) 1))) 1 16)) (alN (szQ sz) 96 (vhC wc sz) [.tup [.agg [],.agg []]] (wthV (asI (nthD ax (xadd (xix 0 (xnat ↑i) 3) 1))) 1 16) 1)) <|
 ck (isF lvF lvF) <|
 ck (okIu64 wc sz) <|
 ck (okC (lcC (alC (szQ sz) 96 (vhC wc sz) [.tup [.agg [],.agg []]] (wthV (asI (nthD ax (xadd (xix 0 (xnat ↑i) 3) 1))) 1 16))) (lcN (alC (szQ sz) 96 (vhC wc sz) [.tup [.agg [],.agg []]] (wthV (asI (nthD ax (xadd (xix 0 (xnat ↑i) 3) 1))) 1 16)))) <|
 ck (xle (lcN (alC (szQ sz) 96 (vhC wc sz) [.tup [.agg [],.agg []]] (wthV (asI (nthD ax (xadd (xix 0 (xnat ↑i) 3) 1))) 1 16))) 1000) <|
 ck (xle sz 1000000) <|
 K .normal [.slo 0 0 m 0,.any,.slo 12 0 (szQ sz) 0,.slo 2 0 257 0,.int .i64 (xar .add .i64 (↑i) 1)] (ap_b_b3 sz i ax wc sc) [])))
 else(
 bif xcm .eql (alE (szQ sz) 96 (vhC wc sz) [.tup [.agg [],.agg []]] (wthV (asI (nthD ax (xadd (xix 0 (xnat ↑i) 3) 1))) 1 16)) 0 then(
 ck (xnn (alV (szQ sz) 96 (vhC wc sz) [.tup [.agg [],.agg []]] (wthV (asI (nthD ax (xadd (xix 0 (xnat ↑i) 3) 1))) 1 16))) <|
 ck (xle (xadd (xnat (alV (szQ sz) 96 (vhC wc sz) [.tup [.agg [],.agg []]] (wthV (asI (nthD ax (xadd (xix 0 (xnat ↑i) 3) 1))) 1 16))) 1) 257) <|
 ck (xle (xadd (xix 0 (xnat (alV (szQ sz) 96 (vhC wc sz) [.tup [.agg [],.agg []]] (wthV (asI (nthD ax (xadd (xix 0 (xnat ↑i) 3) 1))) 1 16))) 1) 1) (xln sc)) <|
 ck (okR 96 (alC (szQ sz) 96 (vhC wc sz) [.tup [.agg [],.agg []]] (wthV (asI (nthD ax (xadd (xix 0 (xnat ↑i) 3) 1))) 1 16)) (alN (szQ sz) 96 (vhC wc sz) [.tup [.agg [],.agg []]] (wthV (asI (nthD ax (xadd (xix 0 (xnat ↑i) 3) 1))) 1 16) 1)) <|
 ck (isF lvF lvF) <|
 ck (okIu64 wc sz) <|
 ck (okC (lcC (alC (szQ sz) 96 (vhC wc sz) [.tup [.agg [],.agg []]] (wthV (asI (nthD ax (xadd (xix 0 (xnat ↑i) 3) 1))) 1 16))) (lcN (alC (szQ sz) 96 (vhC wc sz) [.tup [.agg [],.agg []]] (wthV (asI (nthD ax (xadd (xix 0 (xnat ↑i) 3) 1))) 1 16)))) <|
 ck (xle (lcN (alC (szQ sz) 96 (vhC wc sz) [.tup [.agg [],.agg []]] (wthV (asI (nthD ax (xadd (xix 0 (xnat ↑i) 3) 1))) 1 16))) 1000) <|
 ck (xle sz 1000000) <|
 K .normal [.slo 0 0 m 0,.any,.slo 12 0 (szQ sz) 0,.slo 2 0 257 0,.int .i64 (xar .add .i64 (↑i) 1)] (ap_b_b1 sz i ax wc sc) [])
 else(
 ck (okR 96 (alC (szQ sz) 96 (vhC wc sz) [.tup [.agg [],.agg []]] (wthV (asI (nthD ax (xadd (xix 0 (xnat ↑i) 3) 1))) 1 16)) (alN (szQ sz) 96 (vhC wc sz) [.tup [.agg [],.agg []]] (wthV (asI (nthD ax (xadd (xix 0 (xnat ↑i) 3) 1))) 1 16) 1)) <|
 ck (isF lvF lvF) <|
 ck (okIu64 wc sz) <|
 ck (okC (lcC (alC (szQ sz) 96 (vhC wc sz) [.tup [.agg [],.agg []]] (wthV (asI (nthD ax (xadd (xix 0 (xnat ↑i) 3) 1))) 1 16))) (lcN (alC (szQ sz) 96 (vhC wc sz) [.tup [.agg [],.agg []]] (wthV (asI (nthD ax (xadd (xix 0 (xnat ↑i) 3) 1))) 1 16)))) <|
 ck (xle (lcN (alC (szQ sz) 96 (vhC wc sz) [.tup [.agg [],.agg []]] (wthV (asI (nthD ax (xadd (xix 0 (xnat ↑i) 3) 1))) 1 16))) 1000) <|
 ck (xle sz 1000000) <|
 K .normal [.slo 0 0 m 0,.any,.slo 12 0 (szQ sz) 0,.slo 2 0 257 0,.int .i64 (xar .add .i64 (↑i) 1)] (ap_b_b3 sz i ax wc sc) [])))))))
 else(
 bif xcm .neq (alE (szQ sz) 96 (vhC wc sz) [.tup [.agg [],.agg []]] (wthV (asI (nthD ax (xadd (xix 0 (xnat ↑i) 3) 1))) 1 16)) 0 then(
 bif xcm .neq (alE (szQ sz) 96 (vhC wc sz) [.tup [.agg [],.agg []]] (wthV (asI (nthD ax (xadd (xix 0 (xnat ↑i) 3) 1))) 1 16)) 4 then(
 K .ret [.slo 0 0 m 0,.bool false,.slo 1 0 sz 0,.slo 2 0 257 0,.int .i64 ↑i] (ap_b_b2 sz i ax wc sc) [])
 else(
 bif xcm .eql (alE (szQ sz) 96 (vhC wc sz) [.tup [.agg [],.agg []]] (wthV (asI (nthD ax (xadd (xix 0 (xnat ↑i) 3) 1))) 1 16)) 0 then(
 ck (xnn (alV (szQ sz) 96 (vhC wc sz) [.tup [.agg [],.agg []]] (wthV (asI (nthD ax (xadd (xix 0 (xnat ↑i) 3) 1))) 1 16))) <|
 ck (xle (xadd (xnat (alV (szQ sz) 96 (vhC wc sz) [.tup [.agg [],.agg []]] (wthV (asI (nthD ax (xadd (xix 0 (xnat ↑i) 3) 1))) 1 16))) 1) 257) <|
 ck (xle (xadd (xix 0 (xnat (alV (szQ sz) 96 (vhC wc sz) [.tup [.agg [],.agg []]] (wthV (asI (nthD ax (xadd (xix 0 (xnat ↑i) 3) 1))) 1 16))) 1) 1) (xln sc)) <|
 ck (okR 96 (alC (szQ sz) 96 (vhC wc sz) [.tup [.agg [],.agg []]] (wthV (asI (nthD ax (xadd (xix 0 (xnat ↑i) 3) 1))) 1 16)) (alN (szQ sz) 96 (vhC wc sz) [.tup [.agg [],.agg []]] (wthV (asI (nthD ax (xadd (xix 0 (xnat ↑i) 3) 1))) 1 16) 1)) <|
 ck (isF lvF lvF) <|
 ck (okIu64 wc sz) <|
 ck (okC (lcC (alC (szQ sz) 96 (vhC wc sz) [.tup [.agg [],.agg []]] (wthV (asI (nthD ax (xadd (xix 0 (xnat ↑i) 3) 1))) 1 16))) (lcN (alC (szQ sz) 96 (vhC wc sz) [.tup [.agg [],.agg []]] (wthV (asI (nthD ax (xadd (xix 0 (xnat ↑i) 3) 1))) 1 16)))) <|
 ck (xle (lcN (alC (szQ sz) 96 (vhC wc sz) [.tup [.agg [],.agg []]] (wthV (asI (nthD ax (xadd (xix 0 (xnat ↑i) 3) 1))) 1 16))) 1000) <|
 ck (xle sz 1000000) <|
 K .normal [.slo 0 0 m 0,.any,.slo 12 0 (szQ sz) 0,.slo 2 0 257 0,.int .i64 (xar .add .i64 (↑i) 1)] (ap_b_b1 sz i ax wc sc) [])
 else(
 ck (okR 96 (alC (szQ sz) 96 (vhC wc sz) [.tup [.agg [],.agg []]] (wthV (asI (nthD ax (xadd (xix 0 (xnat ↑i) 3) 1))) 1 16)) (alN (szQ sz) 96 (vhC wc sz) [.tup [.agg [],.agg []]] (wthV (asI (nthD ax (xadd (xix 0 (xnat ↑i) 3) 1))) 1 16) 1)) <|
 ck (isF lvF lvF) <|
 ck (okIu64 wc sz) <|
 ck (okC (lcC (alC (szQ sz) 96 (vhC wc sz) [.tup [.agg [],.agg []]] (wthV (asI (nthD ax (xadd (xix 0 (xnat ↑i) 3) 1))) 1 16))) (lcN (alC (szQ sz) 96 (vhC wc sz) [.tup [.agg [],.agg []]] (wthV (asI (nthD ax (xadd (xix 0 (xnat ↑i) 3) 1))) 1 16)))) <|
 ck (xle (lcN (alC (szQ sz) 96 (vhC wc sz) [.tup [.agg [],.agg []]] (wthV (asI (nthD ax (xadd (xix 0 (xnat ↑i) 3) 1))) 1 16))) 1000) <|
 ck (xle sz 1000000) <|
 K .normal [.slo 0 0 m 0,.any,.slo 12 0 (szQ sz) 0,.slo 2 0 257 0,.int .i64 (xar .add .i64 (↑i) 1)] (ap_b_b3 sz i ax wc sc) [])))
 else(
 bif xcm .eql (alE (szQ sz) 96 (vhC wc sz) [.tup [.agg [],.agg []]] (wthV (asI (nthD ax (xadd (xix 0 (xnat ↑i) 3) 1))) 1 16)) 0 then(
 ck (xnn (alV (szQ sz) 96 (vhC wc sz) [.tup [.agg [],.agg []]] (wthV (asI (nthD ax (xadd (xix 0 (xnat ↑i) 3) 1))) 1 16))) <|
 ck (xle (xadd (xnat (alV (szQ sz) 96 (vhC wc sz) [.tup [.agg [],.agg []]] (wthV (asI (nthD ax (xadd (xix 0 (xnat ↑i) 3) 1))) 1 16))) 1) 257) <|
 ck (xle (xadd (xix 0 (xnat (alV (szQ sz) 96 (vhC wc sz) [.tup [.agg [],.agg []]] (wthV (asI (nthD ax (xadd (xix 0 (xnat ↑i) 3) 1))) 1 16))) 1) 1) (xln sc)) <|
 ck (okR 96 (alC (szQ sz) 96 (vhC wc sz) [.tup [.agg [],.agg []]] (wthV (asI (nthD ax (xadd (xix 0 (xnat ↑i) 3) 1))) 1 16)) (alN (szQ sz) 96 (vhC wc sz) [.tup [.agg [],.agg []]] (wthV (asI (nthD ax (xadd (xix 0 (xnat ↑i) 3) 1))) 1 16) 1)) <|
 ck (isF lvF lvF) <|
 ck (okIu64 wc sz) <|
 ck (okC (lcC (alC (szQ sz) 96 (vhC wc sz) [.tup [.agg [],.agg []]] (wthV (asI (nthD ax (xadd (xix 0 (xnat ↑i) 3) 1))) 1 16))) (lcN (alC (szQ sz) 96 (vhC wc sz) [.tup [.agg [],.agg []]] (wthV (asI (nthD ax (xadd (xix 0 (xnat ↑i) 3) 1))) 1 16)))) <|
 ck (xle (lcN (alC (szQ sz) 96 (vhC wc sz) [.tup [.agg [],.agg []]] (wthV (asI (nthD ax (xadd (xix 0 (xnat ↑i) 3) 1))) 1 16))) 1000) <|
 ck (xle sz 1000000) <|
 K .normal [.slo 0 0 m 0,.any,.slo 12 0 (szQ sz) 0,.slo 2 0 257 0,.int .i64 (xar .add .i64 (↑i) 1)] (ap_b_b1 sz i ax wc sc) [])
 else(
 ck (okR 96 (alC (szQ sz) 96 (vhC wc sz) [.tup [.agg [],.agg []]] (wthV (asI (nthD ax (xadd (xix 0 (xnat ↑i) 3) 1))) 1 16)) (alN (szQ sz) 96 (vhC wc sz) [.tup [.agg [],.agg []]] (wthV (asI (nthD ax (xadd (xix 0 (xnat ↑i) 3) 1))) 1 16) 1)) <|
 ck (isF lvF lvF) <|
 ck (okIu64 wc sz) <|
 ck (okC (lcC (alC (szQ sz) 96 (vhC wc sz) [.tup [.agg [],.agg []]] (wthV (asI (nthD ax (xadd (xix 0 (xnat ↑i) 3) 1))) 1 16))) (lcN (alC (szQ sz) 96 (vhC wc sz) [.tup [.agg [],.agg []]] (wthV (asI (nthD ax (xadd (xix 0 (xnat ↑i) 3) 1))) 1 16)))) <|
 ck (xle (lcN (alC (szQ sz) 96 (vhC wc sz) [.tup [.agg [],.agg []]] (wthV (asI (nthD ax (xadd (xix 0 (xnat ↑i) 3) 1))) 1 16))) 1000) <|
 ck (xle sz 1000000) <|
 K .normal [.slo 0 0 m 0,.any,.slo 12 0 (szQ sz) 0,.slo 2 0 257 0,.int .i64 (xar .add .i64 (↑i) 1)] (ap_b_b3 sz i ax wc sc) []))))))
 else(
 K (.exit 0) [.slo 0 0 m 0,.any,.slo 1 0 sz 0,.slo 2 0 257 0,.int .i64 ↑i] [some (.ro ax),sC wc 1,sC sc 1] []))
 else(
 K (.exit 0) [.slo 0 0 m 0,.any,.slo 1 0 sz 0,.slo 2 0 257 0,.int .i64 ↑i] [some (.ro ax),sC wc 1,sC sc 1] [])):=by kernel_rfl
theorem ap_z (m sz i:Nat) (ax wc sc:List LV) (K:Pk):(xsp prog cxap 60 141 (apS.drop 7) (mkTm 141 (apT m sz i)) (mkS (apH ax wc sc)) (vK apL K))=(
 ck (okU wc sz) <|
 ck (okIi64 sc 257) <|
 ck (pOk wc sc) <|
 K .ret [.slo 0 0 m 0,.bool true,.slo 1 0 sz 0,.slo 2 0 257 0,.int .i64 ↑i] [some (.ro ax),sC wc 1,sC sc 1] []):=by kernel_rfl
end
end Go.Lev
