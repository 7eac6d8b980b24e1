/- chapter 11: Fresh as a contract; trees of ArenaFull -/
import Derived.Test.YtopbikapcboigaaCZ14
import Derived.Test.YtopbikapcboigaaLc
import Derived.Test.YtopbikapcboigaaChecked
import Derived.KernelRfl
namespace Go.Lev
set_option linter.unusedSimpArgs false
set_option linter.unusedVariables false
open Go.RowKit
open Go.Proofs.Try (prog)
set_option maxRecDepth 100000
noncomputable section
def szJ (n:Int):Nat:=(min (max n 32) 256).toNat
theorem szJ_b (n:Int):32≤szJ n∧szJ n≤256:=by unfold szJ; omega
theorem szJ_x (n:Int):xmn (xmx n 32) 256=(szJ n:Int):=by unfold szJ; simp only [wd_mn,wd_mx]; split <;> (try split) <;> omega
def szI (n:Int):Nat:=szJ n
def frsL (k:Nat):List Int:=(List.replicate k 0).set 5 14
def frsC (n:Int):List LV:=encL (cI .u64) (frsL (szJ n))
theorem frs_x (n:Int) (K:Fk):(xfun prog (fun _=>none) 40 11 [.int .i64 n] (mkS []) (vF K))=(
 ck (xnn (xmn (xmx n 32) 256)) <|
 ck (xnn (xmn (xmx n 32) 256)) <|
 ck (xle (xnat (xmn (xmx n 32) 256)) (xnat (xmn (xmx n 32) 256))) <|
 ck (xle (xnat (xmn (xmx n 32) 256)) 100000) <|
 ck (xle 6 (xnat (xmn (xmx n 32) 256))) <|
 ck (xle 6 (xln (xrep (xnat (xmn (xmx n 32) 256)) [.int .u64 0]))) <|
 K (.sl 0 0 (xnat (xmn (xmx n 32) 256)) (xnat (xmn (xmx n 32) 256))) [sN (xlay (xrep (xnat (xmn (xmx n 32) 256)) [.int .u64 0]) 5 [.int .u64 14])] []):=by kernel_rfl
theorem frs_f (n:Int):SFun prog 11 [.int .i64 n] (mkS []) fun l s=>l=.slo 0 0 (szI n) 0∧s=mkS [.cells (frsC n) (some 1)]:=by
 refine SFun.mono (SFun.vc (Q:=fun l b=>l=.slo 0 0 (szI n) 0∧b=[.cells (frsC n) (some 1)]) noCx_ok (n:=40) 0 rfl ?_) fun l s' ⟨b0,⟨h1,h2⟩,h3⟩=>⟨h1,by rw [h3,h2]⟩
 have hb:=szJ_b n
 rw [frs_x]
 simp only [szJ_x]
 have e1:xrep (szJ n) [.int .u64 0]=encL (cI .u64) (List.replicate (szJ n) 0):=rep_enc _
 have e2:xlay (encL (cI .u64) (List.replicate (szJ n) 0)) 5 [.int .u64 14]=encL (cI .u64) (frsL (szJ n)):=set_I _ 5 14 (by simp; omega)
 have nn:=noIds_Iu64 (frsL (szJ n))
 have ll:(encL (cI .u64) (frsL (szJ n))).length=szJ n * 1:=by rw [encIu64_len,frsL,List.length_set,List.length_replicate,Nat.mul_one]
 have l2:(encL (cI .u64) (List.replicate (szJ n) 0)).length=szJ n:=by rw [encIu64_len,List.length_replicate]
 (refine zN4 @e1 @e2 @ll @l2 ?_)
 (refine zR ?_)
 exact⟨rfl,_,_,[.cap 0 0 (szJ n)],⟨rfl,rfl⟩,by(exact zC)⟩
def frsG:Gc:=fun args s=>match args,s.g with
 | [.int .i64 n],[]=>(match s.lay [] [] [.cells (frsC n) (some 1)] with
   | some s'=>some ([],.slo s.n 0 (szI n) 0,s')
   | none=>none)
 | _,_=>none
theorem frsG_ok:GOk prog 11 frsG:=by
 intro args s bs l s' hg hb hfr
 unfold frsG at hg
 split at hg
 ·rename_i n hgl
  split at hg
  ·rename_i s1 hs1
   simp only [Option.some.injEq,Prod.mk.injEq] at hg
   obtain⟨rfl,rfl,rfl⟩:=hg
   refine SFun.lay (bs:=[]) (args0:=[.int .i64 n]) (bs':=[.cells (frsC n) (some 1)]) (v0:=.slo 0 0 (szI n) 0) hfr hs1 (by simp)
    trivial (by(exact zTl)) ?_
    fun κ h1 h2=>⟨⟨lb_same (noIds_Iu64 _),trivial⟩,lw_slo (h2 0 (by simp))⟩
   rw [hgl]; exact(frs_f n)
  ·cases hg
 ·cases hg
def cxF:Cx:=cxl [(3,runG),(10,whO),(11,frsG),(38,heldG),(16,clsG),(17,sizeG),(12,alG),(13,frG),(14,gvG),(64,lcellsG),(36,raG)]
abbrev afS:List Code:=sp prog 9
abbrev afL:List Nat:=[2,6,7,8,11,12,13,17,18,19,20,21,22]
abbrev afT (a' S F:Int) (sz k:Nat) (i:Int):List (Nat×LV):=[(2,.int .u8 a'),(7,.int .i64 S),(8,.slo 0 0 sz 0),(11,.int .i64 F),(12,.slo 1 0 k 0),(13,.int .i64 i)]
abbrev afH (wc tc:List LV):List LB:=[.cells wc (some 1),.cells tc (some 1)]
abbrev afT2 (S b:Int):List (Nat×LV):=[(7,.int .i64 S),(17,.ptr 0 0),(18,.int .i64 b)]
abbrev afT3 (S b e f:Int):List (Nat×LV):=[(7,.int .i64 S),(17,.ptr 0 0),(18,.int .i64 b),(19,.int .i64 e),(20,.int .i64 f)]
abbrev afT4 (b e f x g:Int):List (Nat×LV):=[(17,.ptr 0 0),(18,.int .i64 b),(19,.int .i64 e),(20,.int .i64 f),(21,.int .i64 x),(22,.int .i64 g)]
theorem af_a (w n a:Int) (K:Pk):(xsp prog cxF 60 135 (seg afS 0 10) (tm0 [.int .u8 w,.int .u8 n,.int .u8 a]) (mkS []) (vK afL K))=(
 ck (xcm .neq (xar .add .i64 (szW (clsW (xar .add .i64 (xwr .i64 (xar .rem .u8 n 16)) 1))) 1) 0) <|
 K .normal [.int .u8 a,.bool false,.int .i64 (xar .add .i64 (xwr .i64 (xar .rem .u8 n 16)) 1),.slo 0 0 (szI (xwr .i64 w)) 0,.int .i64 (xar .quo .i64 (xar .sub .i64 (hldV (xwr .i64 w) 32 256) 14) (xar .add .i64 (szW (clsW (xar .add .i64 (xwr .i64 (xar .rem .u8 n 16)) 1))) 1)),.nils,.int .i64 0,.tup [],.tup [],.tup [],.tup [],.tup [],.tup []] [sC (frsC (xwr .i64 w)) 1] []):=by kernel_rfl
abbrev af_b_b1 (S:Int) (sz:Nat) (wc:List LV) (tc:List LV):List (Option LB):=[sC wc 1,sC tc 1,sN [.slo 3 0 (vhN sz) 0,.slo 4 0 (szQ sz) 0,.int .i64 (alD (szQ sz) (vhC wc sz) [.tup [.agg [],.agg []]] S 0),.ptr 5 0],sC (vhC wc sz) 2,sC (spW (szQ sz) (vhC wc sz)) 1,sN [.int .i64 9,.slo 6 0 (alN (szQ sz) 9 (vhC wc sz) [.tup [.agg [],.agg []]] S 1) 0],some (.obj lvF (alC (szQ sz) 9 (vhC wc sz) [.tup [.agg [],.agg []]] S) 8),sD,sD]
theorem af_b (a S F i:Int) (sz k:Nat) (wc tc:List LV) (K:Pk):(xcode prog cxF 60 135 (loopOf (nthC afS 10)) (mkTm 135 (afT a S F sz k i)) (mkS (afH wc tc)) (vK afL K))=(
 bif xcm .leq i F then(
 ck (okIu64 wc sz) <|
 ck (xle sz 1000000) <|
 ck (okK (szQ sz) (vhN sz) (vhC wc sz)) <|
 ck (eqL (spW (szQ sz) (vhC wc sz)) (spW (szQ sz) (vhC wc sz))) <|
 ck (okR 9 [.tup [.agg [],.agg []]] 1) <|
 ck (isF lvF lvF) <|
 bif xnot (xbq (xcm .eql (alE (szQ sz) 9 (vhC wc sz) [.tup [.agg [],.agg []]] S) 0) (xcm .lss i F)) then(
 K .ret [.int .u8 a,.bool false,.int .i64 S,.slo 0 0 sz 0,.int .i64 F,.slo 1 0 k 0,.int .i64 i,.any,.any,.any,.any,.any,.any] (af_b_b1 S sz wc tc) [])
 else(
 bif xcm .neq (alE (szQ sz) 9 (vhC wc sz) [.tup [.agg [],.agg []]] S) 0 then(
 bif xcm .neq (alE (szQ sz) 9 (vhC wc sz) [.tup [.agg [],.agg []]] S) 4 then(
 K .ret [.int .u8 a,.bool false,.int .i64 S,.slo 0 0 sz 0,.int .i64 F,.slo 1 0 k 0,.int .i64 i,.any,.any,.any,.any,.any,.any] (af_b_b1 S sz wc tc) [])
 else(
 ck (okR 9 (alC (szQ sz) 9 (vhC wc sz) [.tup [.agg [],.agg []]] S) (alN (szQ sz) 9 (vhC wc sz) [.tup [.agg [],.agg []]] S 1)) <|
 ck (isF lvF lvF) <|
 bif xcm .neq (↑(lcN (alC (szQ sz) 9 (vhC wc sz) [.tup [.agg [],.agg []]] S))) 0 then(
 K .ret [.int .u8 a,.bool false,.int .i64 S,.slo 0 0 sz 0,.int .i64 F,.slo 1 0 k 0,.int .i64 i,.any,.any,.any,.any,.any,.any] [sC wc 1,sC tc 1,sN [.slo 3 0 (vhN sz) 0,.slo 4 0 (szQ sz) 0,.int .i64 (alD (szQ sz) (vhC wc sz) [.tup [.agg [],.agg []]] S 0),.ptr 5 0],sC (vhC wc sz) 2,sC (spW (szQ sz) (vhC wc sz)) 1,sN [.int .i64 9,.slo 6 0 (alN (szQ sz) 9 (vhC wc sz) [.tup [.agg [],.agg []]] S 1) 0],some (.obj lvF (alC (szQ sz) 9 (vhC wc sz) [.tup [.agg [],.agg []]] S) 10),sD,sD,sC (lcC (alC (szQ sz) 9 (vhC wc sz) [.tup [.agg [],.agg []]] S)) 2,sD] [])
 else(
 bif xcm .eql (alE (szQ sz) 9 (vhC wc sz) [.tup [.agg [],.agg []]] S) 0 then(
 ck (xle (xadd k 1) 1000000) <|
 ck (xle (xadd 0 (xmul k 1)) (xln tc)) <|
 ck (okR 9 (alC (szQ sz) 9 (vhC wc sz) [.tup [.agg [],.agg []]] S) (alN (szQ sz) 9 (vhC wc sz) [.tup [.agg [],.agg []]] S 1)) <|
 ck (isF lvF lvF) <|
 ck (okIu64 wc sz) <|
 ck (okC (lcC (alC (szQ sz) 9 (vhC wc sz) [.tup [.agg [],.agg []]] S)) (lcN (alC (szQ sz) 9 (vhC wc sz) [.tup [.agg [],.agg []]] S))) <|
 ck (xle (lcN (alC (szQ sz) 9 (vhC wc sz) [.tup [.agg [],.agg []]] S)) 1000) <|
 ck (xle sz 1000000) <|
 K .normal [.int .u8 a,.any,.int .i64 S,.slo 15 0 (szQ sz) 0,.int .i64 F,.slo 12 0 (xadd k 1) 0,.int .i64 (xar .add .i64 i 1),.any,.any,.any,.any,.any,.any] [sC wc 1,sD,sN [.slo 3 0 (vhN sz) 0,.slo 4 0 (szQ sz) 0,.int .i64 (alD (szQ sz) (vhC wc sz) [.tup [.agg [],.agg []]] S 0),.ptr 5 0],sC (vhC wc sz) 2,sC (spW (szQ sz) (vhC wc sz)) 1,sN [.int .i64 9,.slo 6 0 (alN (szQ sz) 9 (vhC wc sz) [.tup [.agg [],.agg []]] S 1) 0],some (.obj lvF (alC (szQ sz) 9 (vhC wc sz) [.tup [.agg [],.agg []]] S) 14),sD,sD,sC (lcC (alC (szQ sz) 9 (vhC wc sz) [.tup [.agg [],.agg []]] S)) 2,sD,sN [.int .i64 (alV (szQ sz) 9 (vhC wc sz) [.tup [.agg [],.agg []]] S)],sC (xcat (xcut tc 0 (xmul k 1)) [.int .i64 (alV (szQ sz) 9 (vhC wc sz) [.tup [.agg [],.agg []]] S)]) 1,sC (lcC (alC (szQ sz) 9 (vhC wc sz) [.tup [.agg [],.agg []]] S)) 2,sD,sC (apC wc (lcC (alC (szQ sz) 9 (vhC wc sz) [.tup [.agg [],.agg []]] S))) 1] [])
 else(
 ck (okR 9 (alC (szQ sz) 9 (vhC wc sz) [.tup [.agg [],.agg []]] S) (alN (szQ sz) 9 (vhC wc sz) [.tup [.agg [],.agg []]] S 1)) <|
 ck (isF lvF lvF) <|
 ck (okIu64 wc sz) <|
 ck (okC (lcC (alC (szQ sz) 9 (vhC wc sz) [.tup [.agg [],.agg []]] S)) (lcN (alC (szQ sz) 9 (vhC wc sz) [.tup [.agg [],.agg []]] S))) <|
 ck (xle (lcN (alC (szQ sz) 9 (vhC wc sz) [.tup [.agg [],.agg []]] S)) 1000) <|
 ck (xle sz 1000000) <|
 K .normal [.int .u8 a,.any,.int .i64 S,.slo 13 0 (szQ sz) 0,.int .i64 F,.slo 1 0 k 0,.int .i64 (xar .add .i64 i 1),.any,.any,.any,.any,.any,.any] [sC wc 1,sC tc 1,sN [.slo 3 0 (vhN sz) 0,.slo 4 0 (szQ sz) 0,.int .i64 (alD (szQ sz) (vhC wc sz) [.tup [.agg [],.agg []]] S 0),.ptr 5 0],sC (vhC wc sz) 2,sC (spW (szQ sz) (vhC wc sz)) 1,sN [.int .i64 9,.slo 6 0 (alN (szQ sz) 9 (vhC wc sz) [.tup [.agg [],.agg []]] S 1) 0],some (.obj lvF (alC (szQ sz) 9 (vhC wc sz) [.tup [.agg [],.agg []]] S) 12),sD,sD,sC (lcC (alC (szQ sz) 9 (vhC wc sz) [.tup [.agg [],.agg []]] S)) 2,sD,sC (lcC (alC (szQ sz) 9 (vhC wc sz) [.tup [.agg [],.agg []]] S)) 2,sD,sC (apC wc (lcC (alC (szQ sz) 9 (vhC wc sz) [.tup [.agg [],.agg []]] S))) 1] []))))
 else(
 bif xcm .eql (alE (szQ sz) 9 (vhC wc sz) [.tup [.agg [],.agg []]] S) 0 then(
 ck (xle (xadd k 1) 1000000) <|
 ck (xle (xadd 0 (xmul k 1)) (xln tc)) <|
 ck (okR 9 (alC (szQ sz) 9 (vhC wc sz) [.tup [.agg [],.agg []]] S) (alN (szQ sz) 9 (vhC wc sz) [.tup [.agg [],.agg []]] S 1)) <|
 ck (isF lvF lvF) <|
 ck (okIu64 wc sz) <|
 ck (okC (lcC (alC (szQ sz) 9 (vhC wc sz) [.tup [.agg [],.agg []]] S)) (lcN (alC (szQ sz) 9 (vhC wc sz) [.tup [.agg [],.agg []]] S))) <|
 ck (xle (lcN (alC (szQ sz) 9 (vhC wc sz) [.tup [.agg [],.agg []]] S)) 1000) <|
 ck (xle sz 1000000) <|
 K .normal [.int .u8 a,.any,.int .i64 S,.slo 13 0 (szQ sz) 0,.int .i64 F,.slo 10 0 (xadd k 1) 0,.int .i64 (xar .add .i64 i 1),.any,.any,.any,.any,.any,.any] [sC wc 1,sD,sN [.slo 3 0 (vhN sz) 0,.slo 4 0 (szQ sz) 0,.int .i64 (alD (szQ sz) (vhC wc sz) [.tup [.agg [],.agg []]] S 0),.ptr 5 0],sC (vhC wc sz) 2,sC (spW (szQ sz) (vhC wc sz)) 1,sN [.int .i64 9,.slo 6 0 (alN (szQ sz) 9 (vhC wc sz) [.tup [.agg [],.agg []]] S 1) 0],some (.obj lvF (alC (szQ sz) 9 (vhC wc sz) [.tup [.agg [],.agg []]] S) 12),sD,sD,sN [.int .i64 (alV (szQ sz) 9 (vhC wc sz) [.tup [.agg [],.agg []]] S)],sC (xcat (xcut tc 0 (xmul k 1)) [.int .i64 (alV (szQ sz) 9 (vhC wc sz) [.tup [.agg [],.agg []]] S)]) 1,sC (lcC (alC (szQ sz) 9 (vhC wc sz) [.tup [.agg [],.agg []]] S)) 2,sD,sC (apC wc (lcC (alC (szQ sz) 9 (vhC wc sz) [.tup [.agg [],.agg []]] S))) 1] [])
 else(
 ck (okR 9 (alC (szQ sz) 9 (vhC wc sz) [.tup [.agg [],.agg []]] S) (alN (szQ sz) 9 (vhC wc sz) [.tup [.agg [],.agg []]] S 1)) <|
 ck (isF lvF lvF) <|
 ck (okIu64 wc sz) <|
 ck (okC (lcC (alC (szQ sz) 9 (vhC wc sz) [.tup [.agg [],.agg []]] S)) (lcN (alC (szQ sz) 9 (vhC wc sz) [.tup [.agg [],.agg []]] S))) <|
 ck (xle (lcN (alC (szQ sz) 9 (vhC wc sz) [.tup [.agg [],.agg []]] S)) 1000) <|
 ck (xle sz 1000000) <|
 K .normal [.int .u8 a,.any,.int .i64 S,.slo 11 0 (szQ sz) 0,.int .i64 F,.slo 1 0 k 0,.int .i64 (xar .add .i64 i 1),.any,.any,.any,.any,.any,.any] [sC wc 1,sC tc 1,sN [.slo 3 0 (vhN sz) 0,.slo 4 0 (szQ sz) 0,.int .i64 (alD (szQ sz) (vhC wc sz) [.tup [.agg [],.agg []]] S 0),.ptr 5 0],sC (vhC wc sz) 2,sC (spW (szQ sz) (vhC wc sz)) 1,sN [.int .i64 9,.slo 6 0 (alN (szQ sz) 9 (vhC wc sz) [.tup [.agg [],.agg []]] S 1) 0],some (.obj lvF (alC (szQ sz) 9 (vhC wc sz) [.tup [.agg [],.agg []]] S) 10),sD,sD,sC (lcC (alC (szQ sz) 9 (vhC wc sz) [.tup [.agg [],.agg []]] S)) 2,sD,sC (apC wc (lcC (alC (szQ sz) 9 (vhC wc sz) [.tup [.agg [],.agg []]] S))) 1] []))))
 else(
 K (.exit 0) [.int .u8 a,.any,.int .i64 S,.slo 0 0 sz 0,.int .i64 F,.slo 1 0 k 0,.int .i64 i,.any,.any,.any,.any,.any,.any] [sC wc 1,sC tc 1] [])):=by kernel_rfl
theorem af_c (a S F i:Int) (sz k:Nat) (wc tc:List LV) (K:Pk):(xsp prog cxF 60 135 (seg afS 11 6) (mkTm 135 (afT a S F sz k i)) (mkS (afH wc tc)) (vK afL K))=(
 bif xcm .eql F 0 then(
 K .ret [.int .u8 a,.bool true,.int .i64 S,.slo 0 0 sz 0,.int .i64 F,.slo 1 0 k 0,.int .i64 i,.any,.any,.any,.any,.any,.any] [sC wc 1,sC tc 1] [])
 else(
 ck (okIu64 wc sz) <|
 ck (xle sz 1000000) <|
 ck (xcm .neq F 0) <|
 ck (xnn (xar .rem .i64 (xwr .i64 a) F)) <|
 ck (xle (xadd (xnat (xar .rem .i64 (xwr .i64 a) F)) 1) k) <|
 ck (xle (xadd (xix 0 (xnat (xar .rem .i64 (xwr .i64 a) F)) 1) 1) (xln tc)) <|
 ck (isI .i64 (nthD tc (xix 0 (xnat (xar .rem .i64 (xwr .i64 a) F)) 1))) <|
 K .normal [.int .u8 a,.any,.int .i64 S,.slo 0 0 sz 0,.int .i64 F,.slo 1 0 k 0,.int .i64 i,.ptr 2 0,.int .i64 (asI (nthD tc (xix 0 (xnat (xar .rem .i64 (xwr .i64 a) F)) 1))),.any,.any,.any,.any] [sC wc 1,sC tc 1,sN [.slo 3 0 (vhN sz) 0,.slo 4 0 (szQ sz) 0,.int .i64 0,.ptr 5 0],sC (vhC wc sz) 2,sC (spW (szQ sz) (vhC wc sz)) 1,sN [.int .i64 9,.slo 6 0 1 0],some (.obj lvF [.tup [.agg [],.agg []]] 7),sD] [])):=by kernel_rfl
theorem af_d (S b:Int) (sz n:Nat) (nd most:Int) (d:Nat) (kc sc cs:List LV) (K:Pk):(xsp prog cxF 60 135 (seg afS 17 1) (mkTm 135 (afT2 S b)) (mkS (vwH sz n kc sc nd most d cs)) (vK afL K))=(
 ck (okK sz n kc) <|
 ck (eqL sc (spW sz kc)) <|
 ck (okR most cs d) <|
 ck (fbF sz most kc cs b) <|
 ck (isF lvF lvF) <|
 ck (okK sz n kc) <|
 ck (eqL sc (spW sz kc)) <|
 ck (okR most (fbC sz most kc cs b) (fbN sz most kc cs b d)) <|
 ck (isF lvF lvF) <|
 K .normal [.any,.any,.int .i64 S,.any,.any,.any,.any,.ptr 0 0,.int .i64 b,.int .i64 (fbE sz most kc cs b),.int .i64 (gvE sz most kc (fbC sz most kc cs b) b),.any,.any] [sN [.slo 1 0 n 0,.slo 2 0 sz 0,.int .i64 (gvD sz kc (fbC sz most kc cs b) b (hrD sz kc cs b nd)),.ptr 3 0],sC kc 2,sC sc 1,sN [.int .i64 most,.slo 4 0 (gvN sz most kc (fbC sz most kc cs b) b (fbN sz most kc cs b d)) 0],some (.obj lvF (gvC sz most kc (fbC sz most kc cs b) b) 7),sD,sD,sD] []):=by kernel_rfl
theorem af_e (S b e f:Int) (sz n:Nat) (nd most:Int) (d:Nat) (kc sc cs:List LV) (K:Pk):(xsp prog cxF 60 135 (seg afS 18 1) (mkTm 135 (afT3 S b e f)) (mkS (vwH sz n kc sc nd most d cs)) (vK afL K))=(
 ck (okK sz n kc) <|
 ck (eqL sc (spW sz kc)) <|
 ck (okR most cs d) <|
 ck (isF lvF lvF) <|
 K .normal [.any,.any,.int .i64 S,.any,.any,.any,.any,.ptr 0 0,.int .i64 b,.int .i64 e,.int .i64 f,.int .i64 (alV sz most kc cs S),.int .i64 (alE sz most kc cs S)] [sN [.slo 1 0 n 0,.slo 2 0 sz 0,.int .i64 (alD sz kc cs S nd),.ptr 3 0],sC kc 2,sC sc 1,sN [.int .i64 most,.slo 4 0 (alN sz most kc cs S d) 0],some (.obj lvF (alC sz most kc cs S) 6),sD,sD] []):=by kernel_rfl
abbrev af_z_b1 (sz:Nat) (n:Nat) (nd:Int) (most:Int) (d:Nat) (kc:List LV) (sc:List LV) (cs:List LV):List (Option LB):=[sN [.slo 1 0 n 0,.slo 2 0 sz 0,.int .i64 nd,.ptr 3 0],sC kc 2,sC sc 1,sN [.int .i64 most,.slo 4 0 d 0],some (.obj lvF cs 5),sD]
theorem af_z (b e f x g:Int) (sz n:Nat) (nd most:Int) (d:Nat) (kc sc cs:List LV) (K:Pk):(xsp prog cxF 60 135 (afS.drop 19) (mkTm 135 (afT4 b e f x g)) (mkS (vwH sz n kc sc nd most d cs)) (vK afL K))=(
 bif xcm .eql e 0 then(
 bif xcm .eql f 0 then(
 bif xcm .eql g 0 then(
 bif xcm .eql x b then(
 ck (okK sz n kc) <|
 ck (eqL sc (spW sz kc)) <|
 ck (okR most cs d) <|
 ck (fbF sz most kc cs (xar .add .i64 b 1)) <|
 ck (isF lvF lvF) <|
 K .ret [.any,.bool (xcm .neq (fbE sz most kc cs (xar .add .i64 b 1)) 0),.any,.any,.any,.any,.any,.ptr 0 0,.int .i64 b,.int .i64 e,.int .i64 f,.int .i64 x,.int .i64 g] [sN [.slo 1 0 n 0,.slo 2 0 sz 0,.int .i64 (hrD sz kc cs (xar .add .i64 b 1) nd),.ptr 3 0],sC kc 2,sC sc 1,sN [.int .i64 most,.slo 4 0 (fbN sz most kc cs (xar .add .i64 b 1) d) 0],some (.obj lvF (fbC sz most kc cs (xar .add .i64 b 1)) 6),sD,sD] [])
 else(
 K .ret [.any,.bool false,.any,.any,.any,.any,.any,.ptr 0 0,.int .i64 b,.int .i64 e,.int .i64 f,.int .i64 x,.int .i64 g] (af_z_b1 sz n nd most d kc sc cs) []))
 else(
 K .ret [.any,.bool false,.any,.any,.any,.any,.any,.ptr 0 0,.int .i64 b,.int .i64 e,.int .i64 f,.int .i64 x,.int .i64 g] (af_z_b1 sz n nd most d kc sc cs) []))
 else(
 K .ret [.any,.bool false,.any,.any,.any,.any,.any,.ptr 0 0,.int .i64 b,.int .i64 e,.int .i64 f,.int .i64 x,.int .i64 g] (af_z_b1 sz n nd most d kc sc cs) []))
 else(
 K .ret [.any,.bool false,.any,.any,.any,.any,.any,.ptr 0 0,.int .i64 b,.int .i64 e,.int .i64 f,.int .i64 x,.int .i64 g] (af_z_b1 sz n nd most d kc sc cs) [])):=by kernel_rfl
end
end Go.Lev
