/- chapter 11: ArenaPlays: trees -/
import Derived.Test.YtopbikapcboigaaCZ24
import Derived.Test.YtopbikapcboigaaLc
import Derived.Test.YtopbikapcboigaaChecked
import Derived.KernelRfl
namespace Go.Lev
set_option linter.unusedSimpArgs false
set_option linter.unusedVariables false
open Go.RowKit
open Go.Proofs.Try (prog)
set_option maxRecDepth 100000
noncomputable section
open Classical in
theorem repE (n:Nat):xrep n [.int .u64 0]=encL (cI .u64) (List.replicate n 0):=encL_rep (f:=cI .u64) (0:Int) n
theorem setE (xs:List Int) (i:Nat) (y:Int) (h:i < xs.length):xlay (encL (cI .u64) xs) i [.int .u64 y]=encL (cI .u64) (xs.set i y):=by
 have e:=encL_set (cI_len .u64) xs i y h
 rw [Nat.mul_one] at e; exact e
def szJ (n:Int):Nat:=(min (max n 32) 256).toNat
theorem szJ_b (n:Int):32≤szJ n∧szJ n≤256:=by unfold szJ; omega
theorem szJ_x (n:Int):xmn (xmx n 32) 256=(szJ n:Int):=by unfold szJ; simp only [wd_mn,wd_mx]; split <;> (try split) <;> omega
def szI (n:Int):Nat:=szJ n
def frsL (k:Nat):List Int:=(List.replicate k 0).set 5 14
def frsC (n:Int):List LV:=encL (cI .u64) (frsL (szJ n))
def cxfs:Cx:=cxl [(38,heldG)]
theorem ofs_x (n:Int) (K:Fk):(xfun prog cxfs 40 19 [.int .i64 n] (mkS []) (vF K))=(
 ck (xnn (hldV n 32 256)) <|
 ck (xnn (hldV n 32 256)) <|
 ck (xle (xnat (hldV n 32 256)) (xnat (hldV n 32 256))) <|
 ck (xle (xnat (hldV n 32 256)) 100000) <|
 ck (xle 6 (xnat (hldV n 32 256))) <|
 ck (xle 6 (xln (xrep (xnat (hldV n 32 256)) [.int .u64 0]))) <|
 K (.sl 0 0 (xnat (hldV n 32 256)) (xnat (hldV n 32 256))) [sN (xlay (xrep (xnat (hldV n 32 256)) [.int .u64 0]) 5 [.int .u64 14])] []):=by kernel_rfl
theorem cxfs_ok:CtrOk prog (ctrOf cxfs):=cxl_ok ⟨heldG_ok,trivial⟩
theorem ofs_f (n:Int):SFun prog 19 [.int .i64 n] (mkS []) fun l s=>l=.slo 0 0 (szI n) 0∧s=mkS [.cells (frsC n) (some 1)]:=by
 refine SFun.mono (SFun.vc (Q:=fun l b=>l=.slo 0 0 (szI n) 0∧b=[.cells (frsC n) (some 1)]) cxfs_ok (n:=40) 0 rfl ?_) fun l s' ⟨b0,⟨h1,h2⟩,h3⟩=>⟨h1,by rw [h3,h2]⟩
 have hb:=szJ_b n
 rw [ofs_x]
 have e0:hldV n 32 256=(szJ n:Int):=by rw [hld_cl (by omega),szJ_x]
 try simp only [szJ_x]
 try simp only [e0]
 have e1:xrep (szJ n) [.int .u64 0]=encL (cI .u64) (List.replicate (szJ n) 0):=repE _
 have e2:xlay (encL (cI .u64) (List.replicate (szJ n) 0)) 5 [.int .u64 14]=encL (cI .u64) (frsL (szJ n)):=setE _ 5 14 (by simp; omega)
 have nn:=noIds_Iu64 (frsL (szJ n))
 have ll:(encL (cI .u64) (frsL (szJ n))).length=szJ n * 1:=by rw [encIu64_len,frsL,List.length_set,List.length_replicate,Nat.mul_one]
 have l2:(encL (cI .u64) (List.replicate (szJ n) 0)).length=szJ n:=by rw [encIu64_len,List.length_replicate]
 (refine zN4 @e1 @e2 @ll @l2 ?_)
 (refine zR ?_)
 exact⟨rfl,_,_,[.cap 0 0 (szJ n)],⟨rfl,rfl⟩,by(exact zC)⟩
def ofsG:Gc:=fun args s=>match args,s.g with
 | [.int .i64 n],[]=>(match s.lay [] [] [.cells (frsC n) (some 1)] with
   | some s'=>some ([],.slo s.n 0 (szI n) 0,s')
   | none=>none)
 | _,_=>none
theorem ofsG_ok:GOk prog 19 ofsG:=by
 intro args s bs l s' hg hb hfr
 unfold ofsG at hg
 split at hg
 ·rename_i n hgl
  split at hg
  ·rename_i s1 hs1
   simp only [Option.some.injEq,Prod.mk.injEq] at hg
   obtain⟨rfl,rfl,rfl⟩:=hg
   refine SFun.lay (bs:=[]) (args0:=[.int .i64 n]) (bs':=[.cells (frsC n) (some 1)]) (v0:=.slo 0 0 (szI n) 0) hfr hs1 (by simp)
    trivial (by(exact zTl)) ?_
    fun κ h1 h2=>⟨⟨lb_same (noIds_Iu64 _),trivial⟩,lw_slo (h2 0 (by simp))⟩
   rw [hgl]; exact(ofs_f n)
  ·cases hg
 ·cases hg
end
end Go.Lev
