/- chapter 11: ArenaPlays: trees -/
import Derived.Test.YtopbikapcboigaaCZ24
import Derived.Test.YtopbikapcboigaaLc
import Derived.Test.YtopbikapcboigaaChecked
import Derived.KernelRfl
namespace Go.Lev
set_option linter.unusedSimpArgs false
set_option linter.unusedVariables false
open Go.RowKit
open Go.Proofs.Try (prog)
set_option maxRecDepth 100000
noncomputable section
abbrev siTu64 (n m k:Nat):List (Nat×LV):=[(0,.slo 0 0 n 0),(1,.slo 1 0 m 0),(5,.int .i64 k)]
abbrev siHu64 (cs ds:List LV):List LB:=[.cells cs (some 1),.cells ds (some 1)]
abbrev siLu64:List Nat:=[0,1,4,5]
theorem siu64_a (n m:Nat) (cs ds:List LV) (K:Pk):(xsp prog (fun _=>none) 40 26 (seg (sp prog 18) 0 4) (tm0 [.slo 0 0 n 0,.slo 1 0 m 0]) (mkS (siHu64 cs ds)) (vK siLu64 K))=(
 bif xcm .neq ↑n ↑m then(
 K .ret [.slo 0 0 n 0,.slo 1 0 m 0,.bool false,.tup []] [sC cs 1,sC ds 1] [])
 else(
 K .normal [.slo 0 0 n 0,.slo 1 0 m 0,.bool false,.int .i64 0] [sC cs 1,sC ds 1] [])):=by kernel_rfl
theorem siu64_b (n m k:Nat) (cs ds:List LV) (K:Pk):(xcode prog (fun _=>none) 40 26 (loopOf (nthC (sp prog 18) 4)) (mkTm 26 (siTu64 n m k)) (mkS (siHu64 cs ds)) (vK siLu64 K))=(
 bif xcm .lss ↑k ↑n then(
 ck (xle (xadd (xnat ↑k) 1) n) <|
 ck (xle (xadd (xix 0 (xnat ↑k) 1) 1) (xln cs)) <|
 ck (isI .u64 (nthD cs (xix 0 (xnat ↑k) 1))) <|
 ck (xle (xadd (xnat ↑k) 1) m) <|
 ck (xle (xadd (xix 0 (xnat ↑k) 1) 1) (xln ds)) <|
 ck (isI .u64 (nthD ds (xix 0 (xnat ↑k) 1))) <|
 bif xcm .neq (asI (nthD cs (xix 0 (xnat ↑k) 1))) (asI (nthD ds (xix 0 (xnat ↑k) 1))) then(
 K .ret [.slo 0 0 n 0,.slo 1 0 m 0,.bool false,.int .i64 ↑k] [sC cs 1,sC ds 1] [])
 else(
 K .normal [.slo 0 0 n 0,.slo 1 0 m 0,.any,.int .i64 (xar .add .i64 (↑k) 1)] [sC cs 1,sC ds 1] []))
 else(
 K (.exit 0) [.slo 0 0 n 0,.slo 1 0 m 0,.any,.int .i64 ↑k] [sC cs 1,sC ds 1] [])):=by kernel_rfl
theorem siu64_z (cs ds:List LV) (K:Pk):(xsp prog (fun _=>none) 40 26 ((sp prog 18).drop 5) (mkTm 26 []) (mkS (siHu64 cs ds)) (vK siLu64 K))=(
 K .ret [.any,.any,.bool true,.any] [sC cs 1,sC ds 1] []):=by kernel_rfl
open Classical in
def sameIu64 (n m:Nat) (cs ds:List LV):Bool:=@decide (n=m∧cs=ds) (Classical.propDecidable _)
theorem sameIu64_self (n:Nat) (cs:List LV):sameIu64 n n cs cs=true:=by simp [sameIu64]
theorem sameIu64_ok (xs ys:List Int) (hn:xs.length≤9223372036854775807) (hm:ys.length≤9223372036854775807):SFun prog 18 [.slo 0 0 xs.length 0,.slo 1 0 ys.length 0] (mkS (siHu64 (encL (cI .u64) xs) (encL (cI .u64) ys)))
  fun l s=>l=.bool (sameIu64 xs.length ys.length (encL (cI .u64) xs) (encL (cI .u64) ys))∧s=mkS (siHu64 (encL (cI .u64) xs) (encL (cI .u64) ys)):=by
 refine SFun.mono (SFun.pieces (Q:=fun l b=>l=.bool (sameIu64 xs.length ys.length (encL (cI .u64) xs) (encL (cI .u64) ys))∧b=siHu64 (encL (cI .u64) xs) (encL (cI .u64) ys)) 26 2 siLu64 [4] (by kernel_rfl) rfl rfl rfl ?_) fun l s' ⟨b0,⟨h1,h2⟩,h3⟩=>⟨h1,by rw [h3,h2]⟩
 have nx:=noIds_Iu64 xs
 have ny:=noIds_Iu64 ys
 have hinj:∀ a b:List Int,encL (cI .u64) a=encL (cI .u64) b→a=b:=fun a b h=>by rw [← decIu64_enc a,h,decIu64_enc]
 refine SSp.to noCx_ok (n:=40) (g:=[]) 4 4 rfl (σ:={_k:Unit // xs.length=ys.length}) (fun _=>siTu64 xs.length ys.length 0) (fun _=>siHu64 (encL (cI .u64) xs) (encL (cI .u64) ys)) (mkS_le (Nat.le_refl _)) (by kernel_rfl) ?_ fun⟨_,hnm⟩=>?_
 ·rw [siu64_a,wd_neq]
  by_cases e:xs.length=ys.length
  ·simp only [e,decide_true,Bool.not_true,cond_false]
   exact⟨rfl,⟨(),e⟩,[.id 0,.id 1],by(exact zC)⟩
  ·simp only [e,decide_false,Bool.not_false,cond_true]
   have hs:sameIu64 xs.length ys.length (encL (cI .u64) xs) (encL (cI .u64) ys)=false:=by simp only [sameIu64,decide_eq_false_iff_not]; exact fun k=>e k.1
   exact⟨trivial,rfl,_,_,[.id 0,.id 1],⟨rfl,rfl⟩,by rw [hs]; (exact zC)⟩
 refine SSp.code_to (g:=[]) 5 rfl (σ:={_k:Unit // xs=ys}) (fun _=>[]) (fun _=>siHu64 (encL (cI .u64) xs) (encL (cI .u64) ys)) (by kernel_rfl) ?_ fun⟨_,hall⟩=>?_
 ·refine SCode.loop_vc noCx_ok (n:=40) 0 (by kernel_rfl) (σ:={k:Nat // k≤xs.length∧∀ i (h:i < xs.length) (h':i < ys.length),i < k→xs[i]=ys[i]}) (fun k=>siTu64 xs.length ys.length k.1) (fun _=>siHu64 (encL (cI .u64) xs) (encL (cI .u64) ys)) (fun k=>xs.length - k.1) (fun _=>Nat.le_refl _) (fun⟨k,hk,hall⟩=>?_) ⟨0,Nat.zero_le _,fun i _ _ hi=>absurd hi (by omega)⟩
  dsimp only
  rw [siu64_b,wd_lss]
  refine ite_way (fun h0=>?_) (fun h0=>⟨rfl,⟨(),List.ext_getElem hnm fun i h1 h2=>hall i h1 h2 (by omega)⟩,[.id 0,.id 1],by(exact zC)⟩)
  have h1:k < ys.length:=by omega
  (refine zN5 (encIu64_nth h0) (encIu64_nth h1) @encIu64_len (inc_i64 h0 hn) @xcm_neq ?_)
  (repeat (with_reducible refine must (by(first | with_reducible rfl | exact t_le (by omega) | exact t_eq (by omega) | exact t_nn (by omega) | exact t_lss (by omega) | exact t_leq (by omega) | exact t_gtr (by omega) | exact t_geq (by omega) | exact t_eql (by omega) | exact t_neq (by omega) | exact t_z (by omega) | exact wd_not_f | assumption)) ?_))
  by_cases e:xs[k]=ys[k]
  ·simp only [e,decide_true,Bool.not_true,cond_false]
   exact⟨rfl,⟨k+1,h0,fun i h2 h3 hi=>by rcases Nat.lt_succ_iff_lt_or_eq.1 hi with hi | rfl; exact hall i h2 h3 hi; exact e⟩,by simp only; omega,[.id 0,.id 1],by(exact zC)⟩
  ·have hs:sameIu64 xs.length ys.length (encL (cI .u64) xs) (encL (cI .u64) ys)=false:=by
    simp only [sameIu64,decide_eq_false_iff_not]
    intro q
    have:=hinj _ _ q.2
    subst this
    exact e rfl
   simp only [e,decide_false,Bool.not_false,cond_true]
   exact⟨trivial,rfl,_,_,[.id 0,.id 1],⟨rfl,rfl⟩,by rw [hs]; (exact zC)⟩
 refine SSp.last noCx_ok (n:=40) (mkS_le (Nat.le_refl _)) ?_
 rw [siu64_z]
 have hs:sameIu64 xs.length ys.length (encL (cI .u64) xs) (encL (cI .u64) ys)=true:=by
  simp only [sameIu64,decide_eq_true_eq]; exact⟨hnm,by rw [hall]⟩
 exact⟨trivial,rfl,_,_,[.id 0,.id 1],⟨rfl,rfl⟩,by rw [hs]; (exact zC)⟩
def sameIu64G:Gc:=fun args s=>match args with
 | [.slo b 0 n 0,.slo c 0 m 0]=>(match s.h.get b,s.h.get c,s.g with
   | some (.cells cs (some 1)),some (.cells ds (some 1)),[]=>cond (Nat.beq b c) none (some ([okIu64 cs n,okIu64 ds m],.bool (sameIu64 n m cs ds),s))
   | _,_,_=>none)
 | _=>none
theorem sameIu64G_ok:GOk prog 18 sameIu64G:=by
 intro args s bs l s' hg hb hfr
 unfold sameIu64G at hg
 split at hg
 ·rename_i b n c m
  split at hg
  ·rename_i cs ds hb1 hc1 hgl
   cases hbc:Nat.beq b c with
   | true=>rw [hbc] at hg; cases hg
   | false =>
     rw [hbc] at hg
     simp only [cond_false,Option.some.injEq,Prod.mk.injEq] at hg
     obtain⟨rfl,rfl,rfl⟩:=hg
     obtain⟨k1,k2⟩:=allT_cons.1 hb
     obtain⟨xs,rfl,rfl,h1⟩:=okIu64_iff.1 k1
     obtain⟨ys,rfl,rfl,h2⟩:=okIu64_iff.1 (allT_cons.1 k2).1
     have nx:=noIds_Iu64 xs
     have ny:=noIds_Iu64 ys
     refine SFun.lift_ro (ρ:=[b,c]) (bs:=siHu64 (encL (cI .u64) xs) (encL (cI .u64) ys)) (args0:=[.slo 0 0 xs.length 0,.slo 1 0 ys.length 0]) hfr (by simp [beq_ne hbc]) ⟨⟨there hfr hb1,_,hb1,by(exact zBk),fun κ hκ=>by(exact zBk)⟩,⟨there hfr hc1,_,hc1,by(exact zBk),fun κ hκ=>by(exact zBk)⟩,trivial⟩ (by(exact zTl)) rfl ?_
     rw [hgl]
     exact sameIu64_ok xs ys h1 h2
  ·cases hg
 ·cases hg
theorem repE (n:Nat):xrep n [.int .u64 0]=encL (cI .u64) (List.replicate n 0):=encL_rep (f:=cI .u64) (0:Int) n
theorem setE (xs:List Int) (i:Nat) (y:Int) (h:i < xs.length):xlay (encL (cI .u64) xs) i [.int .u64 y]=encL (cI .u64) (xs.set i y):=by
 have e:=encL_set (cI_len .u64) xs i y h
 rw [Nat.mul_one] at e; exact e
def szJ (n:Int):Nat:=(min (max n 32) 256).toNat
theorem szJ_b (n:Int):32≤szJ n∧szJ n≤256:=by unfold szJ; omega
theorem szJ_x (n:Int):xmn (xmx n 32) 256=(szJ n:Int):=by unfold szJ; simp only [wd_mn,wd_mx]; split <;> (try split) <;> omega
def szI (n:Int):Nat:=szJ n
def frsL (k:Nat):List Int:=(List.replicate k 0).set 5 14
def frsC (n:Int):List LV:=encL (cI .u64) (frsL (szJ n))
def cxfs:Cx:=cxl [(38,heldG)]
theorem frs_x (n:Int) (K:Fk):(xfun prog cxfs 40 11 [.int .i64 n] (mkS []) (vF K))=(
 ck (xnn (xmn (xmx n 32) 256)) <|
 ck (xnn (xmn (xmx n 32) 256)) <|
 ck (xle (xnat (xmn (xmx n 32) 256)) (xnat (xmn (xmx n 32) 256))) <|
 ck (xle (xnat (xmn (xmx n 32) 256)) 100000) <|
 ck (xle 6 (xnat (xmn (xmx n 32) 256))) <|
 ck (xle 6 (xln (xrep (xnat (xmn (xmx n 32) 256)) [.int .u64 0]))) <|
 K (.sl 0 0 (xnat (xmn (xmx n 32) 256)) (xnat (xmn (xmx n 32) 256))) [sN (xlay (xrep (xnat (xmn (xmx n 32) 256)) [.int .u64 0]) 5 [.int .u64 14])] []):=by kernel_rfl
theorem ofs_x (n:Int) (K:Fk):(xfun prog cxfs 40 19 [.int .i64 n] (mkS []) (vF K))=(
 ck (xnn (hldV n 32 256)) <|
 ck (xnn (hldV n 32 256)) <|
 ck (xle (xnat (hldV n 32 256)) (xnat (hldV n 32 256))) <|
 ck (xle (xnat (hldV n 32 256)) 100000) <|
 ck (xle 6 (xnat (hldV n 32 256))) <|
 ck (xle 6 (xln (xrep (xnat (hldV n 32 256)) [.int .u64 0]))) <|
 K (.sl 0 0 (xnat (hldV n 32 256)) (xnat (hldV n 32 256))) [sN (xlay (xrep (xnat (hldV n 32 256)) [.int .u64 0]) 5 [.int .u64 14])] []):=by kernel_rfl
theorem cxfs_ok:CtrOk prog (ctrOf cxfs):=cxl_ok ⟨heldG_ok,trivial⟩
theorem frs_f (n:Int):SFun prog 11 [.int .i64 n] (mkS []) fun l s=>l=.slo 0 0 (szI n) 0∧s=mkS [.cells (frsC n) (some 1)]:=by
 refine SFun.mono (SFun.vc (Q:=fun l b=>l=.slo 0 0 (szI n) 0∧b=[.cells (frsC n) (some 1)]) cxfs_ok (n:=40) 0 rfl ?_) fun l s' ⟨b0,⟨h1,h2⟩,h3⟩=>⟨h1,by rw [h3,h2]⟩
 have hb:=szJ_b n
 rw [frs_x]
 have e0:hldV n 32 256=(szJ n:Int):=by rw [hld_cl (by omega),szJ_x]
 try simp only [szJ_x]
 try simp only [e0]
 have e1:xrep (szJ n) [.int .u64 0]=encL (cI .u64) (List.replicate (szJ n) 0):=repE _
 have e2:xlay (encL (cI .u64) (List.replicate (szJ n) 0)) 5 [.int .u64 14]=encL (cI .u64) (frsL (szJ n)):=setE _ 5 14 (by simp; omega)
 have nn:=noIds_Iu64 (frsL (szJ n))
 have ll:(encL (cI .u64) (frsL (szJ n))).length=szJ n * 1:=by rw [encIu64_len,frsL,List.length_set,List.length_replicate,Nat.mul_one]
 have l2:(encL (cI .u64) (List.replicate (szJ n) 0)).length=szJ n:=by rw [encIu64_len,List.length_replicate]
 (refine zN4 @e1 @e2 @ll @l2 ?_)
 (refine zR ?_)
 exact⟨rfl,_,_,[.cap 0 0 (szJ n)],⟨rfl,rfl⟩,by(exact zC)⟩
def frsG:Gc:=fun args s=>match args,s.g with
 | [.int .i64 n],[]=>(match s.lay [] [] [.cells (frsC n) (some 1)] with
   | some s'=>some ([],.slo s.n 0 (szI n) 0,s')
   | none=>none)
 | _,_=>none
theorem frsG_ok:GOk prog 11 frsG:=by
 intro args s bs l s' hg hb hfr
 unfold frsG at hg
 split at hg
 ·rename_i n hgl
  split at hg
  ·rename_i s1 hs1
   simp only [Option.some.injEq,Prod.mk.injEq] at hg
   obtain⟨rfl,rfl,rfl⟩:=hg
   refine SFun.lay (bs:=[]) (args0:=[.int .i64 n]) (bs':=[.cells (frsC n) (some 1)]) (v0:=.slo 0 0 (szI n) 0) hfr hs1 (by simp)
    trivial (by(exact zTl)) ?_
    fun κ h1 h2=>⟨⟨lb_same (noIds_Iu64 _),trivial⟩,lw_slo (h2 0 (by simp))⟩
   rw [hgl]; exact(frs_f n)
  ·cases hg
 ·cases hg
theorem ofs_f (n:Int):SFun prog 19 [.int .i64 n] (mkS []) fun l s=>l=.slo 0 0 (szI n) 0∧s=mkS [.cells (frsC n) (some 1)]:=by
 refine SFun.mono (SFun.vc (Q:=fun l b=>l=.slo 0 0 (szI n) 0∧b=[.cells (frsC n) (some 1)]) cxfs_ok (n:=40) 0 rfl ?_) fun l s' ⟨b0,⟨h1,h2⟩,h3⟩=>⟨h1,by rw [h3,h2]⟩
 have hb:=szJ_b n
 rw [ofs_x]
 have e0:hldV n 32 256=(szJ n:Int):=by rw [hld_cl (by omega),szJ_x]
 try simp only [szJ_x]
 try simp only [e0]
 have e1:xrep (szJ n) [.int .u64 0]=encL (cI .u64) (List.replicate (szJ n) 0):=repE _
 have e2:xlay (encL (cI .u64) (List.replicate (szJ n) 0)) 5 [.int .u64 14]=encL (cI .u64) (frsL (szJ n)):=setE _ 5 14 (by simp; omega)
 have nn:=noIds_Iu64 (frsL (szJ n))
 have ll:(encL (cI .u64) (frsL (szJ n))).length=szJ n * 1:=by rw [encIu64_len,frsL,List.length_set,List.length_replicate,Nat.mul_one]
 have l2:(encL (cI .u64) (List.replicate (szJ n) 0)).length=szJ n:=by rw [encIu64_len,List.length_replicate]
 (refine zN4 @e1 @e2 @ll @l2 ?_)
 (refine zR ?_)
 exact⟨rfl,_,_,[.cap 0 0 (szJ n)],⟨rfl,rfl⟩,by(exact zC)⟩
def ofsG:Gc:=fun args s=>match args,s.g with
 | [.int .i64 n],[]=>(match s.lay [] [] [.cells (frsC n) (some 1)] with
   | some s'=>some ([],.slo s.n 0 (szI n) 0,s')
   | none=>none)
 | _,_=>none
theorem ofsG_ok:GOk prog 19 ofsG:=by
 intro args s bs l s' hg hb hfr
 unfold ofsG at hg
 split at hg
 ·rename_i n hgl
  split at hg
  ·rename_i s1 hs1
   simp only [Option.some.injEq,Prod.mk.injEq] at hg
   obtain⟨rfl,rfl,rfl⟩:=hg
   refine SFun.lay (bs:=[]) (args0:=[.int .i64 n]) (bs':=[.cells (frsC n) (some 1)]) (v0:=.slo 0 0 (szI n) 0) hfr hs1 (by simp)
    trivial (by(exact zTl)) ?_
    fun κ h1 h2=>⟨⟨lb_same (noIds_Iu64 _),trivial⟩,lw_slo (h2 0 (by simp))⟩
   rw [hgl]; exact(ofs_f n)
  ·cases hg
 ·cases hg
def cxpa:Cx:=cxl [(3,runG),(11,frsG),(19,ofsG),(18,sameIu64G),(10,whO),(20,xhO),(21,doaG),(22,sanG)]
abbrev paS:List Code:=sp prog 4
abbrev paL:List Nat:=[2,6,8,9,10,11]
abbrev paT (n k i:Nat):List (Nat×LV):=[(2,.slo 0 0 n 0),(8,.ptr 2 0),(9,.ptr 8 0),(10,.slo 1 0 k 0),(11,.int .i64 i)]
abbrev paH (ax tc:List LV) (sz n:Nat) (kc sc:List LV) (nd most:Int) (d:Nat) (cs:List LV):List LB:=[.ro ax,.cells tc (some 1),.cells [.slo 3 0 n 0,.slo 4 0 sz 0,.int .i64 nd,.ptr 5 0] none,.cells kc (some 2),.cells sc (some 1),.cells [.int .i64 most,.slo 6 0 d 0] none,.obj lvF cs 7,.dead,.cells [.int .i64 sz,.slo 9 0 n 0,.ptr 10 0,.int .i64 nd] none,.cells kc (some 2),.cells [.int .i64 most,.slo 11 0 d 0] none,.obj orF cs 12,.dead]
theorem pa_a (w most:Int) (n:Nat) (ax:List LV) (K:Pk):(xsp prog cxpa 60 61 (seg paS 0 11) (tm0 [.int .i64 w,.int .i64 most,.slo 0 0 n 0]) (mkS [.ro ax]) (vK paL K))=(
 ck (okIu64 (frsC w) (szI w)) <|
 ck (okIu64 (frsC w) (szI w)) <|
 bif xnot (sameIu64 (szI w) (szI w) (frsC w) (frsC w)) then(
 K .ret [.slo 0 0 n 0,.bool false,.tup [],.tup [],.tup [],.tup []] [some (.ro ax),sC (frsC w) 1,sC (frsC w) 1] [])
 else(
 ck (okIu64 (frsC w) (szI w)) <|
 ck (xle (szI w) 1000000) <|
 ck (okIu64 (frsC w) (szI w)) <|
 ck (xle (szI w) 1000000) <|
 K .normal [.slo 0 0 n 0,.bool false,.ptr 3 0,.ptr 9 0,.nils,.int .i64 0] [some (.ro ax),sC (frsC w) 1,sC (frsC w) 1,sN [.slo 4 0 (vhN (szI w)) 0,.slo 5 0 (szQ (szI w)) 0,.int .i64 0,.ptr 6 0],sC (vhC (frsC w) (szI w)) 2,sC (spW (szQ (szI w)) (vhC (frsC w) (szI w))) 1,sN [.int .i64 (xmn (xmx most 0) 96),.slo 7 0 1 0],some (.obj lvF [.tup [.agg [],.agg []]] 8),sD,sN [.int .i64 (Int.ofNat (szQ (szI w))),.slo 10 0 (vhN (szI w)) 0,.ptr 11 0,.int .i64 0],sC (vhC (frsC w) (szI w)) 2,sN [.int .i64 (xmn (xmx most 0) 96),.slo 12 0 1 0],some (.obj orF [.tup [.agg [],.agg []]] 13),sD] [])):=by kernel_rfl
abbrev pa_b_b1 (ax:List LV) (tc:List LV) (sz:Nat) (n:Nat) (kc:List LV) (sc:List LV) (nd:Int) (most:Int) (d:Nat) (cs:List LV):List (Option LB):=[some (.ro ax),sC tc 1,sN [.slo 3 0 n 0,.slo 4 0 sz 0,.int .i64 nd,.ptr 5 0],sC kc 2,sC sc 1,sN [.int .i64 most,.slo 6 0 d 0],some (.obj lvF cs 7),sD,sN [.int .i64 ↑sz,.slo 9 0 n 0,.ptr 10 0,.int .i64 nd],sC kc 2,sN [.int .i64 most,.slo 11 0 d 0],some (.obj orF cs 12),sD]
theorem pa_b (m k i:Nat) (ax tc:List LV) (sz n:Nat) (kc sc:List LV) (nd most:Int) (d:Nat) (cs:List LV) (K:Pk):(xcode prog cxpa 60 61 (loopOf (nthC paS 11)) (mkTm 61 (paT m k i)) (mkS (paH ax tc sz n kc sc nd most d cs)) (vK paL K))=(
 bif xcm .lss ↑i ↑m then(
 bif xcm .lss (↑i) 40 then(
 ck (xle (xadd (xnat ↑i) 1) m) <|
 ck (xle (xadd (xix 0 (xnat ↑i) 3) 3) (xln ax)) <|
 ck (isI .i64 (nthD ax (xix 0 (xnat ↑i) 3))) <|
 ck (isI .i64 (nthD ax (xadd (xix 0 (xnat ↑i) 3) 1))) <|
 ck (isB (nthD ax (xadd (xadd (xix 0 (xnat ↑i) 3) 1) 1))) <|
 ck (okK sz n kc) <|
 ck (eqL sc (spW sz kc)) <|
 ck (okR most cs d) <|
 ck (xcm .eql most most) <|
 ck (xeq d d) <|
 ck (eqL cs cs) <|
 ck (xeq sz sz) <|
 ck (xeq n n) <|
 ck (eqL kc kc) <|
 ck (xcm .eql nd nd) <|
 ck (okv sz kc cs) <|
 ck (daF sz most kc cs tc k (asI (nthD ax (xix 0 (xnat ↑i) 3))) (asI (nthD ax (xadd (xix 0 (xnat ↑i) 3) 1))) (asB (nthD ax (xadd (xadd (xix 0 (xnat ↑i) 3) 1) 1)))) <|
 ck (okIi64 tc k) <|
 ck (xle k 1000) <|
 ck (isF lvF lvF) <|
 ck (isF orF orF) <|
 ck (okK sz n kc) <|
 ck (eqL sc (spW sz kc)) <|
 ck (okR most (daC sz most kc cs tc k (asI (nthD ax (xix 0 (xnat ↑i) 3))) (asI (nthD ax (xadd (xix 0 (xnat ↑i) 3) 1))) (asB (nthD ax (xadd (xadd (xix 0 (xnat ↑i) 3) 1) 1)))) (daN sz most kc cs tc k (asI (nthD ax (xix 0 (xnat ↑i) 3))) (asI (nthD ax (xadd (xix 0 (xnat ↑i) 3) 1))) (asB (nthD ax (xadd (xadd (xix 0 (xnat ↑i) 3) 1) 1))) d)) <|
 ck (xcm .eql most most) <|
 ck (xeq (daN sz most kc cs tc k (asI (nthD ax (xix 0 (xnat ↑i) 3))) (asI (nthD ax (xadd (xix 0 (xnat ↑i) 3) 1))) (asB (nthD ax (xadd (xadd (xix 0 (xnat ↑i) 3) 1) 1))) d) (daN sz most kc cs tc k (asI (nthD ax (xix 0 (xnat ↑i) 3))) (asI (nthD ax (xadd (xix 0 (xnat ↑i) 3) 1))) (asB (nthD ax (xadd (xadd (xix 0 (xnat ↑i) 3) 1) 1))) d)) <|
 ck (eqL (daC sz most kc cs tc k (asI (nthD ax (xix 0 (xnat ↑i) 3))) (asI (nthD ax (xadd (xix 0 (xnat ↑i) 3) 1))) (asB (nthD ax (xadd (xadd (xix 0 (xnat ↑i) 3) 1) 1)))) (daC sz most kc cs tc k (asI (nthD ax (xix 0 (xnat ↑i) 3))) (asI (nthD ax (xadd (xix 0 (xnat ↑i) 3) 1))) (asB (nthD ax (xadd (xadd (xix 0 (xnat ↑i) 3) 1) 1))))) <|
 ck (xeq sz sz) <|
 ck (xeq n n) <|
 ck (eqL kc kc) <|
 ck (xcm .eql (daD sz kc cs tc k (asI (nthD ax (xix 0 (xnat ↑i) 3))) (asI (nthD ax (xadd (xix 0 (xnat ↑i) 3) 1))) (asB (nthD ax (xadd (xadd (xix 0 (xnat ↑i) 3) 1) 1))) nd) (daD sz kc cs tc k (asI (nthD ax (xix 0 (xnat ↑i) 3))) (asI (nthD ax (xadd (xix 0 (xnat ↑i) 3) 1))) (asB (nthD ax (xadd (xadd (xix 0 (xnat ↑i) 3) 1) 1))) nd)) <|
 ck (isF lvF lvF) <|
 ck (isF orF orF) <|
 K .normal [.slo 0 0 m 0,.any,.ptr 2 0,.ptr 8 0,.slo 17 0 (daM sz most kc cs k (asI (nthD ax (xix 0 (xnat ↑i) 3))) (asI (nthD ax (xadd (xix 0 (xnat ↑i) 3) 1)))) 0,.int .i64 (xar .add .i64 (↑i) 1)] [some (.ro ax),sD,sN [.slo 3 0 n 0,.slo 4 0 sz 0,.int .i64 (daD sz kc cs tc k (asI (nthD ax (xix 0 (xnat ↑i) 3))) (asI (nthD ax (xadd (xix 0 (xnat ↑i) 3) 1))) (asB (nthD ax (xadd (xadd (xix 0 (xnat ↑i) 3) 1) 1))) nd),.ptr 5 0],sC kc 2,sC sc 1,sN [.int .i64 most,.slo 13 0 (daN sz most kc cs tc k (asI (nthD ax (xix 0 (xnat ↑i) 3))) (asI (nthD ax (xadd (xix 0 (xnat ↑i) 3) 1))) (asB (nthD ax (xadd (xadd (xix 0 (xnat ↑i) 3) 1) 1))) d) 0],sD,sD,sN [.int .i64 (Int.ofNat sz),.slo 9 0 n 0,.ptr 10 0,.int .i64 (daD sz kc cs tc k (asI (nthD ax (xix 0 (xnat ↑i) 3))) (asI (nthD ax (xadd (xix 0 (xnat ↑i) 3) 1))) (asB (nthD ax (xadd (xadd (xix 0 (xnat ↑i) 3) 1) 1))) nd)],sC kc 2,sN [.int .i64 most,.slo 15 0 (daN sz most kc cs tc k (asI (nthD ax (xix 0 (xnat ↑i) 3))) (asI (nthD ax (xadd (xix 0 (xnat ↑i) 3) 1))) (asB (nthD ax (xadd (xadd (xix 0 (xnat ↑i) 3) 1) 1))) d) 0],sD,sD,some (.obj lvF (daC sz most kc cs tc k (asI (nthD ax (xix 0 (xnat ↑i) 3))) (asI (nthD ax (xadd (xix 0 (xnat ↑i) 3) 1))) (asB (nthD ax (xadd (xadd (xix 0 (xnat ↑i) 3) 1) 1)))) 18),sD,some (.obj orF (daC sz most kc cs tc k (asI (nthD ax (xix 0 (xnat ↑i) 3))) (asI (nthD ax (xadd (xix 0 (xnat ↑i) 3) 1))) (asB (nthD ax (xadd (xadd (xix 0 (xnat ↑i) 3) 1) 1)))) 19),sD,sC (daR sz most kc cs tc (asI (nthD ax (xix 0 (xnat ↑i) 3))) (asI (nthD ax (xadd (xix 0 (xnat ↑i) 3) 1)))) 1,sD,sD] [])
 else(
 K (.exit 0) [.slo 0 0 m 0,.any,.ptr 2 0,.ptr 8 0,.slo 1 0 k 0,.int .i64 ↑i] (pa_b_b1 ax tc sz n kc sc nd most d cs) []))
 else(
 K (.exit 0) [.slo 0 0 m 0,.any,.ptr 2 0,.ptr 8 0,.slo 1 0 k 0,.int .i64 ↑i] (pa_b_b1 ax tc sz n kc sc nd most d cs) [])):=by kernel_rfl
theorem pa_z (m k i:Nat) (ax tc:List LV) (sz n:Nat) (kc sc:List LV) (nd most:Int) (d:Nat) (cs:List LV) (K:Pk):(xsp prog cxpa 60 61 (paS.drop 12) (mkTm 61 (paT m k i)) (mkS (paH ax tc sz n kc sc nd most d cs)) (vK paL K))=(
 K .ret [.slo 0 0 m 0,.bool true,.ptr 2 0,.ptr 8 0,.slo 1 0 k 0,.int .i64 ↑i] [some (.ro ax),sC tc 1,sN [.slo 3 0 n 0,.slo 4 0 sz 0,.int .i64 nd,.ptr 5 0],sC kc 2,sC sc 1,sN [.int .i64 most,.slo 6 0 d 0],some (.obj lvF cs 7),sD,sN [.int .i64 ↑sz,.slo 9 0 n 0,.ptr 10 0,.int .i64 nd],sC kc 2,sN [.int .i64 most,.slo 11 0 d 0],some (.obj orF cs 12),sD] []):=by kernel_rfl
end
end Go.Lev
