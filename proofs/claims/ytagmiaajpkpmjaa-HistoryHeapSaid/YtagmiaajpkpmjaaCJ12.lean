/- chapter 29: Apply over the words of a history -/
import Derived.Test.YtagmiaajpkpmjaaCJ10
import Derived.Test.YtagmiaajpkpmjaaLc
import Derived.Test.YtagmiaajpkpmjaaChecked
import Derived.KernelRfl
namespace Go.Lev
set_option linter.unusedSimpArgs false
set_option linter.unusedVariables false
open Go.RowKit
open Go.Proofs.Try (prog)
set_option maxRecDepth 100000
noncomputable section
def decIu64:List LV→List Int
 | .int _ a::r=>a::decIu64 r
 | _=>[]
theorem decIu64_enc:∀ xs,decIu64 (encL (cI .u64) xs)=xs
 | []=>rfl
 | x::r=>by simp [encL,cI,decIu64,decIu64_enc r]
def okIu64 (cs:List LV) (n:Nat):Bool:=@decide (cs=encL (cI .u64) (decIu64 cs)∧(decIu64 cs).length=n∧n≤9223372036854775807) (Classical.propDecidable _)
theorem okIu64_iff {cs:List LV} {n:Nat}:okIu64 cs n=true↔∃ xs,cs=encL (cI .u64) xs∧xs.length=n∧n≤9223372036854775807:=by
 simp only [okIu64,decide_eq_true_eq]
 exact⟨fun h=>⟨_,h⟩,fun⟨xs,h1,h2⟩=>by subst h1; rw [decIu64_enc]; exact⟨rfl,h2⟩⟩
theorem okIu64_enc {xs:List Int} (h:xs.length≤9223372036854775807):okIu64 (encL (cI .u64) xs) xs.length=true:=okIu64_iff.2 ⟨_,rfl,rfl,h⟩
theorem encIu64_len (xs:List Int):(encL (cI .u64) xs).length=xs.length:=by rw [encL_length (cI_len .u64)]; omega
theorem encIu64_nth {xs:List Int} {i:Nat} (h:i < xs.length):nthD (encL (cI .u64) xs) i=.int .u64 xs[i]:=by
 have:=encL_nth (cI_len .u64) (j:=0) h (by omega)
 simp only [Nat.mul_one,Nat.add_zero] at this
 exact this
theorem noIds_Iu64 (xs:List Int):noIds (encL (cI .u64) xs)=true:=noIds_encL (fun _=>rfl) xs
def clN (n:Nat):Nat:=min (max n 32) 256
theorem clN_le (n:Nat):32≤clN n∧clN n≤256:=by simp only [clN]; omega
theorem clN_x (n:Nat):xmn (xmx (n:Int) 32) 256=((clN n:Nat):Int):=by
 simp only [xmn,xmx,clN]; split <;> split <;> omega
def hw0 (xs:List Int):List Int:=(List.range (clN xs.length)).map fun i=>if i=0 then 0 else xs.getD i 0
theorem hw0_len (xs:List Int):(hw0 xs).length=clN xs.length:=by simp [hw0]
def ap1 (l:List Int) (c:Int×Int):List Int:=if 1≤c.1∧c.1 < (l.length:Int) then l.set c.1.toNat c.2 else l
theorem ap1_len (l:List Int) (c:Int×Int):(ap1 l c).length=l.length:=by unfold ap1; split <;> simp
def apN (l:List Int) (c:List (Int×Int)):List Int:=c.foldl ap1 l
theorem apN_len:∀ (c:List (Int×Int)) (l:List Int),(apN l c).length=l.length
 | [],l=>rfl
 | x::r,l=>by rw [show apN l (x::r)=apN (ap1 l x) r from rfl,apN_len r,ap1_len]
theorem apN_take (l:List Int) (c:List (Int×Int)) {k:Nat} (h:k < c.length):apN l (c.take (k+1))=ap1 (apN l (c.take k)) c[k]:=by
 rw [List.take_succ_eq_append_getElem h,apN,List.foldl_append]; rfl
theorem encI_map (xs:List Int):encL (cI .u64) xs=xs.map (LV.int .u64):=by
 induction xs with
 | nil=>rfl
 | cons x r ih=>rw [encL,ih]; rfl
theorem rep_one (n:Nat) (v:LV):rep n [v]=List.replicate n v:=by
 induction n with
 | zero=>rfl
 | succ n ih=>rw [rep,ih]; rfl
theorem rep_enc (n:Nat):xrep n [.int .u64 0]=encL (cI .u64) (List.replicate n 0):=by
 rw [encI_map,List.map_replicate]; exact rep_one n _
theorem row_new (xs:List Int):xlay (xlay (xrep (clN xs.length) [.int .u64 0]) 0 (xcut (encL (cI .u64) xs) 0 (min xs.length (clN xs.length)))) 0 [.int .u64 0]=encL (cI .u64) (hw0 xs):=by
 have hc:=clN_le xs.length
 rw [rep_enc,encI_map,encI_map,encI_map]
 simp only [xlay,xcut,List.take_zero,List.nil_append,List.drop_zero,Nat.zero_add,List.length_cons,List.length_nil]
 refine List.ext_getElem? fun i=>?_
 simp only [hw0,List.getElem?_map,List.getElem?_range]
 rcases Nat.eq_zero_or_pos i with rfl | hi
 ·rw [List.getElem?_range (by omega)]; simp
 ·obtain⟨j,rfl⟩:∃ j,i=j+1:=⟨i - 1,by omega⟩
  simp only [List.cons_append,List.nil_append,List.getElem?_cons_succ,List.getElem?_drop,List.getElem?_append,List.length_take,List.length_map,List.getElem?_take,List.getElem?_map,List.getElem?_replicate]
  by_cases h1:1+j < min xs.length (clN xs.length)
  ·rw [if_pos (by omega),if_pos (by omega),List.getElem?_range (by omega),List.getElem?_eq_getElem (by omega)]
   simp only [Option.map_some,Nat.add_comm 1 j,List.getD_eq_getElem?_getD,List.getElem?_eq_getElem (show j+1 < xs.length by omega),Option.getD_some]
   rw [if_neg (by omega)]
  ·rw [if_neg (by omega)]
   by_cases h2:j+1 < clN xs.length
   ·rw [if_pos (by omega),List.getElem?_range h2]
    simp only [Option.map_some,List.getD_eq_getElem?_getD,List.getElem?_eq_none (show xs.length≤j+1 by omega),Option.getD_none,ite_self]
   ·rw [if_neg (by omega),List.getElem?_eq_none (by simpa using h2)]
    rfl
theorem set_I (xs:List Int) (i:Nat) (y:Int) (h:i < xs.length):xlay (encL (cI .u64) xs) i [.int .u64 y]=encL (cI .u64) (xs.set i y):=by
 have e:=encL_set (cI_len .u64) xs i y h
 rw [Nat.mul_one] at e; exact e
abbrev aqS:List Code:=sp prog 18
abbrev aqL:List Nat:=[4,5,18,19,20]
abbrev aqT0 (N:Nat):List (Nat×LV):=[(5,.sl 1 0 N N),(18,.nils),(19,.int .i64 0),(20,.int .i64 0)]
abbrev aqT (N m k:Nat) (v:Value):List (Nat×LV):=[(5,.sl 1 0 N N),(18,.val v),(19,.int .i64 m),(20,.int .i64 k)]
abbrev aqT2 (N:Nat):List (Nat×LV):=[(5,.sl 1 0 N N)]
theorem aqr_a (n:Nat) (ws:List LV) (F:World→Prop) (K:Pk):(xsp prog (fun _=>none) 40 42 (seg aqS 0 5) (tm0 [.slo 0 0 n 0,.nils]) (mkS [.ro ws] (factG F)) (vK aqL K))=(
 ck (xnn (xmn (xmx (↑n) 32) 256)) <|
 ck (xnn (xmn (xmx (↑n) 32) 256)) <|
 ck (xle (xnat (xmn (xmx (↑n) 32) 256)) (xnat (xmn (xmx (↑n) 32) 256))) <|
 ck (xle (xnat (xmn (xmx (↑n) 32) 256)) 100000) <|
 ck (xle (xadd 0 (xmul (xlow n (xnat (xmn (xmx (↑n) 32) 256))) 1)) (xln ws)) <|
 ck (xle (xadd 0 (xln (xcut ws 0 (xmul (xlow n (xnat (xmn (xmx (↑n) 32) 256))) 1)))) (xln (xrep (xnat (xmn (xmx (↑n) 32) 256)) [.int .u64 0]))) <|
 ck (xle 1 (xnat (xmn (xmx (↑n) 32) 256))) <|
 ck (xle 1 (xln (xlay (xrep (xnat (xmn (xmx (↑n) 32) 256)) [.int .u64 0]) 0 (xcut ws 0 (xmul (xlow n (xnat (xmn (xmx (↑n) 32) 256))) 1))))) <|
 K .normal [.nils,.sl 1 0 (xnat (xmn (xmx (↑n) 32) 256)) (xnat (xmn (xmx (↑n) 32) 256)),.nils,.int .i64 0,.int .i64 0] [some (.ro ws),sN (xlay (xlay (xrep (xnat (xmn (xmx (↑n) 32) 256)) [.int .u64 0]) 0 (xcut ws 0 (xmul (xlow n (xnat (xmn (xmx (↑n) 32) 256))) 1))) 0 [.int .u64 0])] (factG F)):=by kernel_rfl
theorem aqr_b (N:Nat) (ws row:List LV) (F:World→Prop) (K:Pk):(xcode prog (fun _=>none) 40 42 (loopOf (nthC aqS 5)) (mkTm 42 (aqT0 N)) (mkS [.ro ws,.cells row none] (factG F)) (vK aqL K))=(
 K (.exit 0) [.any,.sl 1 0 N N,.nils,.int .i64 0,.int .i64 0] [some (.ro ws),sN row] (factG F)):=by kernel_rfl
theorem aqr_z (N:Nat) (ws row:List LV) (F:World→Prop) (K:Pk):(xsp prog (fun _=>none) 40 42 (aqS.drop 6) (mkTm 42 (aqT2 N)) (mkS [.ro ws,.cells row none] (factG F)) (vK aqL K))=(
 K .ret [.sl 1 0 N N,.sl 1 0 N N,.any,.any,.any] [some (.ro ws),sN row] (factG F)):=by kernel_rfl
theorem aqo_a (n:Nat) (v:Value) (ws:List LV) (F:World→Prop) (K:Pk):(xsp prog (fun _=>none) 40 42 (seg aqS 0 5) (tm0 [.slo 0 0 n 0,.val v]) (mkS [.cells ws (some 1)] (factG F)) (vK aqL K))=(
 ck (xnn (xmn (xmx (↑n) 32) 256)) <|
 ck (xnn (xmn (xmx (↑n) 32) 256)) <|
 ck (xle (xnat (xmn (xmx (↑n) 32) 256)) (xnat (xmn (xmx (↑n) 32) 256))) <|
 ck (xle (xnat (xmn (xmx (↑n) 32) 256)) 100000) <|
 ck (xle (xadd 0 (xmul (xlow n (xnat (xmn (xmx (↑n) 32) 256))) 1)) (xln ws)) <|
 ck (xle (xadd 0 (xln (xcut ws 0 (xmul (xlow n (xnat (xmn (xmx (↑n) 32) 256))) 1)))) (xln (xrep (xnat (xmn (xmx (↑n) 32) 256)) [.int .u64 0]))) <|
 ck (xle 1 (xnat (xmn (xmx (↑n) 32) 256))) <|
 ck (xle 1 (xln (xlay (xrep (xnat (xmn (xmx (↑n) 32) 256)) [.int .u64 0]) 0 (xcut ws 0 (xmul (xlow n (xnat (xmn (xmx (↑n) 32) 256))) 1))))) <|
 K .normal [.nils,.sl 1 0 (xnat (xmn (xmx (↑n) 32) 256)) (xnat (xmn (xmx (↑n) 32) 256)),.val v,.int .i64 ↑(xvl v),.int .i64 0] [sC ws 1,sN (xlay (xlay (xrep (xnat (xmn (xmx (↑n) 32) 256)) [.int .u64 0]) 0 (xcut ws 0 (xmul (xlow n (xnat (xmn (xmx (↑n) 32) 256))) 1))) 0 [.int .u64 0])] (factG F)):=by kernel_rfl
theorem aqo_b (N m k:Nat) (v:Value) (ws row:List LV) (F:World→Prop) (K:Pk):(xcode prog (fun _=>none) 40 42 (loopOf (nthC aqS 5)) (mkTm 42 (aqT N m k v)) (mkS [.cells ws (some 1),.cells row none] (factG F)) (vK aqL K))=(
 bif xcm .lss ↑k ↑m then(
 ck (xvix v (xnat ↑k)) <|
 ck (xvrok F v (xmul (xnat ↑k) 2) 2) <|
 ck (xle 2 (xln (xvrow F v (xmul (xnat ↑k) 2) 2))) <|
 ck (isI .i64 (nthD (xvrow F v (xmul (xnat ↑k) 2) 2) 0)) <|
 ck (isI .u64 (nthD (xvrow F v (xmul (xnat ↑k) 2) 2) 1)) <|
 bif xcm .geq (asI (nthD (xvrow F v (xmul (xnat ↑k) 2) 2) 0)) 1 then(
 bif xcm .lss (asI (nthD (xvrow F v (xmul (xnat ↑k) 2) 2) 0)) ↑N then(
 ck (xnn (asI (nthD (xvrow F v (xmul (xnat ↑k) 2) 2) 0))) <|
 ck (xle (xadd (xnat (asI (nthD (xvrow F v (xmul (xnat ↑k) 2) 2) 0))) 1) N) <|
 ck (xle (xadd (xix 0 (xnat (asI (nthD (xvrow F v (xmul (xnat ↑k) 2) 2) 0))) 1) 1) (xln row)) <|
 K .normal [.any,.sl 1 0 N N,.val v,.int .i64 ↑m,.int .i64 (xar .add .i64 (↑k) 1)] [sC ws 1,sN (xlay row (xix 0 (xnat (asI (nthD (xvrow F v (xmul (xnat ↑k) 2) 2) 0))) 1) [.int .u64 (asI (nthD (xvrow F v (xmul (xnat ↑k) 2) 2) 1))]),sN [.int .i64 (asI (nthD (xvrow F v (xmul (xnat ↑k) 2) 2) 0)),.int .u64 (asI (nthD (xvrow F v (xmul (xnat ↑k) 2) 2) 1))]] (factG F))
 else(
 K .normal [.any,.sl 1 0 N N,.val v,.int .i64 ↑m,.int .i64 (xar .add .i64 (↑k) 1)] [sC ws 1,sN row,sN [.int .i64 (asI (nthD (xvrow F v (xmul (xnat ↑k) 2) 2) 0)),.int .u64 (asI (nthD (xvrow F v (xmul (xnat ↑k) 2) 2) 1))]] (factG F)))
 else(
 K .normal [.any,.sl 1 0 N N,.val v,.int .i64 ↑m,.int .i64 (xar .add .i64 (↑k) 1)] [sC ws 1,sN row,sN [.int .i64 (asI (nthD (xvrow F v (xmul (xnat ↑k) 2) 2) 0)),.int .u64 (asI (nthD (xvrow F v (xmul (xnat ↑k) 2) 2) 1))]] (factG F)))
 else(
 K (.exit 0) [.any,.sl 1 0 N N,.val v,.int .i64 ↑m,.int .i64 ↑k] [sC ws 1,sN row] (factG F))):=by kernel_rfl
theorem aqo_z (N:Nat) (ws row:List LV) (F:World→Prop) (K:Pk):(xsp prog (fun _=>none) 40 42 (aqS.drop 6) (mkTm 42 (aqT2 N)) (mkS [.cells ws (some 1),.cells row none] (factG F)) (vK aqL K))=(
 K .ret [.sl 1 0 N N,.sl 1 0 N N,.any,.any,.any] [sC ws 1,sN row] (factG F)):=by kernel_rfl
theorem aqr_ok (xs:List Int) (F:World→Prop):SFun prog 18 [.slo 0 0 xs.length 0,.nils] (mkS [.ro (encL (cI .u64) xs)] (factG F)) fun l s=>l=.slo 1 0 (clN xs.length) 0∧s=mkS [.ro (encL (cI .u64) xs),.cells (encL (cI .u64) (hw0 xs)) (some 1)] (factG F):=by
 refine SFun.mono (SFun.pieces (Q:=fun l b=>l=.slo 1 0 (clN xs.length) 0∧b=[.ro (encL (cI .u64) xs),.cells (encL (cI .u64) (hw0 xs)) (some 1)]) 42 1 aqL [4] (by kernel_rfl) rfl rfl rfl ?_) fun l s' ⟨b0,⟨h1,h2⟩,h3⟩=>⟨h1,by rw [h3,h2]⟩
 have nw:=noIds_Iu64 xs
 have hc:=clN_le xs.length
 have el:xln (xrep (clN xs.length) [.int .u64 0])=clN xs.length:=by rw [rep_enc,xln,encIu64_len,List.length_replicate]
 have ec:xln (xcut (encL (cI .u64) xs) 0 (min xs.length (clN xs.length)))=min xs.length (clN xs.length):=by
  rw [xln,xcut,List.length_take,List.drop_zero,encIu64_len]; omega
 have ey:xln (xlay (xrep (clN xs.length) [.int .u64 0]) 0 (xcut (encL (cI .u64) xs) 0 (min xs.length (clN xs.length))))=clN xs.length:=by
  rw [xln,xlay,List.length_append,List.length_append,List.length_drop]
  have a1:(xrep (clN xs.length) [.int .u64 0]).length=clN xs.length:=el
  have a2:(xcut (encL (cI .u64) xs) 0 (min xs.length (clN xs.length))).length=min xs.length (clN xs.length):=ec
  rw [a1,a2,List.take_zero,List.length_nil]; omega
 have nr:=noIds_Iu64 (hw0 xs)
 refine SSp.to noCx_ok (n:=40) (g:=factG F) 5 5 rfl (σ:=Unit) (fun _=>aqT0 (clN xs.length)) (fun _=>[.ro (encL (cI .u64) xs),.cells (encL (cI .u64) (hw0 xs)) none]) (mkS_le (Nat.le_refl _)) (by kernel_rfl) ?_ fun _=>?_
 ·rw [aqr_a,clN_x]
  simp only [wd_nat,wd_mul,Nat.mul_one,wd_add,Nat.zero_add,show xlow xs.length (clN xs.length)=min xs.length (clN xs.length) from rfl,el,ec,ey,row_new,show xln (encL (cI .u64) xs)=xs.length from encIu64_len xs]
  (refine zR ?_)
  exact⟨rfl,(),[.id 0,.id 1],by(exact zC)⟩
 refine SSp.code_to (g:=factG F) 6 rfl (σ:=Unit) (fun _=>aqT2 (clN xs.length)) (fun _=>[.ro (encL (cI .u64) xs),.cells (encL (cI .u64) (hw0 xs)) none]) (by kernel_rfl) ?_ fun _=>?_
 ·refine SCode.loop_vc noCx_ok (n:=40) 0 (by kernel_rfl) (σ:=Unit) (fun _=>aqT0 (clN xs.length)) (fun _=>[.ro (encL (cI .u64) xs),.cells (encL (cI .u64) (hw0 xs)) none]) (fun _=>0) (fun _=>Nat.le_of_ble_eq_true rfl) (fun _=>?_) ()
  rw [aqr_b]
  exact⟨rfl,(),[.id 0,.id 1],by(exact zC)⟩
 refine SSp.last noCx_ok (n:=40) (mkS_le (Nat.le_of_ble_eq_true rfl)) ?_
 rw [aqr_z]
 have hl:(encL (cI .u64) (hw0 xs)).length=clN xs.length * 1:=by rw [encIu64_len,hw0_len,Nat.mul_one]
 exact⟨trivial,rfl,_,_,[.id 0,.cap 1 0 (clN xs.length)],⟨rfl,rfl⟩,by(exact zC)⟩
theorem aqo_ok (xs:List Int) (ys:List (Int×Int)) (v:Value) (F:World→Prop) (hs:∃ W,F W) (hF:∀ W,F W→RowArg W v ys.length (encL cell ys)) (hm:ys.length≤1000):SFun prog 18 [.slo 0 0 xs.length 0,.val v] (mkS [.cells (encL (cI .u64) xs) (some 1)] (factG F)) fun l s=>l=.slo 1 0 (clN xs.length) 0∧s=mkS [.cells (encL (cI .u64) xs) (some 1),.cells (encL (cI .u64) (apN (hw0 xs) ys)) (some 1)] (factG F):=by
 refine SFun.mono (SFun.pieces (Q:=fun l b=>l=.slo 1 0 (clN xs.length) 0∧b=[.cells (encL (cI .u64) xs) (some 1),.cells (encL (cI .u64) (apN (hw0 xs) ys)) (some 1)]) 42 1 aqL [4] (by kernel_rfl) rfl rfl rfl ?_) fun l s' ⟨b0,⟨h1,h2⟩,h3⟩=>⟨h1,by rw [h3,h2]⟩
 have nw:=noIds_Iu64 xs
 have hc:=clN_le xs.length
 have el:xln (xrep (clN xs.length) [.int .u64 0])=clN xs.length:=by rw [rep_enc,xln,encIu64_len,List.length_replicate]
 have ec:xln (xcut (encL (cI .u64) xs) 0 (min xs.length (clN xs.length)))=min xs.length (clN xs.length):=by
  rw [xln,xcut,List.length_take,List.drop_zero,encIu64_len]; omega
 have ey:xln (xlay (xrep (clN xs.length) [.int .u64 0]) 0 (xcut (encL (cI .u64) xs) 0 (min xs.length (clN xs.length))))=clN xs.length:=by
  rw [xln,xlay,List.length_append,List.length_append,List.length_drop]
  have a1:(xrep (clN xs.length) [.int .u64 0]).length=clN xs.length:=el
  have a2:(xcut (encL (cI .u64) xs) 0 (min xs.length (clN xs.length))).length=min xs.length (clN xs.length):=ec
  rw [a1,a2,List.take_zero,List.length_nil]; omega
 obtain⟨W1,hW1⟩:=hs
 have ev:=vlen_row (hF W1 hW1)
 have nr:=fun k=>noIds_Iu64 (apN (hw0 xs) (ys.take k))
 have H0:=nr 0
 refine SSp.to noCx_ok (n:=40) (g:=factG F) 5 5 rfl (σ:=Unit) (fun _=>aqT (clN xs.length) ys.length 0 v) (fun _=>[.cells (encL (cI .u64) xs) (some 1),.cells (encL (cI .u64) (apN (hw0 xs) (ys.take 0))) none]) (mkS_le (Nat.le_refl _)) (by kernel_rfl) ?_ fun _=>?_
 ·rw [aqo_a,clN_x]
  simp only [wd_nat,wd_mul,Nat.mul_one,wd_add,Nat.zero_add,show xlow xs.length (clN xs.length)=min xs.length (clN xs.length) from rfl,el,ec,ey,ev,row_new,show xln (encL (cI .u64) xs)=xs.length from encIu64_len xs]
  (refine zR ?_)
  exact⟨rfl,(),[.id 0,.id 1],by(exact zC)⟩
 refine SSp.code_to (g:=factG F) 6 rfl (σ:=Unit) (fun _=>aqT2 (clN xs.length)) (fun _=>[.cells (encL (cI .u64) xs) (some 1),.cells (encL (cI .u64) (apN (hw0 xs) (ys.take ys.length))) none]) (by kernel_rfl) ?_ fun _=>?_
 ·refine SCode.loop_vc noCx_ok (n:=40) 0 (by kernel_rfl) (σ:={k:Nat // k≤ys.length}) (fun k=>aqT (clN xs.length) ys.length k.1 v) (fun k=>[.cells (encL (cI .u64) xs) (some 1),.cells (encL (cI .u64) (apN (hw0 xs) (ys.take k.1))) none]) (fun k=>ys.length - k.1) (fun _=>Nat.le_of_ble_eq_true rfl) (fun⟨k,hk⟩=>?_) ⟨0,Nat.zero_le _⟩
  dsimp only
  have hl:(apN (hw0 xs) (ys.take k)).length=clN xs.length:=by rw [apN_len,hw0_len]
  have ll:=encIu64_len (apN (hw0 xs) (ys.take k))
  have n1:=nr k
  have n2:=nr (k+1)
  rw [aqo_b]
  by_cases h0:k < ys.length
  ·have y0:xcm .lss ((k:Nat):Int) ((ys.length:Nat):Int)=true:=t_lss (by omega)
   obtain⟨k1,k2⟩:=vrow_eq ⟨W1,hW1⟩ hF (can_c ys) (k:=k * 2) (m:=2) (by rw [cell_n]; omega) (by omega)
   rw [cell_cut h0] at k2
   have kx:=vidx_row (hF W1 hW1) h0
   have w0:nthD [LV.int .i64 ys[k].1,LV.int .u64 ys[k].2] 0=.int .i64 ys[k].1:=rfl
   have w1:nthD [LV.int .i64 ys[k].1,LV.int .u64 ys[k].2] 1=.int .u64 ys[k].2:=rfl
   have w2:xln [LV.int .i64 ys[k].1,LV.int .u64 ys[k].2]=2:=rfl
   have e1:xar .add .i64 (k:Int) 1=((k+1:Nat):Int):=inc_i64 h0 (by omega)
   have y6:xle 2 2=true:=rfl
   have eT:=apN_take (hw0 xs) ys h0
   rw [eT] at n2
   simp only [y0,kx,k1,k2,w0,w1,w2,y6,e1,hq_i,ll,hl,wd_nat,wd_mul,wd_ln,wd_asI,wd_isI,decide_true,cond_true]
   by_cases g1:1≤ys[k].1
   ·have t1:xcm .geq ys[k].1 1=true:=t_geq g1
    by_cases g2:ys[k].1 < (clN xs.length:Int)
    ·have t2:xcm .lss ys[k].1 ((clN xs.length:Nat):Int)=true:=t_lss g2
     have e:ap1 (apN (hw0 xs) (ys.take k)) ys[k]=(apN (hw0 xs) (ys.take k)).set ys[k].1.toNat ys[k].2:=by rw [ap1,hl,if_pos ⟨g1,g2⟩]
     have t3:xnn ys[k].1=true:=by obtain⟨p,hp⟩:∃ p:Nat,ys[k].1=(p:Int):=⟨ys[k].1.toNat,by omega⟩; rw [hp,wd_nn]
     have t4:xle (ys[k].1.toNat+1) (clN xs.length)=true:=t_le (by omega)
     have s1:=set_I (apN (hw0 xs) (ys.take k)) ys[k].1.toNat ys[k].2 (by rw [hl]; omega)
     rw [e] at n2
     simp only [t1,t2,t3,t4,show xnat ys[k].1=ys[k].1.toNat from rfl,wd_ix,wd_add,Nat.zero_add,Nat.mul_one,s1,cond_true]
     exact⟨rfl,⟨k+1,h0⟩,by dsimp only; omega,[.id 0,.id 1],by dsimp only; rw [eT,e]; (exact zC)⟩
    ·have t2:xcm .lss ys[k].1 ((clN xs.length:Nat):Int)=false:=f_lss (by omega)
     have e:ap1 (apN (hw0 xs) (ys.take k)) ys[k]=apN (hw0 xs) (ys.take k):=by rw [ap1,hl,if_neg (by omega)]
     simp only [t1,t2,cond_true,cond_false]
     exact⟨rfl,⟨k+1,h0⟩,by dsimp only; omega,[.id 0,.id 1],by dsimp only; rw [eT,e]; (exact zC)⟩
   ·have t1:xcm .geq ys[k].1 1=false:=f_geq (by omega)
    have e:ap1 (apN (hw0 xs) (ys.take k)) ys[k]=apN (hw0 xs) (ys.take k):=by rw [ap1,hl,if_neg (by omega)]
    simp only [t1,cond_true,cond_false]
    exact⟨rfl,⟨k+1,h0⟩,by dsimp only; omega,[.id 0,.id 1],by dsimp only; rw [eT,e]; (exact zC)⟩
  ·obtain rfl:k=ys.length:=by omega
   have y0:xcm .lss ((ys.length:Nat):Int) ((ys.length:Nat):Int)=false:=f_lss (by omega)
   simp only [y0,cond_false]
   exact⟨rfl,(),[.id 0,.id 1],by(exact zC)⟩
 refine SSp.last noCx_ok (n:=40) (mkS_le (Nat.le_of_ble_eq_true rfl)) ?_
 rw [aqo_z]
 have n1:=nr ys.length
 rw [List.take_of_length_le (Nat.le_refl _)] at n1
 have hl:(encL (cI .u64) (apN (hw0 xs) ys)).length=clN xs.length * 1:=by rw [encIu64_len,apN_len,hw0_len,Nat.mul_one]
 simp only [List.take_of_length_le (Nat.le_refl ys.length)]
 exact⟨trivial,rfl,_,_,[.id 0,.cap 1 0 (clN xs.length)],⟨rfl,rfl⟩,by(exact zC)⟩
end
end Go.Lev
