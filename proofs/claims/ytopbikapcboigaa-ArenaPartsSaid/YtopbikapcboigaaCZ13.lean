/- chapter 11: the reference's Apply over a row of one's own -/
import Derived.Test.YtopbikapcboigaaCZ12
import Derived.Test.YtopbikapcboigaaLc
import Derived.Test.YtopbikapcboigaaChecked
import Derived.KernelRfl
namespace Go.Lev
set_option linter.unusedSimpArgs false
set_option linter.unusedVariables false
open Go.RowKit
open Go.Proofs.Try (prog)
set_option maxRecDepth 100000
noncomputable section
def hw0 (xs:List Int):List Int:=(List.range (szQ xs.length)).map fun i=>if i=0 then 0 else xs.getD i 0
theorem hw0_len (xs:List Int):(hw0 xs).length=szQ xs.length:=by simp [hw0]
def ap1 (l:List Int) (c:Int×Int):List Int:=if 1≤c.1∧c.1 < (l.length:Int) then l.set c.1.toNat c.2 else l
theorem ap1_len (l:List Int) (c:Int×Int):(ap1 l c).length=l.length:=by unfold ap1; split <;> simp
def apN (l:List Int) (c:List (Int×Int)):List Int:=c.foldl ap1 l
theorem apN_len:∀ (c:List (Int×Int)) (l:List Int),(apN l c).length=l.length
 | [],l=>rfl
 | x::r,l=>by rw [show apN l (x::r)=apN (ap1 l x) r from rfl,apN_len r,ap1_len]
theorem apN_take (l:List Int) (c:List (Int×Int)) {k:Nat} (h:k < c.length):apN l (c.take (k+1))=ap1 (apN l (c.take k)) c[k]:=by
 rw [List.take_succ_eq_append_getElem h,apN,List.foldl_append]; rfl
theorem encI_map (xs:List Int):encL (cI .u64) xs=xs.map (LV.int .u64):=by
 induction xs with
 | nil=>rfl
 | cons x r ih=>rw [encL,ih]; rfl
theorem rep_one (n:Nat) (v:LV):rep n [v]=List.replicate n v:=by
 induction n with
 | zero=>rfl
 | succ n ih=>rw [rep,ih]; rfl
theorem rep_enc (n:Nat):xrep n [.int .u64 0]=encL (cI .u64) (List.replicate n 0):=by
 rw [encI_map,List.map_replicate]; exact rep_one n _
theorem set_I (xs:List Int) (i:Nat) (y:Int) (h:i < xs.length):xlay (encL (cI .u64) xs) i [.int .u64 y]=encL (cI .u64) (xs.set i y):=by
 have e:=encL_set (cI_len .u64) xs i y h
 rw [Nat.mul_one] at e; exact e
theorem hw0_at {xs:List Int} {i:Nat} (h1:1≤i) (h2:i < szQ xs.length):(hw0 xs).getD i 0=xs.getD i 0:=by
 rw [hw0,List.getD_eq_getElem?_getD,List.getElem?_map,List.getElem?_range h2]
 simp only [Option.map_some,Option.getD_some]
 rw [if_neg (by omega)]
theorem szQ_b (n:Nat):32≤szQ n∧szQ n≤256:=szF_b n
def cxr:Cx:=cxl [(20,xhO)]
abbrev raL:List Nat:=[1,4,5,6,7,8]
abbrev raT (N m j:Nat):List (Nat×LV):=[(1,.slo 1 0 m 0),(5,.ptr 2 0),(6,.sl 5 0 N N),(7,.int .i64 j)]
abbrev raU (N m k:Nat):List (Nat×LV):=[(1,.slo 1 0 m 0),(5,.ptr 2 0),(6,.sl 5 0 N N),(8,.int .i64 k)]
abbrev raV (N m:Nat):List (Nat×LV):=[(1,.slo 1 0 m 0),(5,.ptr 2 0),(6,.sl 5 0 N N)]
abbrev raH (N M:Nat) (ws cs kc row:List LV):List LB:=[.cells ws (some 1),.cells cs (some 2),.cells [.int .i64 N,.slo 3 0 M 0,.ptr 4 0,.int .i64 0] none,.cells kc (some 2),.dead,.cells row none]
theorem ra_a (n m:Nat) (ws cs:List LV) (K:Pk):(xsp prog cxr 60 69 (seg (sp prog 36) 0 4) (tm0 [.slo 0 0 n 0,.slo 1 0 m 0]) (mkS [.cells ws (some 1),.cells cs (some 2)]) (vK raL K))=(
 ck (okIu64 ws n) <|
 ck (xle n 1000000) <|
 ck (xle (szQ n) (szQ n)) <|
 ck (xle (szQ n) 100000) <|
 K .normal [.slo 1 0 m 0,.nils,.ptr 2 0,.sl 7 0 (szQ n) (szQ n),.int .i64 0,.tup []] [sC ws 1,sC cs 2,sN [.int .i64 (Int.ofNat (szQ n)),.slo 3 0 (vhN n) 0,.ptr 4 0,.int .i64 0],sC (vhC ws n) 2,sN [.int .i64 0,.slo 5 0 1 0],some (.obj orF [.tup [.agg [],.agg []]] 6),sD,sN (xrep (szQ n) [.int .u64 0])] []):=by kernel_rfl
theorem ra_b (N M m j:Nat) (ws cs kc row:List LV) (K:Pk):(xcode prog cxr 60 69 (loopOf (nthC (sp prog 36) 4)) (mkTm 69 (raT N m j)) (mkS (raH N M ws cs kc row)) (vK raL K))=(
 bif xcm .lss ↑j ↑M then(
 ck (xle (xadd (xnat ↑j) 1) M) <|
 ck (xle (xadd (xix 0 (xnat ↑j) 2) 1) (xln kc)) <|
 ck (isI .i64 (nthD kc (xix 0 (xnat ↑j) 2))) <|
 ck (xle (xadd (xnat ↑j) 1) M) <|
 ck (xle (xadd (xadd (xix 0 (xnat ↑j) 2) 1) 1) (xln kc)) <|
 ck (isI .u64 (nthD kc (xadd (xix 0 (xnat ↑j) 2) 1))) <|
 ck (xnn (asI (nthD kc (xix 0 (xnat ↑j) 2)))) <|
 ck (xle (xadd (xnat (asI (nthD kc (xix 0 (xnat ↑j) 2)))) 1) N) <|
 ck (xle (xadd (xix 0 (xnat (asI (nthD kc (xix 0 (xnat ↑j) 2)))) 1) 1) (xln row)) <|
 K .normal [.slo 1 0 m 0,.any,.ptr 2 0,.sl 5 0 N N,.int .i64 (xar .add .i64 (↑j) 1),.any] [sC ws 1,sC cs 2,sN [.int .i64 ↑N,.slo 3 0 M 0,.ptr 4 0,.int .i64 0],sC kc 2,sD,sN (xlay row (xix 0 (xnat (asI (nthD kc (xix 0 (xnat ↑j) 2)))) 1) [.int .u64 (asI (nthD kc (xadd (xix 0 (xnat ↑j) 2) 1)))])] [])
 else(
 K (.exit 0) [.slo 1 0 m 0,.any,.ptr 2 0,.sl 5 0 N N,.int .i64 ↑j,.any] [sC ws 1,sC cs 2,sN [.int .i64 ↑N,.slo 3 0 M 0,.ptr 4 0,.int .i64 0],sC kc 2,sD,sN row] [])):=by kernel_rfl
theorem ra_c (N M m:Nat) (ws cs kc row:List LV) (K:Pk):(xsp prog cxr 60 69 (seg (sp prog 36) 5 1) (mkTm 69 (raV N m)) (mkS (raH N M ws cs kc row)) (vK raL K))=(
 K .normal [.slo 1 0 m 0,.any,.ptr 2 0,.sl 5 0 N N,.any,.int .i64 0] [sC ws 1,sC cs 2,sN [.int .i64 ↑N,.slo 3 0 M 0,.ptr 4 0,.int .i64 0],sC kc 2,sD,sN row] []):=by kernel_rfl
abbrev ra_d_b1 (N:Nat) (M:Nat) (ws:List LV) (cs:List LV) (kc:List LV) (row:List LV):List (Option LB):=[sC ws 1,sC cs 2,sN [.int .i64 ↑N,.slo 3 0 M 0,.ptr 4 0,.int .i64 0],sC kc 2,sD,sN row]
theorem ra_d (N M m k:Nat) (ws cs kc row:List LV) (K:Pk):(xcode prog cxr 60 69 (loopOf (nthC (sp prog 36) 6)) (mkTm 69 (raU N m k)) (mkS (raH N M ws cs kc row)) (vK raL K))=(
 bif xcm .lss ↑k ↑m then(
 ck (xle (xadd (xnat ↑k) 1) m) <|
 ck (xle (xadd (xix 0 (xnat ↑k) 2) 1) (xln cs)) <|
 ck (isI .i64 (nthD cs (xix 0 (xnat ↑k) 2))) <|
 bif xcm .geq (asI (nthD cs (xix 0 (xnat ↑k) 2))) 1 then(
 bif xcm .lss (asI (nthD cs (xix 0 (xnat ↑k) 2))) ↑N then(
 ck (xle (xadd (xnat ↑k) 1) m) <|
 ck (xle (xadd (xix 0 (xnat ↑k) 2) 1) (xln cs)) <|
 ck (isI .i64 (nthD cs (xix 0 (xnat ↑k) 2))) <|
 ck (xle (xadd (xnat ↑k) 1) m) <|
 ck (xle (xadd (xadd (xix 0 (xnat ↑k) 2) 1) 1) (xln cs)) <|
 ck (isI .u64 (nthD cs (xadd (xix 0 (xnat ↑k) 2) 1))) <|
 ck (xnn (asI (nthD cs (xix 0 (xnat ↑k) 2)))) <|
 ck (xle (xadd (xnat (asI (nthD cs (xix 0 (xnat ↑k) 2)))) 1) N) <|
 ck (xle (xadd (xix 0 (xnat (asI (nthD cs (xix 0 (xnat ↑k) 2)))) 1) 1) (xln row)) <|
 K .normal [.slo 1 0 m 0,.any,.ptr 2 0,.sl 5 0 N N,.any,.int .i64 (xar .add .i64 (↑k) 1)] [sC ws 1,sC cs 2,sN [.int .i64 ↑N,.slo 3 0 M 0,.ptr 4 0,.int .i64 0],sC kc 2,sD,sN (xlay row (xix 0 (xnat (asI (nthD cs (xix 0 (xnat ↑k) 2)))) 1) [.int .u64 (asI (nthD cs (xadd (xix 0 (xnat ↑k) 2) 1)))])] [])
 else(
 K .normal [.slo 1 0 m 0,.any,.ptr 2 0,.sl 5 0 N N,.any,.int .i64 (xar .add .i64 (↑k) 1)] (ra_d_b1 N M ws cs kc row) []))
 else(
 K .normal [.slo 1 0 m 0,.any,.ptr 2 0,.sl 5 0 N N,.any,.int .i64 (xar .add .i64 (↑k) 1)] (ra_d_b1 N M ws cs kc row) []))
 else(
 K (.exit 2) [.slo 1 0 m 0,.any,.ptr 2 0,.sl 5 0 N N,.any,.int .i64 ↑k] (ra_d_b1 N M ws cs kc row) [])):=by kernel_rfl
theorem ra_z (N M:Nat) (ws cs kc row:List LV) (K:Pk):(xsp prog cxr 60 69 ((sp prog 36).drop 7) (mkTm 69 [(6,.sl 5 0 N N)]) (mkS (raH N M ws cs kc row)) (vK raL K))=(
 K .ret [.any,.sl 5 0 N N,.any,.sl 5 0 N N,.any,.any] [sC ws 1,sC cs 2,sN [.int .i64 ↑N,.slo 3 0 M 0,.ptr 4 0,.int .i64 0],sC kc 2,sD,sN row] []):=by kernel_rfl
def rowj (xs:List Int) (j:Nat):List Int:=(List.range (szQ xs.length)).map fun i=>if i≤j then(hw0 xs).getD i 0 else 0
theorem rowj_len (xs:List Int) (j:Nat):(rowj xs j).length=szQ xs.length:=by simp [rowj]
theorem rowj_0 (xs:List Int):List.replicate (szQ xs.length) 0=rowj xs 0:=by
 refine List.ext_getElem (by simp [rowj]) fun i h1 h2=>?_
 simp only [List.length_replicate] at h1
 simp only [rowj,List.getElem_replicate,List.getElem_map,List.getElem_range]
 split
 ·rename_i h; obtain rfl:i=0:=by omega
  simp [hw0,List.getD_eq_getElem?_getD,List.getElem?_range h1]
 ·rfl
theorem rowj_set {xs:List Int} {j:Nat} (h:j+1 < szQ xs.length):(rowj xs j).set (j+1) ((hw0 xs).getD (j+1) 0)=rowj xs (j+1):=by
 refine List.ext_getElem (by simp [rowj]) fun i h1 h2=>?_
 rw [List.getElem_set]
 simp only [rowj,List.getElem_map,List.getElem_range]
 by_cases e:j+1=i
 ·subst e; rw [if_pos rfl,if_pos (Nat.le_refl _)]
 ·rw [if_neg e]
  by_cases h3:i≤j
  ·rw [if_pos h3,if_pos (by omega)]
  ·rw [if_neg h3,if_neg (by omega)]
theorem rowj_all {xs:List Int} {j:Nat} (h:szQ xs.length≤j+1):rowj xs j=hw0 xs:=by
 refine List.ext_getElem (by rw [rowj_len,hw0_len]) fun i h1 h2=>?_
 rw [rowj_len] at h1
 simp only [rowj,List.getElem_map,List.getElem_range]
 rw [if_pos (by omega),List.getD_eq_getElem?_getD,List.getElem?_eq_getElem h2]; rfl
theorem cxr_ok:CtrOk prog (ctrOf cxr):=cxl_ok ⟨xhO_ok,trivial⟩
theorem kk_len (xs:List Int):(vhS xs (vhN xs.length)).length=vhN xs.length:=vhS_len _ _
abbrev raHH (xs:List Int) (ys:List (Int×Int)) (row:List Int):List LB:=raH (szQ xs.length) (vhN xs.length) (encL (cI .u64) xs) (encL cell ys) (encL cell (vhS xs (vhN xs.length))) (encL (cI .u64) row)
theorem ra_ok (xs:List Int) (ys:List (Int×Int)) (hx:xs.length≤1000000) (hm:ys.length≤1000):SFun prog 36 [.slo 0 0 xs.length 0,.slo 1 0 ys.length 0] (mkS [.cells (encL (cI .u64) xs) (some 1),.cells (encL cell ys) (some 2)])
  fun l s=>l=.slo 2 0 (szQ xs.length) 0∧s=mkS [.cells (encL (cI .u64) xs) (some 1),.cells (encL cell ys) (some 2),.cells (encL (cI .u64) (apN (hw0 xs) ys)) (some 1)]:=by
 refine SFun.mono (SFun.pieces (Q:=fun l b=>l=.slo 2 0 (szQ xs.length) 0∧b=[.cells (encL (cI .u64) xs) (some 1),.cells (encL cell ys) (some 2),.cells (encL (cI .u64) (apN (hw0 xs) ys)) (some 1)]) 69 2 raL [4] (by kernel_rfl) rfl rfl rfl ?_) fun l s' ⟨b0,⟨h1,h2⟩,h3⟩=>⟨h1,by rw [h3,h2]⟩
 have nw:=noIds_Iu64 xs
 have nc:noIds (encL cell ys)=true:=noIds_encL (fun _=>rfl) _
 have nk:noIds (encL cell (vhS xs (vhN xs.length)))=true:=noIds_encL (fun _=>rfl) _
 have nr:=fun l:List Int=>noIds_Iu64 l
 have hc:=szQ_b xs.length
 have hM:vhN xs.length=szQ xs.length - 1:=rfl
 refine SSp.to cxr_ok (n:=60) (g:=[]) 4 4 rfl (σ:=Unit) (fun _=>raT (szQ xs.length) ys.length 0) (fun _=>raHH xs ys (rowj xs 0)) (mkS_le (Nat.le_refl _)) (by kernel_rfl) ?_ fun _=>?_
 ·rw [ra_a]
  have n1:=nr (rowj xs 0)
  have ek:vhC (encL (cI .u64) xs) xs.length=encL cell (vhS xs (vhN xs.length)):=by rw [vhC,decIu64_enc]; rfl
  have e1:vhN xs.length=vhN xs.length:=rfl
  have e2:szQ xs.length=szQ xs.length:=rfl
  have l6:xle xs.length 1000000=true:=t_le (by omega)
  have eh:hldV 0 0 96=0:=by kernel_rfl
  simp only [okIu64_enc (Nat.le_trans hx (by omega)),l6,e1,e2,wd_nat,rep_enc,rowj_0,ek,cond_true]
  (refine zR ?_)
  exact⟨rfl,(),[.id 0,.id 1,.id 2,.id 3,.id 4,.id 7],by(exact zC)⟩
 refine SSp.code_to (g:=[]) 5 rfl (σ:=Unit) (fun _=>raV (szQ xs.length) ys.length) (fun _=>raHH xs ys (apN (hw0 xs) (ys.take 0))) (by kernel_rfl) ?_ fun _=>?_
 ·refine SCode.loop_vc cxr_ok (n:=60) 0 (by kernel_rfl) (σ:={k:Nat // k≤vhN xs.length}) (fun k=>raT (szQ xs.length) ys.length k.1) (fun k=>raHH xs ys (rowj xs k.1)) (fun k=>vhN xs.length - k.1) (fun _=>Nat.le_of_ble_eq_true rfl) (fun⟨k,hk⟩=>?_) ⟨0,Nat.zero_le _⟩
  dsimp only
  have hl:=rowj_len xs k
  have n1:=nr (rowj xs k)
  rw [ra_b]
  by_cases h0:k < vhN xs.length
  ·have hkl:k < (vhS xs (vhN xs.length)).length:=by rw [kk_len]; exact h0
   have c0:nthD (encL cell (vhS xs (vhN xs.length))) (k * 2)=.int .i64 ((k+1:Nat):Int):=by rw [cell_0 hkl]; simp [vhS]
   have c1:nthD (encL cell (vhS xs (vhN xs.length))) (k * 2+1)=.int .u64 ((hw0 xs).getD (k+1) 0):=by rw [cell_1 hkl,hw0_at (by omega) (by omega)]; simp [vhS,vhV]
   have n2:=nr (rowj xs (k+1))
   have hs:=rowj_set (xs:=xs) (j:=k) (by omega)
   simp only [wd_nat,wd_asV,wd_isV,wd_ix,wd_add,wd_mul,wd_ln,Nat.zero_add,Nat.mul_one,wd_isI,wd_asI,wd_isB,wd_asB,wd_nn,cI_tlen,cB_tlen,cII_tlen,decide_true,cond_true,wd_not_t,wd_not_f,wd_and_t,wd_and_f,c0,c1,cell_n,kk_len,encIu64_len,hl,inc_i64 h0 (by omega),set_I _ _ _ (show k+1 < (rowj xs k).length by omega),hs]
   (refine zR ?_)
   exact⟨rfl,⟨k+1,by omega⟩,by simp only; omega,[.id 0,.id 1,.id 2,.id 3,.id 4,.id 5],by(exact zC)⟩
  ·have e:=rowj_all (xs:=xs) (j:=k) (by omega)
   (refine zR ?_)
   exact⟨rfl,(),[.id 0,.id 1,.id 2,.id 3,.id 4,.id 5],by rw [List.take_zero,show apN (hw0 xs) []=hw0 xs from rfl,← e]; (exact zC)⟩
 refine SSp.to cxr_ok (n:=60) (g:=[]) 1 6 rfl (σ:=Unit) (fun _=>raU (szQ xs.length) ys.length 0) (fun _=>raHH xs ys (apN (hw0 xs) (ys.take 0))) (mkS_le (Nat.le_of_ble_eq_true rfl)) (by kernel_rfl) ?_ fun _=>?_
 ·have n1:=nr (apN (hw0 xs) (ys.take 0))
  rw [ra_c]
  exact⟨rfl,(),[.id 0,.id 1,.id 2,.id 3,.id 4,.id 5],by(exact zC)⟩
 refine SSp.code_to (g:=[]) 7 rfl (σ:=Unit) (fun _=>[(6,.sl 5 0 (szQ xs.length) (szQ xs.length))]) (fun _=>raHH xs ys (apN (hw0 xs) ys)) (by kernel_rfl) ?_ fun _=>?_
 ·refine SCode.loop_vc cxr_ok (n:=60) 2 (by kernel_rfl) (σ:={k:Nat // k≤ys.length}) (fun k=>raU (szQ xs.length) ys.length k.1) (fun k=>raHH xs ys (apN (hw0 xs) (ys.take k.1))) (fun k=>ys.length - k.1) (fun _=>Nat.le_of_ble_eq_true rfl) (fun⟨k,hk⟩=>?_) ⟨0,Nat.zero_le _⟩
  dsimp only
  have hl:(apN (hw0 xs) (ys.take k)).length=szQ xs.length:=by rw [apN_len,hw0_len]
  have n1:=nr (apN (hw0 xs) (ys.take k))
  rw [ra_d]
  by_cases h0:k < ys.length
  ·have n2:=nr (apN (hw0 xs) (ys.take (k+1)))
   (refine zN6 (cell_0 h0) (cell_1 h0) @cell_n (inc_i64 h0 (by omega)) @encIu64_len @hl ?_)
   simp only [show xnat ys[k].1=ys[k].1.toNat from rfl,wd_ix,wd_add,Nat.zero_add,Nat.mul_one,apN_take (hw0 xs) ys h0] at n2 ⊢
   by_cases h1:1≤ys[k].1∧ys[k].1 < (szQ xs.length:Int)
   ·have e:ap1 (apN (hw0 xs) (ys.take k)) ys[k]=(apN (hw0 xs) (ys.take k)).set ys[k].1.toNat ys[k].2:=by rw [ap1,hl,if_pos h1]
    rw [set_I _ _ _ (by rw [hl]; omega)]
    (refine zR ?_)
    exact⟨rfl,⟨k+1,h0⟩,by simp only; omega,[.id 0,.id 1,.id 2,.id 3,.id 4,.id 5],by rw [e] at n2; simp only [raHH,apN_take (hw0 xs) ys h0,e]; (exact zC)⟩
   ·have e:ap1 (apN (hw0 xs) (ys.take k)) ys[k]=apN (hw0 xs) (ys.take k):=by rw [ap1,hl,if_neg h1]
    by_cases h2:1≤ys[k].1
    ·(refine zR ?_)
     exact⟨rfl,⟨k+1,h0⟩,by simp only; omega,[.id 0,.id 1,.id 2,.id 3,.id 4,.id 5],by simp only [raHH,apN_take (hw0 xs) ys h0,e]; (exact zC)⟩
    ·(refine zR ?_)
     exact⟨rfl,⟨k+1,h0⟩,by simp only; omega,[.id 0,.id 1,.id 2,.id 3,.id 4,.id 5],by simp only [raHH,apN_take (hw0 xs) ys h0,e]; (exact zC)⟩
  ·obtain rfl:k=ys.length:=by omega
   rw [List.take_of_length_le (Nat.le_refl _)] at n1 ⊢
   (refine zR ?_)
   exact⟨rfl,(),[.id 0,.id 1,.id 2,.id 3,.id 4,.id 5],by(exact zC)⟩
 refine zE cxr_ok ?_
 rw [ra_z]
 have n1:=nr (apN (hw0 xs) ys)
 have hl:(encL (cI .u64) (apN (hw0 xs) ys)).length=szQ xs.length * 1:=by rw [encIu64_len,apN_len,hw0_len,Nat.mul_one]
 exact⟨trivial,rfl,_,_,[.id 0,.id 1,.cap 5 0 (szQ xs.length)],⟨rfl,rfl⟩,by(exact zC)⟩
def apC (ws cs:List LV):List LV:=encL (cI .u64) (apN (hw0 (decIu64 ws)) (decC cs))
theorem noIds_ap (ws cs:List LV):noIds (apC ws cs)=true:=noIds_Iu64 _
theorem raG_in (n m:Nat) (ws cs:List LV) (k1:okIu64 ws n=true) (k2:okC cs m=true) (k3:xle m 1000=true) (k4:xle n 1000000=true):SFun prog 36 [.slo 0 0 n 0,.slo 1 0 m 0] (mkS [.cells ws (some 1),.cells cs (some 2)])
  fun l s=>l=.slo 2 0 (szQ n) 0∧s=mkS [.cells ws (some 1),.cells cs (some 2),.cells (apC ws cs) (some 1)]:=by
 obtain⟨xs,rfl,rfl,h⟩:=okIu64_iff.1 k1
 obtain⟨ys,rfl,rfl,_⟩:=okC_iff.1 k2
 rw [apC,decIu64_enc,decC_enc]
 exact ra_ok xs ys (xle_iff.1 k4) (xle_iff.1 k3)
def raG:Gc:=fun args s=>match args,s.g with
 | [.slo a 0 n 0,.slo c 0 m 0],[]=>(match s.h.get a with
   | some (.cells ws (some 1))=>(match s.h.get c with
     | some (.cells cs (some 2))=>cond (nodupB [a,c]) (match s.lay [a,c] [.cells ws (some 1),.cells cs (some 2)] [.cells (apC ws cs) (some 1)] with
       | some s'=>some ([okIu64 ws n,okC cs m,xle m 1000,xle n 1000000],.slo s.n 0 (szQ n) 0,s')
       | none=>none) none
     | _=>none)
   | _=>none)
 | _,_=>none
theorem raG_ok:GOk prog 36 raG:=by
 intro args s bs l s' hg hb hfr
 unfold raG at hg
 split at hg
 ·rename_i a n c m hgl
  split at hg
  ·rename_i ws hb0
   split at hg
   ·rename_i cs hb1
    cases hbc:nodupB [a,c] with
    | false=>rw [hbc] at hg; cases hg
    | true =>
      rw [hbc] at hg
      simp only [cond_true] at hg
      split at hg
      ·rename_i s1 hs1
       simp only [Option.some.injEq,Prod.mk.injEq] at hg
       obtain⟨rfl,rfl,rfl⟩:=hg
       simp only [allT_cons] at hb
       obtain⟨k1,k2,k3,k4,_⟩:=hb
       have no1:=Iu_noids k1
       have no2:=noids_ok k2
       refine SFun.lay (bs:=[.cells ws (some 1),.cells cs (some 2)]) (args0:=[.slo 0 0 n 0,.slo 1 0 m 0]) (bs':=[.cells ws (some 1),.cells cs (some 2),.cells (apC ws cs) (some 1)]) (v0:=.slo 2 0 (szQ n) 0) hfr hs1 (nodupB_nd hbc)
        ⟨⟨there hfr hb0,_,hb0,lb_same (by(exact zId)),fun κ hκ=>lb_same (by(exact zId))⟩,⟨there hfr hb1,_,hb1,lb_same (by(exact zId)),fun κ hκ=>lb_same (by(exact zId))⟩,trivial⟩ (by(exact zTl)) ?_
        fun κ h1 h2=>⟨⟨lb_same (by(exact zId)),lb_same (by(exact zId)),lb_same (noIds_ap ws cs),trivial⟩,lw_slo (h2 0 (by simp))⟩
       rw [hgl]; exact raG_in n m ws cs k1 k2 k3 k4
      ·cases hg
   ·cases hg
  ·cases hg
 ·cases hg
end
end Go.Lev
