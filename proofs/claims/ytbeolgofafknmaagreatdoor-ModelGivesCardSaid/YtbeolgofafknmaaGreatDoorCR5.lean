/- chapter 11: the code's Apply over a row of one's own; both Applys of nothing -/
import Derived.Test.YtbeolgofafknmaaGreatDoorCR4
import Derived.Test.YtbeolgofafknmaaGreatDoorLc
import Derived.Test.YtbeolgofafknmaaGreatDoorChecked
import Derived.KernelRfl
namespace Go.Lev
set_option linter.unusedSimpArgs false
set_option linter.unusedVariables false
open Go.RowKit
open Go.Proofs.Tryz (prog)
set_option maxRecDepth 100000
noncomputable section
theorem szQ_x (n:Nat):xmn (xmx (n:Int) 32) 256=((szQ n:Nat):Int):=szF_x n
theorem row_new (xs:List Int):xlay (xlay (xrep (szQ xs.length) [.int .u64 0]) 0 (xcut (encL (cI .u64) xs) 0 (min xs.length (szQ xs.length)))) 0 [.int .u64 0]=encL (cI .u64) (hw0 xs):=by
 have hc:=szQ_b xs.length
 rw [rep_enc,encI_map,encI_map,encI_map]
 simp only [xlay,xcut,List.take_zero,List.nil_append,List.drop_zero,Nat.zero_add,List.length_cons,List.length_nil]
 refine List.ext_getElem? fun i=>?_
 simp only [hw0,List.getElem?_map,List.getElem?_range]
 rcases Nat.eq_zero_or_pos i with rfl | hi
 ·rw [List.getElem?_range (by omega)]; simp
 ·obtain⟨j,rfl⟩:∃ j,i=j+1:=⟨i - 1,by omega⟩
  simp only [List.cons_append,List.nil_append,List.getElem?_cons_succ,List.getElem?_drop,List.getElem?_append,List.length_take,List.length_map,List.getElem?_take,List.getElem?_map,List.getElem?_replicate]
  by_cases h1:1+j < min xs.length (szQ xs.length)
  ·rw [if_pos (by omega),if_pos (by omega),List.getElem?_range (by omega),List.getElem?_eq_getElem (by omega)]
   simp only [Option.map_some,Nat.add_comm 1 j,List.getD_eq_getElem?_getD,List.getElem?_eq_getElem (show j+1 < xs.length by omega),Option.getD_some]
   rw [if_neg (by omega)]
  ·rw [if_neg (by omega)]
   by_cases h2:j+1 < szQ xs.length
   ·rw [if_pos (by omega),List.getElem?_range h2]
    simp only [Option.map_some,List.getD_eq_getElem?_getD,List.getElem?_eq_none (show xs.length≤j+1 by omega),Option.getD_none,ite_self]
   ·rw [if_neg (by omega),List.getElem?_eq_none (by simpa using h2)]
    rfl
abbrev apL:List Nat:=[4,5,18,19,20]
abbrev apT (N m k:Nat):List (Nat×LV):=[(5,.sl 2 0 N N),(18,.slo 1 0 m 0),(19,.int .i64 m),(20,.int .i64 k)]
theorem ap_a (n m:Nat) (ws cs:List LV) (K:Pk):(xsp prog (fun _=>none) 40 42 (seg (sp prog 16) 0 5) (tm0 [.slo 0 0 n 0,.slo 1 0 m 0]) (mkS [.cells ws (some 1),.cells cs (some 2)]) (vK apL K))=(
 ck (xnn (xmn (xmx (↑n) 32) 256)) <|
 ck (xnn (xmn (xmx (↑n) 32) 256)) <|
 ck (xle (xnat (xmn (xmx (↑n) 32) 256)) (xnat (xmn (xmx (↑n) 32) 256))) <|
 ck (xle (xnat (xmn (xmx (↑n) 32) 256)) 100000) <|
 ck (xle (xadd 0 (xmul (xlow n (xnat (xmn (xmx (↑n) 32) 256))) 1)) (xln ws)) <|
 ck (xle (xadd 0 (xln (xcut ws 0 (xmul (xlow n (xnat (xmn (xmx (↑n) 32) 256))) 1)))) (xln (xrep (xnat (xmn (xmx (↑n) 32) 256)) [.int .u64 0]))) <|
 ck (xle 1 (xnat (xmn (xmx (↑n) 32) 256))) <|
 ck (xle 1 (xln (xlay (xrep (xnat (xmn (xmx (↑n) 32) 256)) [.int .u64 0]) 0 (xcut ws 0 (xmul (xlow n (xnat (xmn (xmx (↑n) 32) 256))) 1))))) <|
 K .normal [.nils,.sl 2 0 (xnat (xmn (xmx (↑n) 32) 256)) (xnat (xmn (xmx (↑n) 32) 256)),.slo 1 0 m 0,.int .i64 ↑m,.int .i64 0] [sC ws 1,sC cs 2,sN (xlay (xlay (xrep (xnat (xmn (xmx (↑n) 32) 256)) [.int .u64 0]) 0 (xcut ws 0 (xmul (xlow n (xnat (xmn (xmx (↑n) 32) 256))) 1))) 0 [.int .u64 0])] []):=by kernel_rfl
theorem ap_b (N m k:Nat) (ws cs row:List LV) (K:Pk):(xcode prog (fun _=>none) 40 42 (loopOf (nthC (sp prog 16) 5)) (mkTm 42 (apT N m k)) (mkS [.cells ws (some 1),.cells cs (some 2),.cells row none]) (vK apL K))=(
 bif xcm .lss ↑k ↑m then(
 ck (xle (xadd (xnat ↑k) 1) m) <|
 ck (xle (xadd (xix 0 (xnat ↑k) 2) 2) (xln cs)) <|
 ck (isI .i64 (nthD cs (xix 0 (xnat ↑k) 2))) <|
 ck (isI .u64 (nthD cs (xadd (xix 0 (xnat ↑k) 2) 1))) <|
 bif xcm .geq (asI (nthD cs (xix 0 (xnat ↑k) 2))) 1 then(
 bif xcm .lss (asI (nthD cs (xix 0 (xnat ↑k) 2))) ↑N then(
 ck (xnn (asI (nthD cs (xix 0 (xnat ↑k) 2)))) <|
 ck (xle (xadd (xnat (asI (nthD cs (xix 0 (xnat ↑k) 2)))) 1) N) <|
 ck (xle (xadd (xix 0 (xnat (asI (nthD cs (xix 0 (xnat ↑k) 2)))) 1) 1) (xln row)) <|
 K .normal [.any,.sl 2 0 N N,.slo 1 0 m 0,.int .i64 ↑m,.int .i64 (xar .add .i64 (↑k) 1)] [sC ws 1,sC cs 2,sN (xlay row (xix 0 (xnat (asI (nthD cs (xix 0 (xnat ↑k) 2)))) 1) [.int .u64 (asI (nthD cs (xadd (xix 0 (xnat ↑k) 2) 1)))]),sN [.int .i64 (asI (nthD cs (xix 0 (xnat ↑k) 2))),.int .u64 (asI (nthD cs (xadd (xix 0 (xnat ↑k) 2) 1)))]] [])
 else(
 K .normal [.any,.sl 2 0 N N,.slo 1 0 m 0,.int .i64 ↑m,.int .i64 (xar .add .i64 (↑k) 1)] [sC ws 1,sC cs 2,sN row,sN [.int .i64 (asI (nthD cs (xix 0 (xnat ↑k) 2))),.int .u64 (asI (nthD cs (xadd (xix 0 (xnat ↑k) 2) 1)))]] []))
 else(
 K .normal [.any,.sl 2 0 N N,.slo 1 0 m 0,.int .i64 ↑m,.int .i64 (xar .add .i64 (↑k) 1)] [sC ws 1,sC cs 2,sN row,sN [.int .i64 (asI (nthD cs (xix 0 (xnat ↑k) 2))),.int .u64 (asI (nthD cs (xadd (xix 0 (xnat ↑k) 2) 1)))]] []))
 else(
 K (.exit 0) [.any,.sl 2 0 N N,.slo 1 0 m 0,.int .i64 ↑m,.int .i64 ↑k] [sC ws 1,sC cs 2,sN row] [])):=by kernel_rfl
theorem ap_z (N:Nat) (ws cs row:List LV) (K:Pk):(xsp prog (fun _=>none) 40 42 ((sp prog 16).drop 6) (mkTm 42 [(5,.sl 2 0 N N)]) (mkS [.cells ws (some 1),.cells cs (some 2),.cells row none]) (vK apL K))=(
 K .ret [.sl 2 0 N N,.sl 2 0 N N,.any,.any,.any] [sC ws 1,sC cs 2,sN row] []):=by kernel_rfl
abbrev apH (xs:List Int) (ys:List (Int×Int)) (k:Nat):List LB:=[.cells (encL (cI .u64) xs) (some 1),.cells (encL cell ys) (some 2),.cells (encL (cI .u64) (apN (hw0 xs) (ys.take k))) none]
theorem ap_ok (xs:List Int) (ys:List (Int×Int)) (hm:ys.length≤1000):SFun prog 16 [.slo 0 0 xs.length 0,.slo 1 0 ys.length 0] (mkS [.cells (encL (cI .u64) xs) (some 1),.cells (encL cell ys) (some 2)])
  fun l s=>l=.slo 2 0 (szQ xs.length) 0∧s=mkS [.cells (encL (cI .u64) xs) (some 1),.cells (encL cell ys) (some 2),.cells (encL (cI .u64) (apN (hw0 xs) ys)) (some 1)]:=by
 refine SFun.mono (SFun.pieces (Q:=fun l b=>l=.slo 2 0 (szQ xs.length) 0∧b=[.cells (encL (cI .u64) xs) (some 1),.cells (encL cell ys) (some 2),.cells (encL (cI .u64) (apN (hw0 xs) ys)) (some 1)]) 42 2 apL [4] (by kernel_rfl) rfl rfl rfl ?_) fun l s' ⟨b0,⟨h1,h2⟩,h3⟩=>⟨h1,by rw [h3,h2]⟩
 have nw:=noIds_Iu64 xs
 have nc:noIds (encL cell ys)=true:=noIds_encL (fun _=>rfl) _
 have nr:=fun k=>noIds_Iu64 (apN (hw0 xs) (ys.take k))
 have hc:=szQ_b xs.length
 refine SSp.to noCx_ok (n:=40) (g:=[]) 5 5 rfl (σ:=Unit) (fun _=>apT (szQ xs.length) ys.length 0) (fun _=>apH xs ys 0) (mkS_le (Nat.le_refl _)) (by kernel_rfl) ?_ fun _=>?_
 ·rw [ap_a,szQ_x]
  have el:xln (xrep (szQ xs.length) [.int .u64 0])=szQ xs.length:=by rw [rep_enc,xln,encIu64_len,List.length_replicate]
  have ec:xln (xcut (encL (cI .u64) xs) 0 (min xs.length (szQ xs.length)))=min xs.length (szQ xs.length):=by
   rw [xln,xcut,List.length_take,List.drop_zero,encIu64_len]; omega
  have ey:xln (xlay (xrep (szQ xs.length) [.int .u64 0]) 0 (xcut (encL (cI .u64) xs) 0 (min xs.length (szQ xs.length))))=szQ xs.length:=by
   rw [xln,xlay,List.length_append,List.length_append,List.length_drop]
   have a1:(xrep (szQ xs.length) [.int .u64 0]).length=szQ xs.length:=el
   have a2:(xcut (encL (cI .u64) xs) 0 (min xs.length (szQ xs.length))).length=min xs.length (szQ xs.length):=ec
   rw [a1,a2,List.take_zero,List.length_nil]; omega
  simp only [wd_nat,wd_mul,Nat.mul_one,wd_add,Nat.zero_add,show xlow xs.length (szQ xs.length)=min xs.length (szQ xs.length) from rfl,el,ec,ey,row_new,show xln (encL (cI .u64) xs)=xs.length from encIu64_len xs]
  (refine zR ?_)
  exact⟨rfl,(),[.id 0,.id 1,.id 2],by(exact zC)⟩
 refine SSp.code_to (g:=[]) 6 rfl (σ:=Unit) (fun _=>[(5,.sl 2 0 (szQ xs.length) (szQ xs.length))]) (fun _=>apH xs ys ys.length) (by kernel_rfl) ?_ fun _=>?_
 ·refine SCode.loop_vc noCx_ok (n:=40) 0 (by kernel_rfl) (σ:={k:Nat // k≤ys.length}) (fun k=>apT (szQ xs.length) ys.length k.1) (fun k=>apH xs ys k.1) (fun k=>ys.length - k.1) (fun _=>Nat.le_of_ble_eq_true rfl) (fun⟨k,hk⟩=>?_) ⟨0,Nat.zero_le _⟩
  dsimp only
  have hl:(apN (hw0 xs) (ys.take k)).length=szQ xs.length:=by rw [apN_len,hw0_len]
  have n1:=nr k
  have n2:=nr (k+1)
  rw [ap_b,wd_lss]
  refine ite_way (fun h0=>?_) (fun h0=>?_)
  ·have h0:k < ys.length:=h0
   (refine zN6 (cell_0 h0) (cell_1 h0) @cell_n (inc_i64 h0 (by omega)) @encIu64_len @hl ?_)
   simp only [show xnat ys[k].1=ys[k].1.toNat from rfl,wd_ix,wd_add,Nat.zero_add,Nat.mul_one,apN_take (hw0 xs) ys h0] at n2 ⊢
   by_cases h1:1≤ys[k].1∧ys[k].1 < (szQ xs.length:Int)
   ·have e:ap1 (apN (hw0 xs) (ys.take k)) ys[k]=(apN (hw0 xs) (ys.take k)).set ys[k].1.toNat ys[k].2:=by rw [ap1,hl,if_pos h1]
    rw [set_I _ _ _ (by rw [hl]; omega)]
    (refine zR ?_)
    exact⟨rfl,⟨k+1,h0⟩,by simp only; omega,[.id 0,.id 1,.id 2],by rw [e] at n2; simp only [apH,apN_take (hw0 xs) ys h0,e]; (exact zC)⟩
   ·have e:ap1 (apN (hw0 xs) (ys.take k)) ys[k]=apN (hw0 xs) (ys.take k):=by rw [ap1,hl,if_neg h1]
    by_cases h2:1≤ys[k].1
    ·(refine zR ?_)
     exact⟨rfl,⟨k+1,h0⟩,by simp only; omega,[.id 0,.id 1,.id 2],by simp only [apH,apN_take (hw0 xs) ys h0,e]; (exact zC)⟩
    ·(refine zR ?_)
     exact⟨rfl,⟨k+1,h0⟩,by simp only; omega,[.id 0,.id 1,.id 2],by simp only [apH,apN_take (hw0 xs) ys h0,e]; (exact zC)⟩
  ·obtain rfl:k=ys.length:=by have:¬ k < ys.length:=h0; omega
   exact⟨rfl,(),[.id 0,.id 1,.id 2],by(exact zC)⟩
 refine SSp.last noCx_ok (n:=40) (mkS_le (Nat.le_of_ble_eq_true rfl)) ?_
 rw [ap_z]
 have n1:=nr ys.length
 rw [List.take_of_length_le (Nat.le_refl _)] at n1
 have hl:(encL (cI .u64) (apN (hw0 xs) ys)).length=szQ xs.length * 1:=by rw [encIu64_len,apN_len,hw0_len,Nat.mul_one]
 simp only [List.take_of_length_le (Nat.le_refl ys.length)]
 exact⟨trivial,rfl,_,_,[.id 0,.id 1,.cap 2 0 (szQ xs.length)],⟨rfl,rfl⟩,by(exact zC)⟩
theorem apO_in (n m:Nat) (ws cs:List LV) (k1:okIu64 ws n=true) (k2:okC cs m=true) (k3:xle m 1000=true):SFun prog 16 [.slo 0 0 n 0,.slo 1 0 m 0] (mkS [.cells ws (some 1),.cells cs (some 2)])
  fun l s=>l=.slo 2 0 (szQ n) 0∧s=mkS [.cells ws (some 1),.cells cs (some 2),.cells (apC ws cs) (some 1)]:=by
 obtain⟨xs,rfl,rfl,_⟩:=okIu64_iff.1 k1
 obtain⟨ys,rfl,rfl,_⟩:=okC_iff.1 k2
 rw [apC,decIu64_enc,decC_enc]
 exact ap_ok xs ys (xle_iff.1 k3)
def apG:Gc:=fun args s=>match args,s.g with
 | [.slo a 0 n 0,.slo c 0 m 0],[]=>(match s.h.get a with
   | some (.cells ws (some 1))=>(match s.h.get c with
     | some (.cells cs (some 2))=>cond (nodupB [a,c]) (match s.lay [a,c] [.cells ws (some 1),.cells cs (some 2)] [.cells (apC ws cs) (some 1)] with
       | some s'=>some ([okIu64 ws n,okC cs m,xle m 1000],.slo s.n 0 (szQ n) 0,s')
       | none=>none) none
     | _=>none)
   | _=>none)
 | _,_=>none
theorem apG_ok:GOk prog 16 apG:=by
 intro args s bs l s' hg hb hfr
 unfold apG at hg
 split at hg
 ·rename_i a n c m hgl
  split at hg
  ·rename_i ws hb0
   split at hg
   ·rename_i cs hb1
    cases hbc:nodupB [a,c] with
    | false=>rw [hbc] at hg; cases hg
    | true =>
      rw [hbc] at hg
      simp only [cond_true] at hg
      split at hg
      ·rename_i s1 hs1
       simp only [Option.some.injEq,Prod.mk.injEq] at hg
       obtain⟨rfl,rfl,rfl⟩:=hg
       simp only [allT_cons] at hb
       obtain⟨k1,k2,k3,_⟩:=hb
       have no1:=Iu_noids k1
       have no2:=noids_ok k2
       refine SFun.lay (bs:=[.cells ws (some 1),.cells cs (some 2)]) (args0:=[.slo 0 0 n 0,.slo 1 0 m 0]) (bs':=[.cells ws (some 1),.cells cs (some 2),.cells (apC ws cs) (some 1)]) (v0:=.slo 2 0 (szQ n) 0) hfr hs1 (nodupB_nd hbc)
        ⟨⟨there hfr hb0,_,hb0,lb_same (by(exact zId)),fun κ hκ=>lb_same (by(exact zId))⟩,⟨there hfr hb1,_,hb1,lb_same (by(exact zId)),fun κ hκ=>lb_same (by(exact zId))⟩,trivial⟩ (by(exact zTl)) ?_
        fun κ h1 h2=>⟨⟨lb_same (by(exact zId)),lb_same (by(exact zId)),lb_same (noIds_ap ws cs),trivial⟩,lw_slo (h2 0 (by simp))⟩
       rw [hgl]; exact apO_in n m ws cs k1 k2 k3
      ·cases hg
   ·cases hg
  ·cases hg
 ·cases hg
theorem ap0_in (n:Nat) (ws:List LV) (k1:okIu64 ws n=true) (k2:xle n 1000000=true):SFun prog 16 [.slo 0 0 n 0,.nils] (mkS [.cells ws (some 1)])
  fun l s=>l=.slo 2 0 (szQ n) 0∧s=mkS [.cells ws (some 1),.cells [] (some 2),.cells (apC ws []) (some 1)] :=
 SFun.nilrow (args:=[.slo 0 0 n 0]) (bs:=[.cells ws (some 1)]) (es:=2) (apO_in n 0 ws [] k1 okn (t_le (by omega)))
def ap0G:Gc:=fun args s=>match args,s.g with
 | [.slo a 0 n 0,.nils],[]=>(match s.h.get a with
   | some (.cells ws (some 1))=>(match s.lay [a] [.cells ws (some 1)] [.cells [] (some 2),.cells (apC ws []) (some 1)] with
     | some s'=>some ([okIu64 ws n,xle n 1000000],.slo (Nat.succ s.n) 0 (szQ n) 0,s')
     | none=>none)
   | _=>none)
 | _,_=>none
theorem ap0G_ok:GOk prog 16 ap0G:=by
 intro args s bs l s' hg hb hfr
 unfold ap0G at hg
 split at hg
 ·rename_i a n hgl
  split at hg
  ·rename_i ws hb0
   split at hg
   ·rename_i s1 hs1
    simp only [Option.some.injEq,Prod.mk.injEq] at hg
    obtain⟨rfl,rfl,rfl⟩:=hg
    simp only [allT_cons] at hb
    obtain⟨k1,k2,_⟩:=hb
    have no1:=Iu_noids k1
    refine SFun.lay (bs:=[.cells ws (some 1)]) (args0:=[.slo 0 0 n 0,.nils]) (bs':=[.cells ws (some 1),.cells [] (some 2),.cells (apC ws []) (some 1)]) (v0:=.slo 2 0 (szQ n) 0) hfr hs1 (by simp)
     ⟨⟨there hfr hb0,_,hb0,lb_same (by(exact zId)),fun κ hκ=>lb_same (by(exact zId))⟩,trivial⟩ (by(exact zTl)) ?_
     fun κ h1 h2=>⟨⟨lb_same (by(exact zId)),lb_cells lws_nil (by simp),lb_same (noIds_ap ws []),trivial⟩,lw_slo (h2 1 (by simp))⟩
    rw [hgl]; exact ap0_in n ws k1 k2
   ·cases hg
  ·cases hg
 ·cases hg
theorem ra0_in (n:Nat) (ws:List LV) (k1:okIu64 ws n=true) (k2:xle n 1000000=true):SFun prog 25 [.slo 0 0 n 0,.nils] (mkS [.cells ws (some 1)])
  fun l s=>l=.slo 2 0 (szQ n) 0∧s=mkS [.cells ws (some 1),.cells [] (some 2),.cells (apC ws []) (some 1)] :=
 SFun.nilrow (args:=[.slo 0 0 n 0]) (bs:=[.cells ws (some 1)]) (es:=2) (raG_in n 0 ws [] k1 okn (t_le (by omega)) k2)
def ra0G:Gc:=fun args s=>match args,s.g with
 | [.slo a 0 n 0,.nils],[]=>(match s.h.get a with
   | some (.cells ws (some 1))=>(match s.lay [a] [.cells ws (some 1)] [.cells [] (some 2),.cells (apC ws []) (some 1)] with
     | some s'=>some ([okIu64 ws n,xle n 1000000],.slo (Nat.succ s.n) 0 (szQ n) 0,s')
     | none=>none)
   | _=>none)
 | _,_=>none
theorem ra0G_ok:GOk prog 25 ra0G:=by
 intro args s bs l s' hg hb hfr
 unfold ra0G at hg
 split at hg
 ·rename_i a n hgl
  split at hg
  ·rename_i ws hb0
   split at hg
   ·rename_i s1 hs1
    simp only [Option.some.injEq,Prod.mk.injEq] at hg
    obtain⟨rfl,rfl,rfl⟩:=hg
    simp only [allT_cons] at hb
    obtain⟨k1,k2,_⟩:=hb
    have no1:=Iu_noids k1
    refine SFun.lay (bs:=[.cells ws (some 1)]) (args0:=[.slo 0 0 n 0,.nils]) (bs':=[.cells ws (some 1),.cells [] (some 2),.cells (apC ws []) (some 1)]) (v0:=.slo 2 0 (szQ n) 0) hfr hs1 (by simp)
     ⟨⟨there hfr hb0,_,hb0,lb_same (by(exact zId)),fun κ hκ=>lb_same (by(exact zId))⟩,trivial⟩ (by(exact zTl)) ?_
     fun κ h1 h2=>⟨⟨lb_same (by(exact zId)),lb_cells lws_nil (by simp),lb_same (noIds_ap ws []),trivial⟩,lw_slo (h2 1 (by simp))⟩
    rw [hgl]; exact ra0_in n ws k1 k2
   ·cases hg
  ·cases hg
 ·cases hg
end
end Go.Lev
