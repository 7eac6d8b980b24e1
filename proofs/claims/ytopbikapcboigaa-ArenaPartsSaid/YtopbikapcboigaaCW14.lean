/- chapter 9: the reference's levels: Place, Put of rows; trees of Get, Room, Put, Free, Open, Drop -/
import Derived.Test.YtopbikapcboigaaCW12
import Derived.Test.YtopbikapcboigaaLc
import Derived.Test.YtopbikapcboigaaChecked
import Derived.KernelRfl
namespace Go.Lev
set_option linter.unusedSimpArgs false
set_option linter.unusedVariables false
open Go.RowKit
open Go.Proofs.Try (prog)
set_option maxRecDepth 100000
noncomputable section
def plcW (cs:List LV) (a:Int):Int:=fnd (decC cs) a
abbrev plL:List Nat:=[0,1,4,5]
abbrev plT (a:Int) (n k:Nat):List (Nat×LV):=[(0,.slo 0 0 n 0),(1,.int .i64 a),(5,.int .i64 k)]
theorem pl_a (a:Int) (n:Nat) (cs:List LV) (K:Pk):(xsp prog (fun _=>none) 40 20 (seg (sp prog 67) 0 2) (tm0 [.slo 0 0 n 0,.int .i64 a]) (mkS [.cells cs (some 2)]) (vK plL K))=(
 K .normal [.slo 0 0 n 0,.int .i64 a,.int .i64 0,.int .i64 0] [sC cs 2] []):=by kernel_rfl
theorem pl_b (a:Int) (n k:Nat) (cs:List LV) (K:Pk):(xcode prog (fun _=>none) 40 20 (loopOf (nthC (sp prog 67) 2)) (mkTm 20 (plT a n k)) (mkS [.cells cs (some 2)]) (vK plL K))=(
 bif xcm .lss ↑k ↑n then(
 ck (xle (xadd (xnat ↑k) 1) n) <|
 ck (xle (xadd (xix 0 (xnat ↑k) 2) 1) (xln cs)) <|
 ck (isI .i64 (nthD cs (xix 0 (xnat ↑k) 2))) <|
 bif xcm .eql (asI (nthD cs (xix 0 (xnat ↑k) 2))) a then(
 K .ret [.slo 0 0 n 0,.int .i64 a,.int .i64 ↑k,.int .i64 ↑k] [sC cs 2] [])
 else(
 K .normal [.slo 0 0 n 0,.int .i64 a,.any,.int .i64 (xar .add .i64 (↑k) 1)] [sC cs 2] []))
 else(
 K (.exit 0) [.slo 0 0 n 0,.int .i64 a,.any,.int .i64 ↑k] [sC cs 2] [])):=by kernel_rfl
theorem pl_z (cs:List LV) (K:Pk):(xsp prog (fun _=>none) 40 20 ((sp prog 67).drop 3) (mkTm 20 []) (mkS [.cells cs (some 2)]) (vK plL K))=(
 K .ret [.any,.any,.int .i64 (-1),.any] [sC cs 2] []):=by kernel_rfl
theorem place_ok (a:Int) (xs:CL) (hn:xs.length≤9223372036854775807):SFun prog 67 [.slo 0 0 xs.length 0,.int .i64 a] (mkS [.cells (encL cell xs) (some 2)]) fun l s=>l=.int .i64 (fnd xs a)∧s=mkS [.cells (encL cell xs) (some 2)]:=by
 refine SFun.mono (SFun.pieces (Q:=fun l b=>l=.int .i64 (fnd xs a)∧b=[.cells (encL cell xs) (some 2)]) 20 1 plL [4] (by kernel_rfl) rfl rfl rfl ?_) fun l s' ⟨b0,⟨h1,h2⟩,h3⟩=>⟨h1,by rw [h3,h2]⟩
 have nx:=noids_c xs
 refine SSp.to noCx_ok (n:=40) (g:=[]) 2 2 rfl (σ:=Unit) (fun _=>plT a xs.length 0) (fun _=>[.cells (encL cell xs) (some 2)]) (mkS_le (Nat.le_refl _)) (by kernel_rfl) ?_ fun _=>?_
 ·rw [pl_a]; exact⟨rfl,(),[.id 0],by(exact zC)⟩
 refine SSp.code_to (g:=[]) 3 rfl (σ:={_k:Unit // fnd xs a = -1}) (fun _=>[]) (fun _=>[.cells (encL cell xs) (some 2)]) (by kernel_rfl) ?_ fun⟨_,hs⟩=>?_
 ·refine SCode.loop_vc noCx_ok (n:=40) 0 (by kernel_rfl) (σ:={i:Nat // i≤xs.length∧∀ j (hj:j < xs.length),j < i→xs[j].1≠a}) (fun i=>plT a xs.length i.1) (fun _=>[.cells (encL cell xs) (some 2)]) (fun i=>xs.length - i.1) (fun _=>Nat.le_of_ble_eq_true rfl) (fun⟨i,hi,hall⟩=>?_) ⟨0,Nat.zero_le _,fun j hj h=>absurd h (by omega)⟩
  dsimp only
  rw [pl_b,wd_lss]
  refine ite_way (fun hk=>?_) (fun hk=>?_)
  ·have e3:xar .add .i64 (i:Int) 1=((i+1:Nat):Int):=inc_i64 hk hn
   (refine zN3 (cell_0 hk) @cell_n @e3 ?_)
   (refine zR ?_)
   refine ways (fun h1=>?_) (fun h1=>?_)
   ·have h1':xs[i].1=a:=by simpa [xcm_eql] using h1
    have:fnd xs a=(i:Int):=fnd_hit hk h1' hall
    exact⟨trivial,rfl,_,_,[.id 0],⟨rfl,rfl⟩,by rw [this]; (exact zC)⟩
   ·have h1':¬ xs[i].1=a:=by simpa [xcm_eql] using h1
    refine⟨rfl,⟨i+1,hk,fun j hj hji=>?_⟩,by simp only; omega,[.id 0],by(exact zC)⟩
    rcases Nat.lt_succ_iff_lt_or_eq.1 hji with h | rfl
    ·exact hall j hj h
    ·exact h1'
  ·refine⟨rfl,⟨(),fnd_no fun j hj=>hall j hj (by omega)⟩,[.id 0],by(exact zC)⟩
 refine SSp.last noCx_ok (n:=40) (mkS_le (Nat.le_of_ble_eq_true rfl)) ?_
 rw [pl_z]
 exact⟨trivial,rfl,_,_,[.id 0],⟨rfl,rfl⟩,by rw [hs]; (exact zC)⟩
theorem place_c (a:Int) (n:Nat) (cs:List LV) (k1:okC cs n=true):SFun prog 67 [.slo 0 0 n 0,.int .i64 a] (mkS [.cells cs (some 2)]) fun l s=>l=.int .i64 (plcW cs a)∧s=mkS [.cells cs (some 2)]:=by
 obtain⟨xs,rfl,rfl,h2⟩:=okC_iff.1 k1
 rw [plcW,decC_enc]
 exact place_ok a xs h2
def placeG:Gc:=fun args s=>match args,s.g with
 | [.slo b 0 n 0,.int .i64 a],[]=>(match s.h.get b with
   | some (.cells cs (some 2))=>(match s.lay [b] [.cells cs (some 2)] [] with
     | some s'=>some ([okC cs n],.int .i64 (plcW cs a),s')
     | none=>none)
   | _=>none)
 | _,_=>none
theorem placeG_ok:GOk prog 67 placeG:=by
 intro args s bs l s' hg hb hfr
 unfold placeG at hg
 split at hg
 ·rename_i b n a hgl
  split at hg
  ·rename_i cs hb0
   split at hg
   ·rename_i s1 hs1
    simp only [Option.some.injEq,Prod.mk.injEq] at hg
    obtain⟨rfl,rfl,rfl⟩:=hg
    simp only [allT_cons] at hb
    obtain⟨k1,_⟩:=hb
    have no:noIds cs=true:=noids_ok k1
    refine SFun.lay (bs:=[.cells cs (some 2)]) (args0:=[.slo 0 0 n 0,.int .i64 a]) (bs':=[.cells cs (some 2)]) (v0:=.int .i64 (plcW cs a)) hfr hs1 (by simp)
     ⟨⟨there hfr hb0,_,hb0,lb_same (by(exact zId)),fun κ hκ=>lb_same (by(exact zId))⟩,trivial⟩ (by(exact zTl)) ?_
     fun κ h1 h2=>⟨⟨lb_same (by(exact zId)),trivial⟩,lw_int⟩
    rw [hgl]; exact(place_c a n cs k1)
   ·cases hg
  ·cases hg
 ·cases hg
def opN (cs:List LV) (a v:Int):Nat:=(pl (decC cs) (a,v)).length
def opC (cs:List LV) (a v:Int):List LV:=encL cell (pl (decC cs) (a,v))
def cxq:Cx:=cxl [(67,placeG)]
abbrev ptL:List Nat:=[1,2,6,7]
abbrev ptT (n:Nat) (a v:Int):List (Nat×LV):=[(1,.int .i64 a),(2,.int .u64 v),(7,.slo 1 0 n 0)]
abbrev ptH (cs:List LV):List LB:=[.cells cs (some 2),.cells cs (some 2)]
theorem pt_a (n:Nat) (a v:Int) (cs:List LV) (K:Pk):(xsp prog cxq 40 28 (seg (sp prog 80) 0 2) (tm0 [.slo 0 0 n 0,.int .i64 a,.int .u64 v]) (mkS [.cells cs (some 2)]) (vK ptL K))=(
 ck (xle (xadd 0 (xmul n 2)) (xln cs)) <|
 ck (xle (xmul n 16) 140737488355328) <|
 ck (xle n 140737488355328) <|
 K .normal [.int .i64 a,.int .u64 v,.nils,.slo 1 0 n 0] [sC cs 2,sC (xcut cs 0 (xmul n 2)) 2] []):=by kernel_rfl
theorem pt_z (n:Nat) (a v:Int) (cs:List LV) (K:Pk):(xsp prog cxq 40 28 ((sp prog 80).drop 2) (mkTm 28 (ptT n a v)) (mkS (ptH cs)) (vK ptL K))=(
 ck (okC cs n) <|
 bif xcm .geq (plcW cs a) 0 then(
 ck (xnn (plcW cs a)) <|
 ck (xle (xadd (xnat (plcW cs a)) 1) n) <|
 ck (xle (xadd (xadd (xix 0 (xnat (plcW cs a)) 2) 1) 1) (xln cs)) <|
 K .ret [.int .i64 a,.int .u64 v,.slo 1 0 n 0,.slo 1 0 n 0] [sC cs 2,sC (xlay cs (xadd (xix 0 (xnat (plcW cs a)) 2) 1) [.int .u64 v]) 2] [])
 else(
 ck (xle (xadd n 1) 1000000) <|
 ck (xle (xadd 0 (xmul n 2)) (xln cs)) <|
 K .ret [.int .i64 a,.int .u64 v,.slo 3 0 (xadd n 1) 0,.slo 1 0 n 0] [sC cs 2,sD,sN [.int .i64 a,.int .u64 v],sC (xcat (xcut cs 0 (xmul n 2)) [.int .i64 a,.int .u64 v]) 2] [])):=by kernel_rfl
theorem cxq_ok:CtrOk prog (ctrOf cxq):=cxl_ok ⟨placeG_ok,trivial⟩
theorem oput_ok (xs:CL) (a v:Int) (hn:xs.length < 1000000):SFun prog 80 [.slo 0 0 xs.length 0,.int .i64 a,.int .u64 v] (mkS [.cells (encL cell xs) (some 2)]) fun l s=>l=.slo 1 0 (pl xs (a,v)).length 0∧s=mkS [.cells (encL cell xs) (some 2),.cells (encL cell (pl xs (a,v))) (some 2)]:=by
 refine SFun.mono (SFun.pieces (Q:=fun l b=>l=.slo 1 0 (pl xs (a,v)).length 0∧b=[.cells (encL cell xs) (some 2),.cells (encL cell (pl xs (a,v))) (some 2)]) 28 1 ptL [6] (by kernel_rfl) rfl rfl rfl ?_) fun l s' ⟨b0,⟨h1,h2⟩,h3⟩=>⟨h1,by rw [h3,h2]⟩
 have nx:=noids_c xs; have lx:=cell_n xs; have xn:=xnoid_c xs
 have xa:xcut (encL cell xs) 0 (xs.length * 2)=encL cell xs:=xcut_all (by omega)
 refine SSp.to cxq_ok (n:=40) (g:=[]) 2 2 rfl (σ:=Unit) (fun _=>ptT xs.length a v) (fun _=>ptH (encL cell xs)) (mkS_le (Nat.le_refl _)) (by kernel_rfl) ?_ fun _=>?_
 ·rw [pt_a]
  (refine zN2 @lx @xa ?_)
  (refine zR ?_)
  exact⟨rfl,(),[.id 0,.id 1],by(exact zC)⟩
 refine SSp.last cxq_ok (n:=40) (mkS_le (Nat.le_of_ble_eq_true rfl)) ?_
 rw [pt_z]
 have ok:okC (encL cell xs) xs.length=true:=okC_enc (by omega)
 have e1:plcW (encL cell xs) a=fnd xs a:=by rw [plcW,decC_enc]
 (refine zN3 @ok @e1 @lx ?_)
 rcases fnd_cases xs a with⟨i,hi,q1,q2,q3,q4⟩ | ⟨q2,q3,q4⟩
 ·have nz:=noids_c (xs.set i (xs[i].1,v))
  have ll:(xs.set i (xs[i].1,v)).length=xs.length:=by simp
  simp only [q2]
  (refine zN3 (cell_set hi) @ll @lx ?_)
  (refine zR ?_)
  exact⟨trivial,rfl,_,_,[.id 0,.id 1],⟨rfl,rfl⟩,by rw [q4,ll]; (exact zC)⟩
 ·have nz:=noids_c (xs++[(a,v)])
  have ll:(xs++[(a,v)]).length=xs.length+1:=by simp
  simp only [q2]
  (refine zN1 @cell_push ?_)
  (refine zR ?_)
  exact⟨trivial,rfl,_,_,[.id 0,.id 3],⟨rfl,rfl⟩,by rw [q4,ll]; (exact zC)⟩
theorem oput_c (n:Nat) (a v:Int) (cs:List LV) (k1:okC cs n=true) (k2:xle n 99999=true):SFun prog 80 [.slo 0 0 n 0,.int .i64 a,.int .u64 v] (mkS [.cells cs (some 2)]) fun l s=>l=.slo 1 0 (opN cs a v) 0∧s=mkS [.cells cs (some 2),.cells (opC cs a v) (some 2)]:=by
 obtain⟨xs,rfl,rfl,h2⟩:=okC_iff.1 k1
 rw [wd_le,decide_eq_true_eq] at k2
 simp only [opN,opC,decC_enc]
 exact oput_ok xs a v (by omega)
def oputG:Gc:=fun args s=>match args,s.g with
 | [.slo b 0 n 0,.int .i64 a,.int .u64 v],[]=>(match s.h.get b with
   | some (.cells cs (some 2))=>(match s.lay [b] [.cells cs (some 2)] [.cells (opC cs a v) (some 2)] with
     | some s'=>some ([okC cs n,xle n 99999],.slo s.n 0 (opN cs a v) 0,s')
     | none=>none)
   | _=>none)
 | _,_=>none
theorem oputG_ok:GOk prog 80 oputG:=by
 intro args s bs l s' hg hb hfr
 unfold oputG at hg
 split at hg
 ·rename_i b n a v hgl
  split at hg
  ·rename_i cs hb0
   split at hg
   ·rename_i s1 hs1
    simp only [Option.some.injEq,Prod.mk.injEq] at hg
    obtain⟨rfl,rfl,rfl⟩:=hg
    simp only [allT_cons] at hb
    obtain⟨k1,k2,_⟩:=hb
    have no:noIds cs=true:=noids_ok k1
    refine SFun.lay (bs:=[.cells cs (some 2)]) (args0:=[.slo 0 0 n 0,.int .i64 a,.int .u64 v]) (bs':=[.cells cs (some 2),.cells (opC cs a v) (some 2)]) (v0:=.slo 1 0 (opN cs a v) 0) hfr hs1 (by simp)
     ⟨⟨there hfr hb0,_,hb0,lb_same (by(exact zId)),fun κ hκ=>lb_same (by(exact zId))⟩,trivial⟩ (by(exact zTl)) ?_
     fun κ h1 h2=>⟨⟨lb_same (by(exact zId)),lb_same (noids_c _),trivial⟩,lw_slo (h2 0 (by simp))⟩
    rw [hgl]; exact(oput_c n a v cs k1 k2)
   ·cases hg
  ·cases hg
 ·cases hg
def cxo1:Cx:=cxl [(67,placeG),(80,oputG)]
theorem cxo1_ok:CtrOk prog (ctrOf cxo1):=cxl_ok ⟨placeG_ok,oputG_ok,trivial⟩
abbrev orH1 (most:Int) (n0 m0:Nat) (q0 f0:List LV):List LB:=[.cells [.int .i64 most,.slo 1 0 1 0] none,.cells [.slo 3 0 n0 0,.slo 4 0 m0 0] (some 2),.dead,.cells q0 (some 2),.cells f0 (some 1)]
abbrev og_1_b1 (most:Int) (n0:Nat) (m0:Nat) (q0:List LV) (f0:List LV):List (Option LB):=[sN [.int .i64 most,.slo 1 0 1 0],sC [.slo 3 0 n0 0,.slo 4 0 m0 0] 2,sD,sC q0 2,sC f0 1]
theorem og_1 (most a:Int) (n0 m0:Nat) (q0 f0:List LV) (K:Pk):(xsp prog cxo1 60 42 ((sp prog 94).drop 0) (tm0 [.ptr 0 0,.int .i64 a]) (mkS (orH1 most n0 m0 q0 f0)) (vK [4,5] K))=(
 ck (okC q0 n0) <|
 bif xcm .geq (plcW q0 a) 0 then(
 ck (xnn (plcW q0 a)) <|
 ck (xle (xadd (xnat (plcW q0 a)) 1) n0) <|
 ck (xle (xadd (xadd (xix 0 (xnat (plcW q0 a)) 2) 1) 1) (xln q0)) <|
 ck (isI .u64 (nthD q0 (xadd (xix 0 (xnat (plcW q0 a)) 2) 1))) <|
 K .ret [.int .u64 (asI (nthD q0 (xadd (xix 0 (xnat (plcW q0 a)) 2) 1))),.bool true] (og_1_b1 most n0 m0 q0 f0) [])
 else(
 K .ret [.int .u64 0,.bool false] (og_1_b1 most n0 m0 q0 f0) [])):=by kernel_rfl
abbrev op_1_b1 (most:Int) (n0:Nat) (m0:Nat) (q0:List LV) (f0:List LV):List (Option LB):=[sN [.int .i64 most,.slo 1 0 1 0],sC [.slo 3 0 n0 0,.slo 4 0 m0 0] 2,sD,sC q0 2,sC f0 1]
abbrev op_1_b2 (most:Int) (a:Int) (v:Int) (m0:Nat) (q0:List LV) (f0:List LV):List (Option LB):=[sN [.int .i64 most,.slo 1 0 1 0],sC [.slo 5 0 (opN q0 a v) 0,.slo 4 0 m0 0] 2,sD,sC q0 2,sC f0 1,sC (opC q0 a v) 2]
theorem op_1 (most a v:Int) (n0 m0:Nat) (q0 f0:List LV) (K:Pk):(xsp prog cxo1 60 54 ((sp prog 98).drop 0) (tm0 [.ptr 0 0,.int .i64 a,.int .u64 v]) (mkS (orH1 most n0 m0 q0 f0)) (vK [6] K))=(
 bif xcm .lss a 1 then(
 K .ret [.int .i64 2] (op_1_b1 most n0 m0 q0 f0) [])
 else(
 bif xcm .geq a 256 then(
 K .ret [.int .i64 2] (op_1_b1 most n0 m0 q0 f0) [])
 else(
 ck (okC q0 n0) <|
 bif xcm .lss (plcW q0 a) 0 then(
 bif xcm .leq (xar .sub .i64 most ↑n0) 0 then(
 K .ret [.int .i64 5] (op_1_b1 most n0 m0 q0 f0) [])
 else(
 ck (okC q0 n0) <|
 ck (xle n0 99999) <|
 K .ret [.int .i64 0] (op_1_b2 most a v m0 q0 f0) []))
 else(
 ck (okC q0 n0) <|
 ck (xle n0 99999) <|
 K .ret [.int .i64 0] (op_1_b2 most a v m0 q0 f0) [])))):=by kernel_rfl
abbrev orH2 (most:Int) (n0 m0 n1 m1:Nat) (q0 f0 q1 f1:List LV):List LB:=[.cells [.int .i64 most,.slo 1 0 2 0] none,.cells [.slo 5 0 n1 0,.slo 6 0 m1 0,.slo 3 0 n0 0,.slo 4 0 m0 0] (some 2),.dead,.cells q0 (some 2),.cells f0 (some 1),.cells q1 (some 2),.cells f1 (some 1)]
abbrev og_2_b1 (most:Int) (n0:Nat) (m0:Nat) (n1:Nat) (m1:Nat) (q0:List LV) (f0:List LV) (q1:List LV) (f1:List LV):List (Option LB):=[sN [.int .i64 most,.slo 1 0 2 0],sC [.slo 5 0 n1 0,.slo 6 0 m1 0,.slo 3 0 n0 0,.slo 4 0 m0 0] 2,sD,sC q0 2,sC f0 1,sC q1 2,sC f1 1]
theorem og_2 (most a:Int) (n0 m0 n1 m1:Nat) (q0 f0 q1 f1:List LV) (K:Pk):(xsp prog cxo1 60 42 ((sp prog 94).drop 0) (tm0 [.ptr 0 0,.int .i64 a]) (mkS (orH2 most n0 m0 n1 m1 q0 f0 q1 f1)) (vK [4,5] K))=(
 ck (okC q0 n0) <|
 bif xcm .geq (plcW q0 a) 0 then(
 ck (xnn (plcW q0 a)) <|
 ck (xle (xadd (xnat (plcW q0 a)) 1) n0) <|
 ck (xle (xadd (xadd (xix 0 (xnat (plcW q0 a)) 2) 1) 1) (xln q0)) <|
 ck (isI .u64 (nthD q0 (xadd (xix 0 (xnat (plcW q0 a)) 2) 1))) <|
 K .ret [.int .u64 (asI (nthD q0 (xadd (xix 0 (xnat (plcW q0 a)) 2) 1))),.bool true] (og_2_b1 most n0 m0 n1 m1 q0 f0 q1 f1) [])
 else(
 ck (okC q1 n1) <|
 bif xcm .geq (plcW q1 a) 0 then(
 ck (xnn (plcW q1 a)) <|
 ck (xle (xadd (xnat (plcW q1 a)) 1) n1) <|
 ck (xle (xadd (xadd (xix 0 (xnat (plcW q1 a)) 2) 1) 1) (xln q1)) <|
 ck (isI .u64 (nthD q1 (xadd (xix 0 (xnat (plcW q1 a)) 2) 1))) <|
 K .ret [.int .u64 (asI (nthD q1 (xadd (xix 0 (xnat (plcW q1 a)) 2) 1))),.bool true] (og_2_b1 most n0 m0 n1 m1 q0 f0 q1 f1) [])
 else(
 K .ret [.int .u64 0,.bool false] (og_2_b1 most n0 m0 n1 m1 q0 f0 q1 f1) []))):=by kernel_rfl
abbrev op_2_b1 (most:Int) (n0:Nat) (m0:Nat) (n1:Nat) (m1:Nat) (q0:List LV) (f0:List LV) (q1:List LV) (f1:List LV):List (Option LB):=[sN [.int .i64 most,.slo 1 0 2 0],sC [.slo 5 0 n1 0,.slo 6 0 m1 0,.slo 3 0 n0 0,.slo 4 0 m0 0] 2,sD,sC q0 2,sC f0 1,sC q1 2,sC f1 1]
abbrev op_2_b2 (most:Int) (a:Int) (v:Int) (m0:Nat) (n1:Nat) (m1:Nat) (q0:List LV) (f0:List LV) (q1:List LV) (f1:List LV):List (Option LB):=[sN [.int .i64 most,.slo 1 0 2 0],sC [.slo 5 0 n1 0,.slo 6 0 m1 0,.slo 7 0 (opN q0 a v) 0,.slo 4 0 m0 0] 2,sD,sC q0 2,sC f0 1,sC q1 2,sC f1 1,sC (opC q0 a v) 2]
theorem op_2 (most a v:Int) (n0 m0 n1 m1:Nat) (q0 f0 q1 f1:List LV) (K:Pk):(xsp prog cxo1 60 54 ((sp prog 98).drop 0) (tm0 [.ptr 0 0,.int .i64 a,.int .u64 v]) (mkS (orH2 most n0 m0 n1 m1 q0 f0 q1 f1)) (vK [6] K))=(
 bif xcm .lss a 1 then(
 K .ret [.int .i64 2] (op_2_b1 most n0 m0 n1 m1 q0 f0 q1 f1) [])
 else(
 bif xcm .geq a 256 then(
 K .ret [.int .i64 2] (op_2_b1 most n0 m0 n1 m1 q0 f0 q1 f1) [])
 else(
 ck (okC q0 n0) <|
 bif xcm .lss (plcW q0 a) 0 then(
 bif xcm .leq (xar .sub .i64 (xar .sub .i64 most ↑n1) ↑n0) 0 then(
 K .ret [.int .i64 5] (op_2_b1 most n0 m0 n1 m1 q0 f0 q1 f1) [])
 else(
 ck (okC q0 n0) <|
 ck (xle n0 99999) <|
 K .ret [.int .i64 0] (op_2_b2 most a v m0 n1 m1 q0 f0 q1 f1) []))
 else(
 ck (okC q0 n0) <|
 ck (xle n0 99999) <|
 K .ret [.int .i64 0] (op_2_b2 most a v m0 n1 m1 q0 f0 q1 f1) [])))):=by kernel_rfl
abbrev orH3 (most:Int) (n0 m0 n1 m1 n2 m2:Nat) (q0 f0 q1 f1 q2 f2:List LV):List LB:=[.cells [.int .i64 most,.slo 1 0 3 0] none,.cells [.slo 7 0 n2 0,.slo 8 0 m2 0,.slo 5 0 n1 0,.slo 6 0 m1 0,.slo 3 0 n0 0,.slo 4 0 m0 0] (some 2),.dead,.cells q0 (some 2),.cells f0 (some 1),.cells q1 (some 2),.cells f1 (some 1),.cells q2 (some 2),.cells f2 (some 1)]
abbrev og_3_b1 (most:Int) (n0:Nat) (m0:Nat) (n1:Nat) (m1:Nat) (n2:Nat) (m2:Nat) (q0:List LV) (f0:List LV) (q1:List LV) (f1:List LV) (q2:List LV) (f2:List LV):List (Option LB):=[sN [.int .i64 most,.slo 1 0 3 0],sC [.slo 7 0 n2 0,.slo 8 0 m2 0,.slo 5 0 n1 0,.slo 6 0 m1 0,.slo 3 0 n0 0,.slo 4 0 m0 0] 2,sD,sC q0 2,sC f0 1,sC q1 2,sC f1 1,sC q2 2,sC f2 1]
theorem og_3 (most a:Int) (n0 m0 n1 m1 n2 m2:Nat) (q0 f0 q1 f1 q2 f2:List LV) (K:Pk):(xsp prog cxo1 60 42 ((sp prog 94).drop 0) (tm0 [.ptr 0 0,.int .i64 a]) (mkS (orH3 most n0 m0 n1 m1 n2 m2 q0 f0 q1 f1 q2 f2)) (vK [4,5] K))=(
 ck (okC q0 n0) <|
 bif xcm .geq (plcW q0 a) 0 then(
 ck (xnn (plcW q0 a)) <|
 ck (xle (xadd (xnat (plcW q0 a)) 1) n0) <|
 ck (xle (xadd (xadd (xix 0 (xnat (plcW q0 a)) 2) 1) 1) (xln q0)) <|
 ck (isI .u64 (nthD q0 (xadd (xix 0 (xnat (plcW q0 a)) 2) 1))) <|
 K .ret [.int .u64 (asI (nthD q0 (xadd (xix 0 (xnat (plcW q0 a)) 2) 1))),.bool true] (og_3_b1 most n0 m0 n1 m1 n2 m2 q0 f0 q1 f1 q2 f2) [])
 else(
 ck (okC q1 n1) <|
 bif xcm .geq (plcW q1 a) 0 then(
 ck (xnn (plcW q1 a)) <|
 ck (xle (xadd (xnat (plcW q1 a)) 1) n1) <|
 ck (xle (xadd (xadd (xix 0 (xnat (plcW q1 a)) 2) 1) 1) (xln q1)) <|
 ck (isI .u64 (nthD q1 (xadd (xix 0 (xnat (plcW q1 a)) 2) 1))) <|
 K .ret [.int .u64 (asI (nthD q1 (xadd (xix 0 (xnat (plcW q1 a)) 2) 1))),.bool true] (og_3_b1 most n0 m0 n1 m1 n2 m2 q0 f0 q1 f1 q2 f2) [])
 else(
 ck (okC q2 n2) <|
 bif xcm .geq (plcW q2 a) 0 then(
 ck (xnn (plcW q2 a)) <|
 ck (xle (xadd (xnat (plcW q2 a)) 1) n2) <|
 ck (xle (xadd (xadd (xix 0 (xnat (plcW q2 a)) 2) 1) 1) (xln q2)) <|
 ck (isI .u64 (nthD q2 (xadd (xix 0 (xnat (plcW q2 a)) 2) 1))) <|
 K .ret [.int .u64 (asI (nthD q2 (xadd (xix 0 (xnat (plcW q2 a)) 2) 1))),.bool true] (og_3_b1 most n0 m0 n1 m1 n2 m2 q0 f0 q1 f1 q2 f2) [])
 else(
 K .ret [.int .u64 0,.bool false] (og_3_b1 most n0 m0 n1 m1 n2 m2 q0 f0 q1 f1 q2 f2) [])))):=by kernel_rfl
abbrev op_3_b1 (most:Int) (n0:Nat) (m0:Nat) (n1:Nat) (m1:Nat) (n2:Nat) (m2:Nat) (q0:List LV) (f0:List LV) (q1:List LV) (f1:List LV) (q2:List LV) (f2:List LV):List (Option LB):=[sN [.int .i64 most,.slo 1 0 3 0],sC [.slo 7 0 n2 0,.slo 8 0 m2 0,.slo 5 0 n1 0,.slo 6 0 m1 0,.slo 3 0 n0 0,.slo 4 0 m0 0] 2,sD,sC q0 2,sC f0 1,sC q1 2,sC f1 1,sC q2 2,sC f2 1]
abbrev op_3_b2 (most:Int) (a:Int) (v:Int) (m0:Nat) (n1:Nat) (m1:Nat) (n2:Nat) (m2:Nat) (q0:List LV) (f0:List LV) (q1:List LV) (f1:List LV) (q2:List LV) (f2:List LV):List (Option LB):=[sN [.int .i64 most,.slo 1 0 3 0],sC [.slo 7 0 n2 0,.slo 8 0 m2 0,.slo 5 0 n1 0,.slo 6 0 m1 0,.slo 9 0 (opN q0 a v) 0,.slo 4 0 m0 0] 2,sD,sC q0 2,sC f0 1,sC q1 2,sC f1 1,sC q2 2,sC f2 1,sC (opC q0 a v) 2]
theorem op_3 (most a v:Int) (n0 m0 n1 m1 n2 m2:Nat) (q0 f0 q1 f1 q2 f2:List LV) (K:Pk):(xsp prog cxo1 60 54 ((sp prog 98).drop 0) (tm0 [.ptr 0 0,.int .i64 a,.int .u64 v]) (mkS (orH3 most n0 m0 n1 m1 n2 m2 q0 f0 q1 f1 q2 f2)) (vK [6] K))=(
 bif xcm .lss a 1 then(
 K .ret [.int .i64 2] (op_3_b1 most n0 m0 n1 m1 n2 m2 q0 f0 q1 f1 q2 f2) [])
 else(
 bif xcm .geq a 256 then(
 K .ret [.int .i64 2] (op_3_b1 most n0 m0 n1 m1 n2 m2 q0 f0 q1 f1 q2 f2) [])
 else(
 ck (okC q0 n0) <|
 bif xcm .lss (plcW q0 a) 0 then(
 bif xcm .leq (xar .sub .i64 (xar .sub .i64 (xar .sub .i64 most ↑n2) ↑n1) ↑n0) 0 then(
 K .ret [.int .i64 5] (op_3_b1 most n0 m0 n1 m1 n2 m2 q0 f0 q1 f1 q2 f2) [])
 else(
 ck (okC q0 n0) <|
 ck (xle n0 99999) <|
 K .ret [.int .i64 0] (op_3_b2 most a v m0 n1 m1 n2 m2 q0 f0 q1 f1 q2 f2) []))
 else(
 ck (okC q0 n0) <|
 ck (xle n0 99999) <|
 K .ret [.int .i64 0] (op_3_b2 most a v m0 n1 m1 n2 m2 q0 f0 q1 f1 q2 f2) [])))):=by kernel_rfl
abbrev orH4 (most:Int) (n0 m0 n1 m1 n2 m2 n3 m3:Nat) (q0 f0 q1 f1 q2 f2 q3 f3:List LV):List LB:=[.cells [.int .i64 most,.slo 1 0 4 0] none,.cells [.slo 9 0 n3 0,.slo 10 0 m3 0,.slo 7 0 n2 0,.slo 8 0 m2 0,.slo 5 0 n1 0,.slo 6 0 m1 0,.slo 3 0 n0 0,.slo 4 0 m0 0] (some 2),.dead,.cells q0 (some 2),.cells f0 (some 1),.cells q1 (some 2),.cells f1 (some 1),.cells q2 (some 2),.cells f2 (some 1),.cells q3 (some 2),.cells f3 (some 1)]
abbrev og_4_b1 (most:Int) (n0:Nat) (m0:Nat) (n1:Nat) (m1:Nat) (n2:Nat) (m2:Nat) (n3:Nat) (m3:Nat) (q0:List LV) (f0:List LV) (q1:List LV) (f1:List LV) (q2:List LV) (f2:List LV) (q3:List LV) (f3:List LV):List (Option LB):=[sN [.int .i64 most,.slo 1 0 4 0],sC [.slo 9 0 n3 0,.slo 10 0 m3 0,.slo 7 0 n2 0,.slo 8 0 m2 0,.slo 5 0 n1 0,.slo 6 0 m1 0,.slo 3 0 n0 0,.slo 4 0 m0 0] 2,sD,sC q0 2,sC f0 1,sC q1 2,sC f1 1,sC q2 2,sC f2 1,sC q3 2,sC f3 1]
theorem og_4 (most a:Int) (n0 m0 n1 m1 n2 m2 n3 m3:Nat) (q0 f0 q1 f1 q2 f2 q3 f3:List LV) (K:Pk):(xsp prog cxo1 60 42 ((sp prog 94).drop 0) (tm0 [.ptr 0 0,.int .i64 a]) (mkS (orH4 most n0 m0 n1 m1 n2 m2 n3 m3 q0 f0 q1 f1 q2 f2 q3 f3)) (vK [4,5] K))=(
 ck (okC q0 n0) <|
 bif xcm .geq (plcW q0 a) 0 then(
 ck (xnn (plcW q0 a)) <|
 ck (xle (xadd (xnat (plcW q0 a)) 1) n0) <|
 ck (xle (xadd (xadd (xix 0 (xnat (plcW q0 a)) 2) 1) 1) (xln q0)) <|
 ck (isI .u64 (nthD q0 (xadd (xix 0 (xnat (plcW q0 a)) 2) 1))) <|
 K .ret [.int .u64 (asI (nthD q0 (xadd (xix 0 (xnat (plcW q0 a)) 2) 1))),.bool true] (og_4_b1 most n0 m0 n1 m1 n2 m2 n3 m3 q0 f0 q1 f1 q2 f2 q3 f3) [])
 else(
 ck (okC q1 n1) <|
 bif xcm .geq (plcW q1 a) 0 then(
 ck (xnn (plcW q1 a)) <|
 ck (xle (xadd (xnat (plcW q1 a)) 1) n1) <|
 ck (xle (xadd (xadd (xix 0 (xnat (plcW q1 a)) 2) 1) 1) (xln q1)) <|
 ck (isI .u64 (nthD q1 (xadd (xix 0 (xnat (plcW q1 a)) 2) 1))) <|
 K .ret [.int .u64 (asI (nthD q1 (xadd (xix 0 (xnat (plcW q1 a)) 2) 1))),.bool true] (og_4_b1 most n0 m0 n1 m1 n2 m2 n3 m3 q0 f0 q1 f1 q2 f2 q3 f3) [])
 else(
 ck (okC q2 n2) <|
 bif xcm .geq (plcW q2 a) 0 then(
 ck (xnn (plcW q2 a)) <|
 ck (xle (xadd (xnat (plcW q2 a)) 1) n2) <|
 ck (xle (xadd (xadd (xix 0 (xnat (plcW q2 a)) 2) 1) 1) (xln q2)) <|
 ck (isI .u64 (nthD q2 (xadd (xix 0 (xnat (plcW q2 a)) 2) 1))) <|
 K .ret [.int .u64 (asI (nthD q2 (xadd (xix 0 (xnat (plcW q2 a)) 2) 1))),.bool true] (og_4_b1 most n0 m0 n1 m1 n2 m2 n3 m3 q0 f0 q1 f1 q2 f2 q3 f3) [])
 else(
 ck (okC q3 n3) <|
 bif xcm .geq (plcW q3 a) 0 then(
 ck (xnn (plcW q3 a)) <|
 ck (xle (xadd (xnat (plcW q3 a)) 1) n3) <|
 ck (xle (xadd (xadd (xix 0 (xnat (plcW q3 a)) 2) 1) 1) (xln q3)) <|
 ck (isI .u64 (nthD q3 (xadd (xix 0 (xnat (plcW q3 a)) 2) 1))) <|
 K .ret [.int .u64 (asI (nthD q3 (xadd (xix 0 (xnat (plcW q3 a)) 2) 1))),.bool true] (og_4_b1 most n0 m0 n1 m1 n2 m2 n3 m3 q0 f0 q1 f1 q2 f2 q3 f3) [])
 else(
 K .ret [.int .u64 0,.bool false] (og_4_b1 most n0 m0 n1 m1 n2 m2 n3 m3 q0 f0 q1 f1 q2 f2 q3 f3) []))))):=by kernel_rfl
abbrev op_4_b1 (most:Int) (n0:Nat) (m0:Nat) (n1:Nat) (m1:Nat) (n2:Nat) (m2:Nat) (n3:Nat) (m3:Nat) (q0:List LV) (f0:List LV) (q1:List LV) (f1:List LV) (q2:List LV) (f2:List LV) (q3:List LV) (f3:List LV):List (Option LB):=[sN [.int .i64 most,.slo 1 0 4 0],sC [.slo 9 0 n3 0,.slo 10 0 m3 0,.slo 7 0 n2 0,.slo 8 0 m2 0,.slo 5 0 n1 0,.slo 6 0 m1 0,.slo 3 0 n0 0,.slo 4 0 m0 0] 2,sD,sC q0 2,sC f0 1,sC q1 2,sC f1 1,sC q2 2,sC f2 1,sC q3 2,sC f3 1]
abbrev op_4_b2 (most:Int) (a:Int) (v:Int) (m0:Nat) (n1:Nat) (m1:Nat) (n2:Nat) (m2:Nat) (n3:Nat) (m3:Nat) (q0:List LV) (f0:List LV) (q1:List LV) (f1:List LV) (q2:List LV) (f2:List LV) (q3:List LV) (f3:List LV):List (Option LB):=[sN [.int .i64 most,.slo 1 0 4 0],sC [.slo 9 0 n3 0,.slo 10 0 m3 0,.slo 7 0 n2 0,.slo 8 0 m2 0,.slo 5 0 n1 0,.slo 6 0 m1 0,.slo 11 0 (opN q0 a v) 0,.slo 4 0 m0 0] 2,sD,sC q0 2,sC f0 1,sC q1 2,sC f1 1,sC q2 2,sC f2 1,sC q3 2,sC f3 1,sC (opC q0 a v) 2]
theorem op_4 (most a v:Int) (n0 m0 n1 m1 n2 m2 n3 m3:Nat) (q0 f0 q1 f1 q2 f2 q3 f3:List LV) (K:Pk):(xsp prog cxo1 60 54 ((sp prog 98).drop 0) (tm0 [.ptr 0 0,.int .i64 a,.int .u64 v]) (mkS (orH4 most n0 m0 n1 m1 n2 m2 n3 m3 q0 f0 q1 f1 q2 f2 q3 f3)) (vK [6] K))=(
 bif xcm .lss a 1 then(
 K .ret [.int .i64 2] (op_4_b1 most n0 m0 n1 m1 n2 m2 n3 m3 q0 f0 q1 f1 q2 f2 q3 f3) [])
 else(
 bif xcm .geq a 256 then(
 K .ret [.int .i64 2] (op_4_b1 most n0 m0 n1 m1 n2 m2 n3 m3 q0 f0 q1 f1 q2 f2 q3 f3) [])
 else(
 ck (okC q0 n0) <|
 bif xcm .lss (plcW q0 a) 0 then(
 bif xcm .leq (xar .sub .i64 (xar .sub .i64 (xar .sub .i64 (xar .sub .i64 most ↑n3) ↑n2) ↑n1) ↑n0) 0 then(
 K .ret [.int .i64 5] (op_4_b1 most n0 m0 n1 m1 n2 m2 n3 m3 q0 f0 q1 f1 q2 f2 q3 f3) [])
 else(
 ck (okC q0 n0) <|
 ck (xle n0 99999) <|
 K .ret [.int .i64 0] (op_4_b2 most a v m0 n1 m1 n2 m2 n3 m3 q0 f0 q1 f1 q2 f2 q3 f3) []))
 else(
 ck (okC q0 n0) <|
 ck (xle n0 99999) <|
 K .ret [.int .i64 0] (op_4_b2 most a v m0 n1 m1 n2 m2 n3 m3 q0 f0 q1 f1 q2 f2 q3 f3) [])))):=by kernel_rfl
abbrev orH5 (most:Int) (n0 m0 n1 m1 n2 m2 n3 m3 n4 m4:Nat) (q0 f0 q1 f1 q2 f2 q3 f3 q4 f4:List LV):List LB:=[.cells [.int .i64 most,.slo 1 0 5 0] none,.cells [.slo 11 0 n4 0,.slo 12 0 m4 0,.slo 9 0 n3 0,.slo 10 0 m3 0,.slo 7 0 n2 0,.slo 8 0 m2 0,.slo 5 0 n1 0,.slo 6 0 m1 0,.slo 3 0 n0 0,.slo 4 0 m0 0] (some 2),.dead,.cells q0 (some 2),.cells f0 (some 1),.cells q1 (some 2),.cells f1 (some 1),.cells q2 (some 2),.cells f2 (some 1),.cells q3 (some 2),.cells f3 (some 1),.cells q4 (some 2),.cells f4 (some 1)]
abbrev og_5_b1 (most:Int) (n0:Nat) (m0:Nat) (n1:Nat) (m1:Nat) (n2:Nat) (m2:Nat) (n3:Nat) (m3:Nat) (n4:Nat) (m4:Nat) (q0:List LV) (f0:List LV) (q1:List LV) (f1:List LV) (q2:List LV) (f2:List LV) (q3:List LV) (f3:List LV) (q4:List LV) (f4:List LV):List (Option LB):=[sN [.int .i64 most,.slo 1 0 5 0],sC [.slo 11 0 n4 0,.slo 12 0 m4 0,.slo 9 0 n3 0,.slo 10 0 m3 0,.slo 7 0 n2 0,.slo 8 0 m2 0,.slo 5 0 n1 0,.slo 6 0 m1 0,.slo 3 0 n0 0,.slo 4 0 m0 0] 2,sD,sC q0 2,sC f0 1,sC q1 2,sC f1 1,sC q2 2,sC f2 1,sC q3 2,sC f3 1,sC q4 2,sC f4 1]
theorem og_5 (most a:Int) (n0 m0 n1 m1 n2 m2 n3 m3 n4 m4:Nat) (q0 f0 q1 f1 q2 f2 q3 f3 q4 f4:List LV) (K:Pk):(xsp prog cxo1 60 42 ((sp prog 94).drop 0) (tm0 [.ptr 0 0,.int .i64 a]) (mkS (orH5 most n0 m0 n1 m1 n2 m2 n3 m3 n4 m4 q0 f0 q1 f1 q2 f2 q3 f3 q4 f4)) (vK [4,5] K))=(
 ck (okC q0 n0) <|
 bif xcm .geq (plcW q0 a) 0 then(
 ck (xnn (plcW q0 a)) <|
 ck (xle (xadd (xnat (plcW q0 a)) 1) n0) <|
 ck (xle (xadd (xadd (xix 0 (xnat (plcW q0 a)) 2) 1) 1) (xln q0)) <|
 ck (isI .u64 (nthD q0 (xadd (xix 0 (xnat (plcW q0 a)) 2) 1))) <|
 K .ret [.int .u64 (asI (nthD q0 (xadd (xix 0 (xnat (plcW q0 a)) 2) 1))),.bool true] (og_5_b1 most n0 m0 n1 m1 n2 m2 n3 m3 n4 m4 q0 f0 q1 f1 q2 f2 q3 f3 q4 f4) [])
 else(
 ck (okC q1 n1) <|
 bif xcm .geq (plcW q1 a) 0 then(
 ck (xnn (plcW q1 a)) <|
 ck (xle (xadd (xnat (plcW q1 a)) 1) n1) <|
 ck (xle (xadd (xadd (xix 0 (xnat (plcW q1 a)) 2) 1) 1) (xln q1)) <|
 ck (isI .u64 (nthD q1 (xadd (xix 0 (xnat (plcW q1 a)) 2) 1))) <|
 K .ret [.int .u64 (asI (nthD q1 (xadd (xix 0 (xnat (plcW q1 a)) 2) 1))),.bool true] (og_5_b1 most n0 m0 n1 m1 n2 m2 n3 m3 n4 m4 q0 f0 q1 f1 q2 f2 q3 f3 q4 f4) [])
 else(
 ck (okC q2 n2) <|
 bif xcm .geq (plcW q2 a) 0 then(
 ck (xnn (plcW q2 a)) <|
 ck (xle (xadd (xnat (plcW q2 a)) 1) n2) <|
 ck (xle (xadd (xadd (xix 0 (xnat (plcW q2 a)) 2) 1) 1) (xln q2)) <|
 ck (isI .u64 (nthD q2 (xadd (xix 0 (xnat (plcW q2 a)) 2) 1))) <|
 K .ret [.int .u64 (asI (nthD q2 (xadd (xix 0 (xnat (plcW q2 a)) 2) 1))),.bool true] (og_5_b1 most n0 m0 n1 m1 n2 m2 n3 m3 n4 m4 q0 f0 q1 f1 q2 f2 q3 f3 q4 f4) [])
 else(
 ck (okC q3 n3) <|
 bif xcm .geq (plcW q3 a) 0 then(
 ck (xnn (plcW q3 a)) <|
 ck (xle (xadd (xnat (plcW q3 a)) 1) n3) <|
 ck (xle (xadd (xadd (xix 0 (xnat (plcW q3 a)) 2) 1) 1) (xln q3)) <|
 ck (isI .u64 (nthD q3 (xadd (xix 0 (xnat (plcW q3 a)) 2) 1))) <|
 K .ret [.int .u64 (asI (nthD q3 (xadd (xix 0 (xnat (plcW q3 a)) 2) 1))),.bool true] (og_5_b1 most n0 m0 n1 m1 n2 m2 n3 m3 n4 m4 q0 f0 q1 f1 q2 f2 q3 f3 q4 f4) [])
 else(
 ck (okC q4 n4) <|
 bif xcm .geq (plcW q4 a) 0 then(
 ck (xnn (plcW q4 a)) <|
 ck (xle (xadd (xnat (plcW q4 a)) 1) n4) <|
 ck (xle (xadd (xadd (xix 0 (xnat (plcW q4 a)) 2) 1) 1) (xln q4)) <|
 ck (isI .u64 (nthD q4 (xadd (xix 0 (xnat (plcW q4 a)) 2) 1))) <|
 K .ret [.int .u64 (asI (nthD q4 (xadd (xix 0 (xnat (plcW q4 a)) 2) 1))),.bool true] (og_5_b1 most n0 m0 n1 m1 n2 m2 n3 m3 n4 m4 q0 f0 q1 f1 q2 f2 q3 f3 q4 f4) [])
 else(
 K .ret [.int .u64 0,.bool false] (og_5_b1 most n0 m0 n1 m1 n2 m2 n3 m3 n4 m4 q0 f0 q1 f1 q2 f2 q3 f3 q4 f4) [])))))):=by kernel_rfl
abbrev op_5_b1 (most:Int) (n0:Nat) (m0:Nat) (n1:Nat) (m1:Nat) (n2:Nat) (m2:Nat) (n3:Nat) (m3:Nat) (n4:Nat) (m4:Nat) (q0:List LV) (f0:List LV) (q1:List LV) (f1:List LV) (q2:List LV) (f2:List LV) (q3:List LV) (f3:List LV) (q4:List LV) (f4:List LV):List (Option LB):=[sN [.int .i64 most,.slo 1 0 5 0],sC [.slo 11 0 n4 0,.slo 12 0 m4 0,.slo 9 0 n3 0,.slo 10 0 m3 0,.slo 7 0 n2 0,.slo 8 0 m2 0,.slo 5 0 n1 0,.slo 6 0 m1 0,.slo 3 0 n0 0,.slo 4 0 m0 0] 2,sD,sC q0 2,sC f0 1,sC q1 2,sC f1 1,sC q2 2,sC f2 1,sC q3 2,sC f3 1,sC q4 2,sC f4 1]
abbrev op_5_b2 (most:Int) (a:Int) (v:Int) (m0:Nat) (n1:Nat) (m1:Nat) (n2:Nat) (m2:Nat) (n3:Nat) (m3:Nat) (n4:Nat) (m4:Nat) (q0:List LV) (f0:List LV) (q1:List LV) (f1:List LV) (q2:List LV) (f2:List LV) (q3:List LV) (f3:List LV) (q4:List LV) (f4:List LV):List (Option LB):=[sN [.int .i64 most,.slo 1 0 5 0],sC [.slo 11 0 n4 0,.slo 12 0 m4 0,.slo 9 0 n3 0,.slo 10 0 m3 0,.slo 7 0 n2 0,.slo 8 0 m2 0,.slo 5 0 n1 0,.slo 6 0 m1 0,.slo 13 0 (opN q0 a v) 0,.slo 4 0 m0 0] 2,sD,sC q0 2,sC f0 1,sC q1 2,sC f1 1,sC q2 2,sC f2 1,sC q3 2,sC f3 1,sC q4 2,sC f4 1,sC (opC q0 a v) 2]
theorem op_5 (most a v:Int) (n0 m0 n1 m1 n2 m2 n3 m3 n4 m4:Nat) (q0 f0 q1 f1 q2 f2 q3 f3 q4 f4:List LV) (K:Pk):(xsp prog cxo1 60 54 ((sp prog 98).drop 0) (tm0 [.ptr 0 0,.int .i64 a,.int .u64 v]) (mkS (orH5 most n0 m0 n1 m1 n2 m2 n3 m3 n4 m4 q0 f0 q1 f1 q2 f2 q3 f3 q4 f4)) (vK [6] K))=(
 bif xcm .lss a 1 then(
 K .ret [.int .i64 2] (op_5_b1 most n0 m0 n1 m1 n2 m2 n3 m3 n4 m4 q0 f0 q1 f1 q2 f2 q3 f3 q4 f4) [])
 else(
 bif xcm .geq a 256 then(
 K .ret [.int .i64 2] (op_5_b1 most n0 m0 n1 m1 n2 m2 n3 m3 n4 m4 q0 f0 q1 f1 q2 f2 q3 f3 q4 f4) [])
 else(
 ck (okC q0 n0) <|
 bif xcm .lss (plcW q0 a) 0 then(
 bif xcm .leq (xar .sub .i64 (xar .sub .i64 (xar .sub .i64 (xar .sub .i64 (xar .sub .i64 most ↑n4) ↑n3) ↑n2) ↑n1) ↑n0) 0 then(
 K .ret [.int .i64 5] (op_5_b1 most n0 m0 n1 m1 n2 m2 n3 m3 n4 m4 q0 f0 q1 f1 q2 f2 q3 f3 q4 f4) [])
 else(
 ck (okC q0 n0) <|
 ck (xle n0 99999) <|
 K .ret [.int .i64 0] (op_5_b2 most a v m0 n1 m1 n2 m2 n3 m3 n4 m4 q0 f0 q1 f1 q2 f2 q3 f3 q4 f4) []))
 else(
 ck (okC q0 n0) <|
 ck (xle n0 99999) <|
 K .ret [.int .i64 0] (op_5_b2 most a v m0 n1 m1 n2 m2 n3 m3 n4 m4 q0 f0 q1 f1 q2 f2 q3 f3 q4 f4) [])))):=by kernel_rfl
abbrev orH6 (most:Int) (n0 m0 n1 m1 n2 m2 n3 m3 n4 m4 n5 m5:Nat) (q0 f0 q1 f1 q2 f2 q3 f3 q4 f4 q5 f5:List LV):List LB:=[.cells [.int .i64 most,.slo 1 0 6 0] none,.cells [.slo 13 0 n5 0,.slo 14 0 m5 0,.slo 11 0 n4 0,.slo 12 0 m4 0,.slo 9 0 n3 0,.slo 10 0 m3 0,.slo 7 0 n2 0,.slo 8 0 m2 0,.slo 5 0 n1 0,.slo 6 0 m1 0,.slo 3 0 n0 0,.slo 4 0 m0 0] (some 2),.dead,.cells q0 (some 2),.cells f0 (some 1),.cells q1 (some 2),.cells f1 (some 1),.cells q2 (some 2),.cells f2 (some 1),.cells q3 (some 2),.cells f3 (some 1),.cells q4 (some 2),.cells f4 (some 1),.cells q5 (some 2),.cells f5 (some 1)]
abbrev og_6_b1 (most:Int) (n0:Nat) (m0:Nat) (n1:Nat) (m1:Nat) (n2:Nat) (m2:Nat) (n3:Nat) (m3:Nat) (n4:Nat) (m4:Nat) (n5:Nat) (m5:Nat) (q0:List LV) (f0:List LV) (q1:List LV) (f1:List LV) (q2:List LV) (f2:List LV) (q3:List LV) (f3:List LV) (q4:List LV) (f4:List LV) (q5:List LV) (f5:List LV):List (Option LB):=[sN [.int .i64 most,.slo 1 0 6 0],sC [.slo 13 0 n5 0,.slo 14 0 m5 0,.slo 11 0 n4 0,.slo 12 0 m4 0,.slo 9 0 n3 0,.slo 10 0 m3 0,.slo 7 0 n2 0,.slo 8 0 m2 0,.slo 5 0 n1 0,.slo 6 0 m1 0,.slo 3 0 n0 0,.slo 4 0 m0 0] 2,sD,sC q0 2,sC f0 1,sC q1 2,sC f1 1,sC q2 2,sC f2 1,sC q3 2,sC f3 1,sC q4 2,sC f4 1,sC q5 2,sC f5 1]
theorem og_6 (most a:Int) (n0 m0 n1 m1 n2 m2 n3 m3 n4 m4 n5 m5:Nat) (q0 f0 q1 f1 q2 f2 q3 f3 q4 f4 q5 f5:List LV) (K:Pk):(xsp prog cxo1 60 42 ((sp prog 94).drop 0) (tm0 [.ptr 0 0,.int .i64 a]) (mkS (orH6 most n0 m0 n1 m1 n2 m2 n3 m3 n4 m4 n5 m5 q0 f0 q1 f1 q2 f2 q3 f3 q4 f4 q5 f5)) (vK [4,5] K))=(
 ck (okC q0 n0) <|
 bif xcm .geq (plcW q0 a) 0 then(
 ck (xnn (plcW q0 a)) <|
 ck (xle (xadd (xnat (plcW q0 a)) 1) n0) <|
 ck (xle (xadd (xadd (xix 0 (xnat (plcW q0 a)) 2) 1) 1) (xln q0)) <|
 ck (isI .u64 (nthD q0 (xadd (xix 0 (xnat (plcW q0 a)) 2) 1))) <|
 K .ret [.int .u64 (asI (nthD q0 (xadd (xix 0 (xnat (plcW q0 a)) 2) 1))),.bool true] (og_6_b1 most n0 m0 n1 m1 n2 m2 n3 m3 n4 m4 n5 m5 q0 f0 q1 f1 q2 f2 q3 f3 q4 f4 q5 f5) [])
 else(
 ck (okC q1 n1) <|
 bif xcm .geq (plcW q1 a) 0 then(
 ck (xnn (plcW q1 a)) <|
 ck (xle (xadd (xnat (plcW q1 a)) 1) n1) <|
 ck (xle (xadd (xadd (xix 0 (xnat (plcW q1 a)) 2) 1) 1) (xln q1)) <|
 ck (isI .u64 (nthD q1 (xadd (xix 0 (xnat (plcW q1 a)) 2) 1))) <|
 K .ret [.int .u64 (asI (nthD q1 (xadd (xix 0 (xnat (plcW q1 a)) 2) 1))),.bool true] (og_6_b1 most n0 m0 n1 m1 n2 m2 n3 m3 n4 m4 n5 m5 q0 f0 q1 f1 q2 f2 q3 f3 q4 f4 q5 f5) [])
 else(
 ck (okC q2 n2) <|
 bif xcm .geq (plcW q2 a) 0 then(
 ck (xnn (plcW q2 a)) <|
 ck (xle (xadd (xnat (plcW q2 a)) 1) n2) <|
 ck (xle (xadd (xadd (xix 0 (xnat (plcW q2 a)) 2) 1) 1) (xln q2)) <|
 ck (isI .u64 (nthD q2 (xadd (xix 0 (xnat (plcW q2 a)) 2) 1))) <|
 K .ret [.int .u64 (asI (nthD q2 (xadd (xix 0 (xnat (plcW q2 a)) 2) 1))),.bool true] (og_6_b1 most n0 m0 n1 m1 n2 m2 n3 m3 n4 m4 n5 m5 q0 f0 q1 f1 q2 f2 q3 f3 q4 f4 q5 f5) [])
 else(
 ck (okC q3 n3) <|
 bif xcm .geq (plcW q3 a) 0 then(
 ck (xnn (plcW q3 a)) <|
 ck (xle (xadd (xnat (plcW q3 a)) 1) n3) <|
 ck (xle (xadd (xadd (xix 0 (xnat (plcW q3 a)) 2) 1) 1) (xln q3)) <|
 ck (isI .u64 (nthD q3 (xadd (xix 0 (xnat (plcW q3 a)) 2) 1))) <|
 K .ret [.int .u64 (asI (nthD q3 (xadd (xix 0 (xnat (plcW q3 a)) 2) 1))),.bool true] (og_6_b1 most n0 m0 n1 m1 n2 m2 n3 m3 n4 m4 n5 m5 q0 f0 q1 f1 q2 f2 q3 f3 q4 f4 q5 f5) [])
 else(
 ck (okC q4 n4) <|
 bif xcm .geq (plcW q4 a) 0 then(
 ck (xnn (plcW q4 a)) <|
 ck (xle (xadd (xnat (plcW q4 a)) 1) n4) <|
 ck (xle (xadd (xadd (xix 0 (xnat (plcW q4 a)) 2) 1) 1) (xln q4)) <|
 ck (isI .u64 (nthD q4 (xadd (xix 0 (xnat (plcW q4 a)) 2) 1))) <|
 K .ret [.int .u64 (asI (nthD q4 (xadd (xix 0 (xnat (plcW q4 a)) 2) 1))),.bool true] (og_6_b1 most n0 m0 n1 m1 n2 m2 n3 m3 n4 m4 n5 m5 q0 f0 q1 f1 q2 f2 q3 f3 q4 f4 q5 f5) [])
 else(
 ck (okC q5 n5) <|
 bif xcm .geq (plcW q5 a) 0 then(
 ck (xnn (plcW q5 a)) <|
 ck (xle (xadd (xnat (plcW q5 a)) 1) n5) <|
 ck (xle (xadd (xadd (xix 0 (xnat (plcW q5 a)) 2) 1) 1) (xln q5)) <|
 ck (isI .u64 (nthD q5 (xadd (xix 0 (xnat (plcW q5 a)) 2) 1))) <|
 K .ret [.int .u64 (asI (nthD q5 (xadd (xix 0 (xnat (plcW q5 a)) 2) 1))),.bool true] (og_6_b1 most n0 m0 n1 m1 n2 m2 n3 m3 n4 m4 n5 m5 q0 f0 q1 f1 q2 f2 q3 f3 q4 f4 q5 f5) [])
 else(
 K .ret [.int .u64 0,.bool false] (og_6_b1 most n0 m0 n1 m1 n2 m2 n3 m3 n4 m4 n5 m5 q0 f0 q1 f1 q2 f2 q3 f3 q4 f4 q5 f5) []))))))):=by kernel_rfl
abbrev op_6_b1 (most:Int) (n0:Nat) (m0:Nat) (n1:Nat) (m1:Nat) (n2:Nat) (m2:Nat) (n3:Nat) (m3:Nat) (n4:Nat) (m4:Nat) (n5:Nat) (m5:Nat) (q0:List LV) (f0:List LV) (q1:List LV) (f1:List LV) (q2:List LV) (f2:List LV) (q3:List LV) (f3:List LV) (q4:List LV) (f4:List LV) (q5:List LV) (f5:List LV):List (Option LB):=[sN [.int .i64 most,.slo 1 0 6 0],sC [.slo 13 0 n5 0,.slo 14 0 m5 0,.slo 11 0 n4 0,.slo 12 0 m4 0,.slo 9 0 n3 0,.slo 10 0 m3 0,.slo 7 0 n2 0,.slo 8 0 m2 0,.slo 5 0 n1 0,.slo 6 0 m1 0,.slo 3 0 n0 0,.slo 4 0 m0 0] 2,sD,sC q0 2,sC f0 1,sC q1 2,sC f1 1,sC q2 2,sC f2 1,sC q3 2,sC f3 1,sC q4 2,sC f4 1,sC q5 2,sC f5 1]
abbrev op_6_b2 (most:Int) (a:Int) (v:Int) (m0:Nat) (n1:Nat) (m1:Nat) (n2:Nat) (m2:Nat) (n3:Nat) (m3:Nat) (n4:Nat) (m4:Nat) (n5:Nat) (m5:Nat) (q0:List LV) (f0:List LV) (q1:List LV) (f1:List LV) (q2:List LV) (f2:List LV) (q3:List LV) (f3:List LV) (q4:List LV) (f4:List LV) (q5:List LV) (f5:List LV):List (Option LB):=[sN [.int .i64 most,.slo 1 0 6 0],sC [.slo 13 0 n5 0,.slo 14 0 m5 0,.slo 11 0 n4 0,.slo 12 0 m4 0,.slo 9 0 n3 0,.slo 10 0 m3 0,.slo 7 0 n2 0,.slo 8 0 m2 0,.slo 5 0 n1 0,.slo 6 0 m1 0,.slo 15 0 (opN q0 a v) 0,.slo 4 0 m0 0] 2,sD,sC q0 2,sC f0 1,sC q1 2,sC f1 1,sC q2 2,sC f2 1,sC q3 2,sC f3 1,sC q4 2,sC f4 1,sC q5 2,sC f5 1,sC (opC q0 a v) 2]
theorem op_6 (most a v:Int) (n0 m0 n1 m1 n2 m2 n3 m3 n4 m4 n5 m5:Nat) (q0 f0 q1 f1 q2 f2 q3 f3 q4 f4 q5 f5:List LV) (K:Pk):(xsp prog cxo1 60 54 ((sp prog 98).drop 0) (tm0 [.ptr 0 0,.int .i64 a,.int .u64 v]) (mkS (orH6 most n0 m0 n1 m1 n2 m2 n3 m3 n4 m4 n5 m5 q0 f0 q1 f1 q2 f2 q3 f3 q4 f4 q5 f5)) (vK [6] K))=(
 bif xcm .lss a 1 then(
 K .ret [.int .i64 2] (op_6_b1 most n0 m0 n1 m1 n2 m2 n3 m3 n4 m4 n5 m5 q0 f0 q1 f1 q2 f2 q3 f3 q4 f4 q5 f5) [])
 else(
 bif xcm .geq a 256 then(
 K .ret [.int .i64 2] (op_6_b1 most n0 m0 n1 m1 n2 m2 n3 m3 n4 m4 n5 m5 q0 f0 q1 f1 q2 f2 q3 f3 q4 f4 q5 f5) [])
 else(
 ck (okC q0 n0) <|
 bif xcm .lss (plcW q0 a) 0 then(
 bif xcm .leq (xar .sub .i64 (xar .sub .i64 (xar .sub .i64 (xar .sub .i64 (xar .sub .i64 (xar .sub .i64 most ↑n5) ↑n4) ↑n3) ↑n2) ↑n1) ↑n0) 0 then(
 K .ret [.int .i64 5] (op_6_b1 most n0 m0 n1 m1 n2 m2 n3 m3 n4 m4 n5 m5 q0 f0 q1 f1 q2 f2 q3 f3 q4 f4 q5 f5) [])
 else(
 ck (okC q0 n0) <|
 ck (xle n0 99999) <|
 K .ret [.int .i64 0] (op_6_b2 most a v m0 n1 m1 n2 m2 n3 m3 n4 m4 n5 m5 q0 f0 q1 f1 q2 f2 q3 f3 q4 f4 q5 f5) []))
 else(
 ck (okC q0 n0) <|
 ck (xle n0 99999) <|
 K .ret [.int .i64 0] (op_6_b2 most a v m0 n1 m1 n2 m2 n3 m3 n4 m4 n5 m5 q0 f0 q1 f1 q2 f2 q3 f3 q4 f4 q5 f5) [])))):=by kernel_rfl
theorem on_x (m:Int) (K:Pk):(xsp prog cxo1 60 8 ((sp prog 63).drop 0) (tm0 [.int .i64 m]) (mkS []) (vK [2] K))=(
 bif xcm .lss m 0 then(
 K .ret [.ptr 1 0] [sN [.nils,.nils],sN [.int .i64 0,.sl 0 0 1 1]] [])
 else(
 bif xcm .gtr m 96 then(
 K .ret [.ptr 1 0] [sN [.nils,.nils],sN [.int .i64 96,.sl 0 0 1 1]] [])
 else(
 K .ret [.ptr 1 0] [sN [.nils,.nils],sN [.int .i64 m,.sl 0 0 1 1]] []))):=by kernel_rfl
end
end Go.Lev
