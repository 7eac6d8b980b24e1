/- chapter 10: a view: Take of both -/
import Derived.Test.YtopbikapcboigaaCV3
import Derived.Test.YtopbikapcboigaaLc
import Derived.Test.YtopbikapcboigaaChecked
import Derived.KernelRfl
namespace Go.Lev
set_option linter.unusedSimpArgs false
set_option linter.unusedVariables false
open Go.RowKit
open Go.Proofs.Try (prog)
set_option maxRecDepth 100000
noncomputable section
def allV (sz:Nat) (c:CL):Bool:=c.all fun x=>decide (inV sz x.1)
def vtE (sz:Nat) (most:Int) (ls:List Lv) (c:CL):Int:=if allV sz c then tkE most ls c else 2
def vtC (sz:Nat) (most:Int) (ls:List Lv) (c:CL):List Lv:=if allV sz c then tkC most ls c else ls
theorem allV_t {sz:Nat} {c:CL} (h:∀ i (hi:i < c.length),inV sz c[i].1):allV sz c=true:=by
 rw [allV,List.all_eq_true]; intro x hx
 obtain⟨i,hi,rfl⟩:=List.mem_iff_getElem.1 hx
 simpa using h i hi
theorem allV_f {sz:Nat} {c:CL} {i:Nat} (hi:i < c.length) (h:¬ inV sz c[i].1):allV sz c=false:=by
 rw [allV,List.all_eq_false]; exact⟨c[i],List.getElem_mem hi,by simpa using h⟩
def vtEW (sz:Nat) (most:Int) (cs c:List LV):Int:=vtE sz most (decLs cs) (decC c)
def vtDW (sz:Nat) (most:Int) (cs c:List LV):Nat:=(vtC sz most (decLs cs) (decC c)).length
def vtCW (sz:Nat) (most:Int) (cs c:List LV):List LV:=encLs (vtC sz most (decLs cs) (decC c))
def cxv2:Cx:=cxl [(72,ltakeG),(93,otakeG)]
abbrev vtL:List Nat:=[0,1,4,7,8,9]
abbrev vtT (nc i:Nat):List (Nat×LV):=[(0,.ptr 0 0),(1,.slo 6 0 nc 0),(7,.slo 6 0 nc 0),(8,.int .i64 nc),(9,.int .i64 i)]
abbrev vtH (sz n:Nat) (kc sc:List LV) (nd most:Int) (d:Nat) (cs c:List LV):List LB:=[.cells [.slo 1 0 n 0,.slo 2 0 sz 0,.int .i64 nd,.ptr 3 0] none,.cells kc (some 2),.cells sc (some 1),.cells [.int .i64 most,.slo 4 0 d 0] none,.obj lvF cs 5,.dead,.cells c (some 2)]
abbrev vtO (sz n:Nat) (kc sc:List LV) (nd most:Int) (d:Nat) (cs c:List LV):List LB:=[.cells [.slo 1 0 n 0,.slo 2 0 sz 0,.int .i64 nd,.ptr 3 0] none,.cells kc (some 2),.cells sc (some 1),.cells [.int .i64 most,.slo 4 0 d 0] none,.obj lvF cs 7,.dead,.cells c (some 2),.dead]
theorem vt_a (sz n nc:Nat) (kc sc:List LV) (nd most:Int) (d:Nat) (cs c:List LV) (K:Pk):(xsp prog cxv2 40 25 (seg (sp prog 46) 0 2) (tm0 [.ptr 0 0,.slo 6 0 nc 0]) (mkS (vtH sz n kc sc nd most d cs c)) (vK vtL K))=(
 K .normal [.ptr 0 0,.slo 6 0 nc 0,.int .i64 0,.slo 6 0 nc 0,.int .i64 ↑nc,.int .i64 0] [sN [.slo 1 0 n 0,.slo 2 0 sz 0,.int .i64 nd,.ptr 3 0],sC kc 2,sC sc 1,sN [.int .i64 most,.slo 4 0 d 0],some (.obj lvF cs 5),sD,sC c 2] []):=by kernel_rfl
abbrev vt_b_b1 (sz:Nat) (n:Nat) (i:Nat) (kc:List LV) (sc:List LV) (nd:Int) (most:Int) (d:Nat) (cs:List LV) (c:List LV):List (Option LB):=[sN [.slo 1 0 n 0,.slo 2 0 sz 0,.int .i64 nd,.ptr 3 0],sC kc 2,sC sc 1,sN [.int .i64 most,.slo 4 0 d 0],some (.obj lvF cs 5),sD,sC c 2,sN [.int .i64 (asI (nthD c (xix 0 (xnat ↑i) 2))),.int .u64 (asI (nthD c (xadd (xix 0 (xnat ↑i) 2) 1)))]]
theorem vt_b (sz n nc i:Nat) (kc sc:List LV) (nd most:Int) (d:Nat) (cs c:List LV) (K:Pk):(xcode prog cxv2 40 25 (loopOf (nthC (sp prog 46) 2)) (mkTm 25 (vtT nc i)) (mkS (vtH sz n kc sc nd most d cs c)) (vK vtL K))=(
 bif xcm .lss ↑i ↑nc then(
 ck (xle (xadd (xnat ↑i) 1) nc) <|
 ck (xle (xadd (xix 0 (xnat ↑i) 2) 2) (xln c)) <|
 ck (isI .i64 (nthD c (xix 0 (xnat ↑i) 2))) <|
 ck (isI .u64 (nthD c (xadd (xix 0 (xnat ↑i) 2) 1))) <|
 bif xcm .geq (asI (nthD c (xix 0 (xnat ↑i) 2))) 1 then(
 bif xnot (xcm .lss (asI (nthD c (xix 0 (xnat ↑i) 2))) ↑sz) then(
 K .ret [.ptr 0 0,.slo 6 0 nc 0,.int .i64 2,.slo 6 0 nc 0,.int .i64 ↑nc,.int .i64 ↑i] (vt_b_b1 sz n i kc sc nd most d cs c) [])
 else(
 K .normal [.ptr 0 0,.slo 6 0 nc 0,.any,.slo 6 0 nc 0,.int .i64 ↑nc,.int .i64 (xar .add .i64 (↑i) 1)] (vt_b_b1 sz n i kc sc nd most d cs c) []))
 else(
 K .ret [.ptr 0 0,.slo 6 0 nc 0,.int .i64 2,.slo 6 0 nc 0,.int .i64 ↑nc,.int .i64 ↑i] (vt_b_b1 sz n i kc sc nd most d cs c) []))
 else(
 K (.exit 0) [.ptr 0 0,.slo 6 0 nc 0,.any,.slo 6 0 nc 0,.int .i64 ↑nc,.int .i64 ↑i] [sN [.slo 1 0 n 0,.slo 2 0 sz 0,.int .i64 nd,.ptr 3 0],sC kc 2,sC sc 1,sN [.int .i64 most,.slo 4 0 d 0],some (.obj lvF cs 5),sD,sC c 2] [])):=by kernel_rfl
theorem vt_z (sz n nc i:Nat) (kc sc:List LV) (nd most:Int) (d:Nat) (cs c:List LV) (K:Pk):(xsp prog cxv2 40 25 ((sp prog 46).drop 3) (mkTm 25 (vtT nc i)) (mkS (vtH sz n kc sc nd most d cs c)) (vK vtL K))=(
 ck (okR most cs d) <|
 ck (okC c nc) <|
 ck (xle nc 800000) <|
 ck (isF lvF lvF) <|
 K .ret [.ptr 0 0,.slo 6 0 nc 0,.int .i64 (ltE most cs c),.slo 6 0 nc 0,.int .i64 ↑nc,.int .i64 ↑i] [sN [.slo 1 0 n 0,.slo 2 0 sz 0,.int .i64 nd,.ptr 3 0],sC kc 2,sC sc 1,sN [.int .i64 most,.slo 4 0 (ltD most cs c) 0],some (.obj lvF (ltC most cs c) 7),sD,sC c 2,sD] []):=by kernel_rfl
theorem cxv2_ok:CtrOk prog (ctrOf cxv2):=cxl_ok ⟨ltakeG_ok,otakeG_ok,trivial⟩
theorem vt_ok (sz n:Nat) (kc sc:List LV) (nk:noIds kc=true) (ns:noIds sc=true) (hs:sz≤256) (nd most:Int) (ls:List Lv) (hl:OkLs ls) (hm:(totC ls:Int)≤most) (hm2:most≤96) (c:CL) (hc:c.length≤800000):SFun prog 46 [.ptr 0 0,.slo 6 0 c.length 0] (mkS (vtH sz n kc sc nd most ls.length (encLs ls) (encL cell c))) fun l t=>l=.int .i64 (vtE sz most ls c)∧t=mkS (vtO sz n kc sc nd most (vtC sz most ls c).length (encLs (vtC sz most ls c)) (encL cell c)):=by
 refine SFun.mono (SFun.pieces (Q:=fun l b=>l=.int .i64 (vtE sz most ls c)∧b=vtO sz n kc sc nd most (vtC sz most ls c).length (encLs (vtC sz most ls c)) (encL cell c)) 25 7 vtL [4] (by kernel_rfl) rfl rfl rfl ?_) fun l s' ⟨b0,⟨h1,h2⟩,h3⟩=>⟨h1,by rw [h3,h2]⟩
 have nc:=noids_c c; have lc:=cell_n c
 have ok0:=okR_enc hl hm hm2; have f1:=isF_self lvF; have okc:okC (encL cell c) c.length=true:=okC_enc (by omega)
 refine SSp.to cxv2_ok (n:=40) (g:=[]) 2 2 rfl (σ:=Unit) (fun _=>vtT c.length 0) (fun _=>vtH sz n kc sc nd most ls.length (encLs ls) (encL cell c)) (mkS_le (Nat.le_of_ble_eq_true rfl)) (by kernel_rfl) ?_ fun _=>?_
 ·rw [vt_a]; exact⟨rfl,(),[.id 0,.id 1,.id 2,.id 3,.id 4,.id 5,.id 6],by(exact zC)⟩
 refine SSp.code_to (g:=[]) 3 rfl (σ:={_i:Nat // allV sz c=true}) (fun i=>vtT c.length i.1) (fun _=>vtH sz n kc sc nd most ls.length (encLs ls) (encL cell c)) (by kernel_rfl) ?_ fun⟨i0,ha⟩=>?_
 ·refine SCode.loop_vc cxv2_ok (n:=40) 0 (by kernel_rfl) (σ:={i:Nat // i≤c.length∧∀ j (hj:j < c.length),j < i→inV sz c[j].1}) (fun i=>vtT c.length i.1) (fun _=>vtH sz n kc sc nd most ls.length (encLs ls) (encL cell c)) (fun i=>c.length - i.1) (fun _=>Nat.le_of_ble_eq_true rfl) (fun⟨i,hi,hall⟩=>?_) ⟨0,Nat.zero_le _,fun j hj h=>absurd h (by omega)⟩
  dsimp only
  rw [vt_b]; simp only [vt_b_b1]; rw [wd_lss]
  refine ite_way (fun hk=>?_) (fun hk=>⟨rfl,⟨i,allV_t fun j hj=>hall j hj (by omega)⟩,[.id 0,.id 1,.id 2,.id 3,.id 4,.id 5,.id 6],by(exact zC)⟩)
  have e3:xar .add .i64 (i:Int) 1=((i+1:Nat):Int):=inc_i64 hk (by omega)
  simp only [wd_nat,wd_asV,wd_isV,wd_ix,wd_add,wd_mul,wd_ln,Nat.zero_add,Nat.mul_one,wd_isI,wd_asI,wd_isB,wd_asB,wd_nn,cI_tlen,cB_tlen,cII_tlen,decide_true,cond_true,wd_not_t,wd_not_f,wd_and_t,wd_and_f,nt_lss,Nat.add_assoc,Nat.reduceAdd,cell_0 hk,cell_1 hk,lc,e3]
  by_cases q:inV sz c[i].1
  ·have q1:=q.1; have q2:=q.2
   (refine zR ?_)
   refine⟨rfl,⟨i+1,hk,fun j hj hji=>?_⟩,by simp only; omega,[.id 0,.id 1,.id 2,.id 3,.id 4,.id 5,.id 6],by(exact zC)⟩
   rcases Nat.lt_succ_iff_lt_or_eq.1 hji with h | rfl
   ·exact hall j hj h
   ·exact q
  ·have ha:=allV_f hk q
   have e1:vtE sz most ls c=2:=by rw [vtE,ha]; rfl
   have e2:vtC sz most ls c=ls:=by rw [vtC,ha]; rfl
   rw [e1,e2]
   by_cases q1:1≤c[i].1
   ·have q2:¬ c[i].1 < sz:=fun h=>q ⟨q1,h⟩
    (refine zR ?_)
    exact⟨trivial,rfl,_,_,[.id 0,.id 1,.id 2,.id 3,.id 4,.id 5,.id 6,.id 5],⟨rfl,rfl⟩,by(exact zC)⟩
   ·(refine zR ?_)
    exact⟨trivial,rfl,_,_,[.id 0,.id 1,.id 2,.id 3,.id 4,.id 5,.id 6,.id 5],⟨rfl,rfl⟩,by(exact zC)⟩
 refine SSp.last cxv2_ok (n:=40) (mkS_le (Nat.le_of_ble_eq_true rfl)) ?_
 have e1:vtE sz most ls c=tkE most ls c:=by rw [vtE,ha]; rfl
 have e2:vtC sz most ls c=tkC most ls c:=by rw [vtC,ha]; rfl
 have l0:xle c.length 800000=true:=t_le hc
 rw [vt_z,e1,e2]
 simp only [ok0,okc,l0,f1,ltE,ltD,ltC,decC_enc,decLs_enc]
 (refine zR ?_)
 exact⟨trivial,rfl,_,_,[.id 0,.id 1,.id 2,.id 3,.id 4,.id 5,.id 6,.id 7],⟨rfl,rfl⟩,by(exact zC)⟩
end
end Go.Lev
