/- LevelsPlays (P9.1 to P9.3): for any room, any levels that open, are kept, are dropped, any words, any frees the law returns true; what was there stays as it was. No condition. -/
import Derived.Test.YtciccbphopgmaaaCW27
import Derived.Test.YtciccbphopgmaaaLc
import Derived.Test.YtciccbphopgmaaaChecked
import Derived.KernelRfl
namespace Go.Lev
set_option linter.unusedSimpArgs false
set_option linter.unusedVariables false
open Go.RowKit
open Go.Proofs.Try (prog)
set_option maxRecDepth 100000
noncomputable section
theorem runs9:isTrue (lrun prog 4000 4 [])=true:=by kernel_rfl
theorem cxL_ok:CtrOk prog (ctrOf cxL):=cxl_ok ⟨wrapG_ok (runG_ok runs9),wrapG_ok lnewG_ok,wrapG_ok onewG_ok,doG_ok,wrapG_ok sameG_ok,trivial⟩
structure Ask9 where
 k:Int
 a:Int
 z:Int
 v:Value
 cs:List (Int×Int)
abbrev askL (q:Ask9):List LV:=[.int .i64 q.k,.int .i64 q.a,.int .u64 q.z,.val q.v]
theorem askL_len (x:Ask9):(askL x).length=4:=rfl
theorem as_0 {xs:List Ask9} {i:Nat} (h:i < xs.length):nthD (encL askL xs) (i * 4)=.int .i64 xs[i].k:=encL_nth askL_len (j:=0) h (by omega)
theorem as_1 {xs:List Ask9} {i:Nat} (h:i < xs.length):nthD (encL askL xs) (i * 4+1)=.int .i64 xs[i].a:=encL_nth askL_len (j:=1) h (by omega)
theorem as_2 {xs:List Ask9} {i:Nat} (h:i < xs.length):nthD (encL askL xs) (i * 4+1+1)=.int .u64 xs[i].z:=encL_nth askL_len (j:=2) h (by omega)
theorem as_3 {xs:List Ask9} {i:Nat} (h:i < xs.length):nthD (encL askL xs) (i * 4+1+1+1)=.val xs[i].v:=encL_nth askL_len (j:=3) h (by omega)
theorem as_n (xs:List Ask9):(encL askL xs).length=xs.length * 4:=encL_length askL_len xs
theorem noids_as (xs:List Ask9):noIds (encL askL xs)=true:=noIds_encL (fun _=>rfl) xs
def factW (xs:List Ask9):World→Prop:=fun W=>∀ x∈xs,RowArg W x.v x.cs.length (encL cell x.cs)
theorem plays_fun (most:Int) (xs:List Ask9) (n:Nat) (en:xs.length=n) (hn:n≤9223372036854775807) (hl:∀ x∈xs,x.cs.length≤9223372036854775807) :
  SFun prog 3 [.int .i64 most,.slo 0 0 n 0] (mkS [.ro (encL askL xs)] (factG (factW xs))) fun l _=>l=.bool true:=by
 subst en
 refine SFun.mono (SFun.pieces (Q:=fun l _=>l=.bool true) 41 1 plL9 [4] (by kernel_rfl) rfl rfl rfl ?_) fun l s' ⟨b0,h1,_⟩=>h1
 have nx:=noids_as xs; have lx:=as_n xs
 have f1:=isF_self lvF; have f2:=isF_self orF
 refine SSp.to cxL_ok (n:=60) (g:=factG (factW xs)) 7 7 rfl (σ:=Unit) (fun _=>plT9 xs.length 0) (fun _=>plH9 (encL askL xs) (xmn (xmx most 0) 96) 1 (encLs [([],[])])) (mkS_le (Nat.le_of_ble_eq_true rfl)) (by kernel_rfl) ?_ fun _=>?_
 ·rw [pp_a]
  exact⟨rfl,(),[.id 0,.id 1,.id 2,.id 3,.id 4,.id 5,.id 6],by(exact zC)⟩
 have hm0:0≤xmn (xmx most 0) 96∧xmn (xmx most 0) 96≤96:=by simp only [wd_mn,wd_mx]; split <;> (try split) <;> omega
 generalize xmn (xmx most 0) 96=most at hm0
 refine SSp.code_to (g:=factG (factW xs)) 8 rfl (σ:=Unit) (fun _=>[]) (fun _=>[.ro (encL askL xs)]) (by kernel_rfl) ?_ fun _=>?_
 ·refine SCode.loop_vc cxL_ok (n:=60) 0 (by kernel_rfl) (σ:={p:Nat×List Lv // p.1≤60∧OkLs p.2∧(totC p.2:Int)≤most∧totF p.2≤p.1}) (fun p=>plT9 xs.length p.1.1) (fun p=>plH9 (encL askL xs) most p.1.2.length (encLs p.1.2)) (fun p=>60 - p.1.1) (fun _=>Nat.le_of_ble_eq_true rfl) (fun⟨⟨i,ls⟩,hi,h,hc,hf⟩=>?_) ⟨(0,[([],[])]),by omega,ok1,by simpa [totC] using hm0.1,by simp [totF]⟩
  dsimp only at hi h hc hf ⊢
  rw [pp_b]
  by_cases c1:i < xs.length <;> by_cases c2:i < 60
  ·have i3:xar .add .i64 (i:Int) 1=((i+1:Nat):Int):=inc_i64 c1 (by omega)
   have ok0:=okR_enc h hc hm0.2
   have okf:okF (encLs ls)=true:=by simp only [okF,decLs_enc,decide_eq_true_eq]; omega
   have okv:okV (factW xs) xs[i].v=true:=okV_of (qs:=xs[i].cs) ⟨hl _ (List.getElem_mem c1),fun W hW=>hW _ (List.getElem_mem c1)⟩
   obtain⟨g1,g2,g3⟩:=doS_ok h hc hm0.2 (by omega) xs[i].k xs[i].a xs[i].z (valQ (factW xs) xs[i].v) (i:Int)
   have eC:doC (factW xs) most (encLs ls) xs[i].k xs[i].a xs[i].z xs[i].v (i:Int)=encLs (doS most ls xs[i].k xs[i].a xs[i].z (valQ (factW xs) xs[i].v) (i:Int)):=by rw [doC,decLs_enc]
   have eD:doD (factW xs) most (encLs ls) xs[i].k xs[i].a xs[i].z xs[i].v (i:Int)=(doS most ls xs[i].k xs[i].a xs[i].z (valQ (factW xs) xs[i].v) (i:Int)).length:=by rw [doD,decLs_enc]
   have ok2:=okR_enc g1 g2 hm0.2
   simp only [wd_nat,wd_asV,wd_isV,wd_ix,wd_add,wd_mul,wd_ln,Nat.zero_add,Nat.mul_one,wd_isI,wd_asI,wd_isB,wd_asB,wd_nn,cI_tlen,cB_tlen,cII_tlen,decide_true,cond_true,wd_not_t,wd_not_f,wd_and_t,wd_and_f,Nat.add_assoc,Nat.reduceAdd,as_0 c1,as_1 c1,as_2 c1,as_3 c1,lx,i3,ok0,okf,okv,eC,eD,f1,f2,eqL_self,ok2]
   generalize doS most ls xs[i].k xs[i].a xs[i].z (valQ (factW xs) xs[i].v) (i:Int)=ls' at g1 g2 g3 ⊢
   (refine zR ?_)
   exact⟨rfl,⟨(i+1,ls'),by omega,g1,g2,by simp only; omega⟩,by simp only; omega,[.id 0,.id 1,.id 7,.id 11,.id 4,.id 9,.id 12],by(exact zC)⟩
  all_goals
   (refine zR ?_)
   exact⟨rfl,(),[.id 0],by(exact zC)⟩
 refine zE cxL_ok ?_
 rw [pp_z]
 exact⟨trivial,rfl,.bool true,[.ro _],[.id 0],rfl,by(exact zC)⟩
end
end Go.Lev
