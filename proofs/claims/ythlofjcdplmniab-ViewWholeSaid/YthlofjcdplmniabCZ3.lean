/- ViewWhole (P10.1, P10.2): of whole heaps, too long and too short ones, any room, any asks the law returns true; what was there stays as it was. No condition. -/
import Derived.Test.YthlofjcdplmniabCZ2
import Derived.Test.YthlofjcdplmniabLc
import Derived.Test.YthlofjcdplmniabChecked
import Derived.KernelRfl
namespace Go.Lev
set_option linter.unusedSimpArgs false
set_option linter.unusedVariables false
open Go.RowKit
open Go.Proofs.Try (prog)
set_option maxRecDepth 100000
noncomputable section
theorem runs10:isTrue (lrun prog 4000 4 [])=true:=by kernel_rfl
theorem cxL_ok:CtrOk prog (ctrOf cxL):=cxl_ok ⟨wrapG_ok (runG_ok runs10),wrapG_ok whG_ok,wrapG_ok xhG_ok,doG_ok,wrapG_ok sameG_ok,trivial⟩
structure Ask9 where
 k:Int
 a:Int
 z:Int
 v:Value
 cs:List (Int×Int)
abbrev askL (q:Ask9):List LV:=[.int .i64 q.k,.int .i64 q.a,.int .u64 q.z,.val q.v]
theorem askL_len (x:Ask9):(askL x).length=4:=rfl
theorem as_0 {xs:List Ask9} {i:Nat} (h:i < xs.length):nthD (encL askL xs) (i * 4)=.int .i64 xs[i].k:=encL_nth askL_len (j:=0) h (by omega)
theorem as_1 {xs:List Ask9} {i:Nat} (h:i < xs.length):nthD (encL askL xs) (i * 4+1)=.int .i64 xs[i].a:=encL_nth askL_len (j:=1) h (by omega)
theorem as_2 {xs:List Ask9} {i:Nat} (h:i < xs.length):nthD (encL askL xs) (i * 4+1+1)=.int .u64 xs[i].z:=encL_nth askL_len (j:=2) h (by omega)
theorem as_3 {xs:List Ask9} {i:Nat} (h:i < xs.length):nthD (encL askL xs) (i * 4+1+1+1)=.val xs[i].v:=encL_nth askL_len (j:=3) h (by omega)
theorem as_n (xs:List Ask9):(encL askL xs).length=xs.length * 4:=encL_length askL_len xs
theorem noids_as (xs:List Ask9):noIds (encL askL xs)=true:=noIds_encL (fun _=>rfl) xs
def factW (xs:List Ask9):World→Prop:=fun W=>∀ x∈xs,RowArg W x.v x.cs.length (encL cell x.cs)
theorem totF_op (ls:List Lv):totF (opL ls)=totF ls:=by unfold opL; split <;> simp [totF]
theorem totF_dr (ls:List Lv):totF (drL ls)≤totF ls:=by
 match ls with
 | []=>exact Nat.le_refl _
 | [x]=>exact Nat.le_refl _
 | x::y::r=>simp only [drL,totF]; omega
theorem totF_kp (ls:List Lv):totF (kpL ls)≤totF ls:=by
 match ls with
 | []=>exact Nat.le_refl _
 | [x]=>exact Nat.le_refl _
 | x::y::r=>simp only [kpL,totF,List.length_append]; omega
theorem knC_len (sz:Nat) (ks:CL) (a x:Int):(knC sz ks a x).length≤ks.length+1:=by
 unfold knC; split <;> simp
theorem doS_ok {sz:Nat} {most:Int} {s:VS} (h:OkS sz most s) (hk:s.ks.length < 90000) (hf:totF s.ls < 100000) (k a w:Int) (qs:CL) (i:Int):OkS sz most (doS sz most s k a w qs i)∧(doS sz most s k a w qs i).ks.length≤s.ks.length+1∧totF (doS sz most s k a w qs i).ls≤totF s.ls+1:=by
 obtain⟨ks,nd,ls⟩:=s
 obtain⟨⟨h1,h2⟩,hl,hm,hm2⟩:=h
 dsimp only at hk hf h1 hl hm
 unfold doS
 dsimp only
 split
 ·have:=knC_len sz ks (plV a i) (xar .rem .u64 w 3)
  exact⟨⟨⟨by show(knC _ _ _ _).length≤_; omega,h2⟩,hl,hm,hm2⟩,this,Nat.le_succ _⟩
 have hne:=hl.ne
 have tk:∀ c,OkLs (tkC most ls c)∧(totC (tkC most ls c):Int)≤most∧totF (tkC most ls c)≤totF ls+1:=fun c=>by
  cases ls with
  | nil=>exact absurd rfl hne
  | cons x r =>
    obtain⟨q1,q2⟩:=tkC_ok hl hm hm2 c
    exact⟨q1,q2,by simp only [tkC,totF,inm,outs]; omega⟩
 split
 ·by_cases q:inV sz (plV a i)
  ·simp only [if_pos q]
   obtain⟨q1,q2,q3⟩:=tk [(plV a i,w)]
   exact⟨⟨⟨h1,h2⟩,q1,q2,hm2⟩,Nat.le_succ _,q3⟩
  ·simp only [if_neg q]
   exact⟨⟨⟨h1,h2⟩,hl,hm,hm2⟩,Nat.le_succ _,Nat.le_succ _⟩
 split
 ·exact⟨⟨⟨h1,h2⟩,(opL_ok hl).1,by show(totC (opL ls):Int)≤_; rw [(opL_ok hl).2]; exact hm,hm2⟩,Nat.le_succ _,by show totF (opL ls)≤_; rw [totF_op]; omega⟩
 split
 ·have g:=(kpL_ok hl).2; have g2:=totF_kp ls
  exact⟨⟨⟨h1,h2⟩,(kpL_ok hl).1,by show(totC (kpL ls):Int)≤_; omega,hm2⟩,Nat.le_succ _,by show totF (kpL ls)≤_; omega⟩
 split
 ·have g:=(drL_ok hl).2; have g2:=totF_dr ls
  exact⟨⟨⟨h1,h2⟩,(drL_ok hl).1,by show(totC (drL ls):Int)≤_; omega,hm2⟩,Nat.le_succ _,by show totF (drL ls)≤_; omega⟩
 split
 ·cases ls with
  | nil=>exact absurd rfl hne
  | cons x r =>
    refine⟨⟨⟨h1,h2⟩,frC_ok hl hf a,by simpa [frC,totC,inm,outs] using hm,hm2⟩,Nat.le_succ _,?_⟩
    simp only [frC,totF,inm,outs,List.length_append,List.length_singleton]; omega
 split
 ·unfold vtC
  split
  ·obtain⟨q1,q2,q3⟩:=tk (rowC (encL cell qs) i (min qs.length 5))
   exact⟨⟨⟨h1,h2⟩,q1,q2,hm2⟩,Nat.le_succ _,q3⟩
  ·exact⟨⟨⟨h1,h2⟩,hl,hm,hm2⟩,Nat.le_succ _,Nat.le_succ _⟩
 ·exact⟨⟨⟨h1,h2⟩,hl,hm,hm2⟩,Nat.le_succ _,Nat.le_succ _⟩
abbrev plP (ws ax:List LV) (sz:Nat) (most:Int) (s:VS):List LB:=plH9 ws ax sz s.ks.length (encL cell s.ks) (encL (cI .i64) (spL sz s.ks)) s.nd most s.ls.length (encLs s.ls)
set_option maxHeartbeats 1000000 in
theorem plays_fun (us:List Int) (most:Int) (xs:List Ask9) (n0 n:Nat) (e0:us.length=n0) (en:xs.length=n) (hn:n≤9223372036854775807) (hl:∀ x∈xs,x.cs.length≤9223372036854775807) (hn0:n0≤9223372036854775807) :
  SFun prog 3 [.slo 0 0 n0 0,.int .i64 most,.slo 1 0 n 0] (mkS [.ro (encL (cI .u64) us),.ro (encL askL xs)] (factG (factW xs))) fun l _=>l=.bool true:=by
 subst e0 en
 refine SFun.mono (SFun.pieces (Q:=fun l _=>l=.bool true) 51 2 plL9 [6] (by kernel_rfl) rfl rfl rfl ?_) fun l s' ⟨b0,h1,_⟩=>h1
 have nx:=noids_as xs; have lx:=as_n xs; have nu:=noIds_Iu64 us; have lu:=encIu64_len us
 have f1:=isF_self lvF; have f2:=isF_self orF
 have hm0:0≤xmn (xmx most 0) 96∧xmn (xmx most 0) 96≤96:=by simp only [wd_mn,wd_mx]; split <;> (try split) <;> omega
 refine SSp.to cxL_ok (n:=60) (g:=factG (factW xs)) 9 9 rfl (σ:={_k:Unit // us.length≤600}) (fun _=>plT9 xs.length 0) (fun _=>plP (encL (cI .u64) us) (encL askL xs) (szF us.length) (xmn (xmx most 0) 96) ⟨vhS us (szF us.length - 1),0,[([],[])]⟩) (mkS_le (Nat.le_of_ble_eq_true rfl)) (by kernel_rfl) ?_ fun⟨_,h600⟩=>?_
 ·obtain⟨hz1,hz2⟩:=szF_b us.length
  have okk:okK (szF us.length) (szF us.length - 1) (encL cell (vhS us (szF us.length - 1)))=true:=by have:=okK_enc (okK_wh us (szF us.length) (szF us.length - 1) hz2 (by omega)); rwa [vhS_len] at this
  have eC:vhC (encL (cI .u64) us) us.length=encL cell (vhS us (szF us.length - 1)):=by rw [vhC,decIu64_enc]
  have eN:vhN us.length=szF us.length - 1:=rfl
  have eZ:szW us.length=szF us.length:=rfl
  have ok0:okR (xmn (xmx most 0) 96) [.tup [.agg [],.agg []]] 1=true:=okR_enc (ls:=[([],[])]) ok1 (by simpa [totC] using hm0.1) hm0.2
  have nk:=noids_c (vhS us (szF us.length - 1)); have ns:=noIds_Ii64 (spL (szF us.length) (vhS us (szF us.length - 1)))
  have wl:=vhS_len us (szF us.length - 1)
  rw [pp_a]
  by_cases c:us.length≤600
  ·have oku:okIu64 (encL (cI .u64) us) us.length=true:=okIu64_enc (by omega)
   have okl:xle us.length 1000000=true:=t_le (by omega)
   simp only [oku,okl,eC,eN,eZ,okk,spW_enc,eqL_self,ok0,f1,f2,cond_true]
   (refine zR ?_)
   refine⟨rfl,⟨(),c⟩,[.id 0,.id 1,.id 2,.id 3,.id 4,.id 5,.id 6,.id 13,.id 8,.id 9,.id 10,.id 11,.id 14],?_⟩
   dsimp only [plP]
   rw [wl]
   (exact zC)
  ·(refine zR ?_)
   exact⟨trivial,rfl,.bool true,[.ro _,.ro _],[.id 0,.id 1],rfl,by(exact zC)⟩
 obtain⟨hz1,hz2⟩:=szF_b us.length
 generalize szF us.length=sz at *
 generalize xmn (xmx most 0) 96=most at hm0
 refine SSp.code_to (g:=factG (factW xs)) 10 rfl (σ:={p:Nat×VS // OkS sz most p.2}) (fun p=>plT9 xs.length p.1.1) (fun p=>plP (encL (cI .u64) us) (encL askL xs) sz most p.1.2) (by kernel_rfl) ?_ fun⟨⟨i0,s⟩,h⟩=>?_
 ·refine SCode.loop_vc cxL_ok (n:=60) 0 (by kernel_rfl) (σ:={p:Nat×VS // p.1≤30∧OkS sz most p.2∧p.2.ks.length≤256+p.1∧totF p.2.ls≤p.1}) (fun p=>plT9 xs.length p.1.1) (fun p=>plP (encL (cI .u64) us) (encL askL xs) sz most p.1.2) (fun p=>30 - p.1.1) (fun _=>Nat.le_of_ble_eq_true rfl) (fun⟨⟨i,s⟩,hi,h,hk,hf⟩=>?_) ⟨(0,⟨vhS us (sz - 1),0,[([],[])]⟩),by omega,⟨okK_wh us sz (sz - 1) hz2 (by omega),ok1,by simpa [totC] using hm0.1,hm0.2⟩,by show(vhS us (sz - 1)).length≤_; rw [vhS_len]; omega,by simp [totF]⟩
  dsimp only at hi h hk hf ⊢
  have nk:=noids_c s.ks; have ns:=noIds_Ii64 (spL sz s.ks)
  rw [pp_b]
  by_cases c1:i < xs.length <;> by_cases c2:i < 30
  ·have i3:xar .add .i64 (i:Int) 1=((i+1:Nat):Int):=inc_i64 c1 (by omega)
   have ok0:=okR_enc h.l h.m h.m2; have okk:=okK_enc h.k
   have okf:okF (encLs s.ls)=true:=by simp only [okF,decLs_enc,decide_eq_true_eq]; omega
   have okv:okV (factW xs) xs[i].v=true:=okV_of (qs:=xs[i].cs) ⟨hl _ (List.getElem_mem c1),fun W hW=>hW _ (List.getElem_mem c1)⟩
   obtain⟨g1,g2,g3⟩:=doS_ok h (by omega) (by omega) xs[i].k xs[i].a xs[i].z (valQ (factW xs) xs[i].v) (i:Int)
   have eN:dvN (factW xs) sz most (encL cell s.ks) s.nd (encLs s.ls) xs[i].k xs[i].a xs[i].z xs[i].v (i:Int)=(doS sz most s xs[i].k xs[i].a xs[i].z (valQ (factW xs) xs[i].v) (i:Int)).ks.length:=by rw [dvN,decLs_enc,decC_enc]
   have eK:dvK (factW xs) sz most (encL cell s.ks) s.nd (encLs s.ls) xs[i].k xs[i].a xs[i].z xs[i].v (i:Int)=encL cell (doS sz most s xs[i].k xs[i].a xs[i].z (valQ (factW xs) xs[i].v) (i:Int)).ks:=by rw [dvK,decLs_enc,decC_enc]
   have eD:dvD (factW xs) sz most (encL cell s.ks) s.nd (encLs s.ls) xs[i].k xs[i].a xs[i].z xs[i].v (i:Int)=(doS sz most s xs[i].k xs[i].a xs[i].z (valQ (factW xs) xs[i].v) (i:Int)).nd:=by rw [dvD,decLs_enc,decC_enc]
   have eL:dvL (factW xs) sz most (encL cell s.ks) s.nd (encLs s.ls) xs[i].k xs[i].a xs[i].z xs[i].v (i:Int)=(doS sz most s xs[i].k xs[i].a xs[i].z (valQ (factW xs) xs[i].v) (i:Int)).ls.length:=by rw [dvL,decLs_enc,decC_enc]
   have eC:dvC (factW xs) sz most (encL cell s.ks) s.nd (encLs s.ls) xs[i].k xs[i].a xs[i].z xs[i].v (i:Int)=encLs (doS sz most s xs[i].k xs[i].a xs[i].z (valQ (factW xs) xs[i].v) (i:Int)).ls:=by rw [dvC,decLs_enc,decC_enc]
   have ok2:=okR_enc g1.l g1.m g1.m2; have okk2:=okK_enc g1.k
   have e0:asI (nthD (encL askL xs) (i * 4))=xs[i].k:=by rw [as_0 c1]; rfl
   have n0:isI .i64 (nthD (encL askL xs) (i * 4))=true:=by rw [as_0 c1]; rfl
   simp only [wd_nat,wd_asV,wd_isV,wd_ix,wd_add,wd_mul,wd_ln,Nat.zero_add,Nat.mul_one,wd_isI,wd_asI,wd_isB,wd_asB,wd_nn,cI_tlen,cB_tlen,cII_tlen,decide_true,cond_true,wd_not_t,wd_not_f,wd_and_t,wd_and_f,Nat.add_assoc,Nat.reduceAdd,as_0 c1,as_1 c1,as_2 c1,as_3 c1,lx,i3,ok0,okk,okf,okv,eN,eK,eD,eL,eC,f1,f2,eqL_self,spW_enc]
   generalize doS sz most s xs[i].k xs[i].a xs[i].z (valQ (factW xs) xs[i].v) (i:Int)=s' at g1 g2 g3 ok2 okk2 ⊢
   have nk2:=noids_c s'.ks; have ns2:=noIds_Ii64 (spL sz s'.ks)
   (refine zR ?_)
   exact⟨rfl,⟨(i+1,s'),by omega,g1,by simp only; omega,by simp only; omega⟩,by simp only; omega,[.id 0,.id 1,.id 2,.id 13,.id 4,.id 5,.id 14,.id 15,.id 8,.id 16,.id 10,.id 17,.id 18],by(exact zC)⟩
  all_goals
   (refine zR ?_)
   exact⟨rfl,⟨(i,s),h⟩,[.id 0,.id 1,.id 2,.id 3,.id 4,.id 5,.id 6,.id 7,.id 8,.id 9,.id 10,.id 11,.id 12],by(exact zC)⟩
 dsimp only at h ⊢
 have nk:=noids_c s.ks; have ns:=noIds_Ii64 (spL sz s.ks)
 have ok0:=okR_enc h.l h.m h.m2; have okk:=okK_enc h.k
 refine zE cxL_ok ?_
 rw [pp_z]
 simp only [ok0,okk,f1,f2,eqL_self,spW_enc,cond_true]
 (refine zR ?_)
 exact⟨trivial,rfl,.bool true,[.ro _,.ro _],[.id 0,.id 1],rfl,by(exact zC)⟩
end
end Go.Lev
