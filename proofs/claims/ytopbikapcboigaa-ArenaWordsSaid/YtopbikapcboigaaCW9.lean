/- chapter 11: ArenaWords -/
import Derived.Test.YtopbikapcboigaaCW8
import Derived.Test.YtopbikapcboigaaLc
import Derived.Test.YtopbikapcboigaaChecked
import Derived.KernelRfl
namespace Go.Lev
set_option linter.unusedSimpArgs false
set_option linter.unusedVariables false
open Go.RowKit
open Go.Proofs.Try (prog)
set_option maxRecDepth 100000
noncomputable section
theorem encIu8_len (xs:List Int):(encL (cI .u8) xs).length=xs.length:=by rw [encL_length (cI_len .u8)]; omega
theorem encIu8_nth {xs:List Int} {i:Nat} (h:i < xs.length):nthD (encL (cI .u8) xs) i=.int .u8 xs[i]:=by
 have:=encL_nth (cI_len .u8) (j:=0) h (by omega)
 simp only [Nat.mul_one,Nat.add_zero] at this
 exact this
theorem noIds_Iu8 (xs:List Int):noIds (encL (cI .u8) xs)=true:=noIds_encL (fun _=>rfl) xs
theorem runs11:isTrue (lrun prog 4000 3 [])=true:=by kernel_rfl
theorem cxw_ok:CtrOk prog (ctrOf cxw):=cxl_ok ⟨runG_ok runs11,trivial⟩
theorem cxG_ok:CtrOk prog (ctrOf cxG):=cxl_ok ⟨blkG_ok,olkG_ok,ligG_ok,logG_ok,sbG_ok,sameIi64G_ok,trivial⟩
theorem cxB_ok:CtrOk prog (ctrOf cxB):=cxl_ok ⟨blkG_ok,olkG_ok,libG_ok,lobG_ok,sbG_ok,trivial⟩
theorem wr_u (x:Int):0≤xwr .u64 x∧xwr .u64 x≤18446744073709551615:=by
 show 0≤lwrap .u64 x∧lwrap .u64 x≤18446744073709551615
 rw [lwrap_eq,show IntKind.u64.wrap x=x % 18446744073709551616 by simp [IntKind.wrap,IntKind.bits,IntKind.signed]]
 omega
theorem lsW_n {ws:List Int} {bs:List Blk} {c a:Int} {row r:List Int} (h:lsW ws bs c a row=some r):r.length≤row.length+lft bs row:=by
 by_cases e:a=0
 ·subst e; rw [lsW_end] at h; cases h; omega
 ·by_cases k:isBk bs c a∧a ∉ row
  ·rw [lsW_go e k] at h
   have h1:=lsW_n h
   have h2:=lft_lt k.1 k.2
   have L1:(row++[a]).length=row.length+1:=by simp
   omega
  ·rw [lsW_bad e k] at h; cases h
termination_by lft bs row
decreasing_by exact lft_lt k.1 k.2
theorem ls_lens {us r1 r2 r3 r4:Row} (h:lsAll us=some (r1,r2,r3,r4)):r1.length≤256∧r2.length≤256∧r3.length≤256∧r4.length≤256:=by
 simp only [lsAll,Option.bind_eq_some_iff] at h
 obtain⟨bs,hb,a,ha,b,hb',c,hc,d,hd,e⟩:=h
 simp only [Option.some.injEq,Prod.mk.injEq] at e
 obtain⟨rfl,rfl,rfl,rfl⟩:=e
 have b1:=bkF_n hb
 have l0:=lft_0 bs
 have f:∀ {c:Nat} {r:Row},ls1 us bs c=some r→r.length≤256:=fun h=>by
  have h1:=lsW_n h
  simp only [List.length_nil] at h1
  omega
 exact⟨f ha,f hb',f hc,f hd⟩
theorem inU_push {us:Row} (h:inU us) {y:Int} (k:0≤y∧y≤18446744073709551615):inU (us++[y]):=fun u hu=>by
 rcases List.mem_append.1 hu with hu | hu
 ·exact h u hu
 ·rw [List.mem_singleton.1 hu]; exact k
theorem inU_set {us:Row} (h:inU us) {i:Nat} {y:Int} (k:0≤y∧y≤18446744073709551615):inU (us.set i y):=fun u hu=>by
 rcases List.mem_or_eq_of_mem_set hu with hu | rfl
 ·exact h u hu
 ·exact k
theorem us_set {us:Row} {i:Nat} (y:Int) (h:i < us.length):xlay (encL (cI .u64) us) i [.int .u64 y]=encL (cI .u64) (us.set i y):=by
 have:=encL_set (cI_len .u64) us i y h
 rwa [Nat.mul_one] at this
inductive I5 where | a0 | a1 | a2 | a3 | a4
def I5.v:I5→Int | .a0=>0 | .a1=>1 | .a2=>2 | .a3=>3 | .a4=>4
def I5.m:I5→Nat | .a0=>4 | .a1=>3 | .a2=>2 | .a3=>1 | .a4=>0
abbrev ids3:List Src:=[.id 0,.id 1,.id 2]
abbrev ids12:List Src:=[.id 0,.id 1,.id 2,.id 3,.id 4,.id 5,.id 6,.id 7,.id 8,.id 9,.id 10,.id 11]
set_option maxHeartbeats 4000000 in
theorem words_fun (us:Row) (hs:List Int) (b:Int) (q:Bool) (n0 n2:Nat) (e0:us.length=n0) (e2:hs.length=n2) (hu:inU us) (h0:n0≤9223372036854775807) (h2:n2≤9223372036854775807) :
  SFun prog 6 [.slo 0 0 n0 0,.int .u16 b,.slo 1 0 n2 0,.bool q] (mkS [.ro (encL (cI .u64) us),.ro (encL (cI .u8) hs)]) fun l _=>l=.bool true:=by
 subst e0 e2
 refine SFun.mono (SFun.pieces (Q:=fun l _=>l=.bool true) 154 2 awL [8] (by kernel_rfl) rfl rfl rfl ?_) fun l s' ⟨b0,h1,_⟩=>h1
 have nu:=noIds_Iu64 us; have lu:=encIu64_len us
 have nh:=noIds_Iu8 hs; have lh:=encIu8_len hs
 refine SSp.to cxw_ok (n:=40) (g:=[]) 7 7 rfl (σ:={_k:Unit // us.length≤300}) (fun _=>awT b hs.length us.length (xnot q)) (fun _=>awH (encL (cI .u64) us) (encL (cI .u8) hs) (encL (cI .u64) us)) (mkS_le (Nat.le_of_ble_eq_true rfl)) (by kernel_rfl) ?_ fun⟨_,h300⟩=>?_
 ·rw [xw_a]
  have cc:xcut (encL (cI .u64) us) 0 us.length=encL (cI .u64) us:=xcut_all (by omega)
  by_cases c:us.length≤300
  ·(refine zN2 @lu @cc ?_)
   (refine zR ?_)
   exact⟨rfl,⟨(),c⟩,ids3,by(exact zC)⟩
  ·(refine zR ?_)
   exact⟨trivial,rfl,.bool true,[.ro _,.ro _],[.id 0,.id 1],rfl,by(exact zC)⟩
 try dsimp only
 generalize hwx:encL (cI .u64) us=wx at nu
 refine SSp.code_to (g:=[]) 8 rfl (σ:={ws:Row // ws.length≤300∧inU ws}) (fun ws=>awW ws.1.length) (fun ws=>awH wx (encL (cI .u8) hs) (encL (cI .u64) ws.1)) (by kernel_rfl) ?_ fun⟨ws,hw,hwu⟩=>?_
 ·rw [← hwx] at nu ⊢
  refine SCode.ways (t:=29) (q:=xnot q) (by kernel_rfl) rfl (fun hq=>?_) (fun hq=>?_)
  ·refine SCode.of_spine0 ?_
   refine SSp.code_to (g:=[]) 1 rfl (σ:={ws:Row // 64≤ws.length∧ws.length≤300∧inU ws}) (fun ws=>awT b hs.length ws.1.length (xnot q)) (fun ws=>awH (encL (cI .u64) us) (encL (cI .u8) hs) (encL (cI .u64) ws.1)) (by kernel_rfl) ?_ fun⟨ws,w1,w2,w3⟩=>?_
   ·refine SCode.loop_vc cxw_ok (n:=40) (n0:=2) 0 (by kernel_rfl) (σ:={ws:Row // ws.length≤300∧inU ws}) (fun ws=>awT b hs.length ws.1.length (xnot q)) (fun ws=>awH (encL (cI .u64) us) (encL (cI .u8) hs) (encL (cI .u64) ws.1)) (fun ws=>64 - ws.1.length) (fun _=>Nat.le_of_ble_eq_true rfl) (fun⟨ws,w1,w2⟩=>?_) ⟨us,h300,hu⟩
    try dsimp only
    have nw:=noIds_Iu64 ws
    rw [xw_b]
    by_cases c:ws.length < 64
    ·have nw2:=noIds_Iu64 (ws++[xwr .u64 (xar .rem .i64 (ws.length:Int) 5)])
     have L1:(ws++[xwr .u64 (xar .rem .i64 (ws.length:Int) 5)]).length=ws.length+1:=by simp
     (refine zN2 @encIu64_len @encIu64_push ?_)
     (refine zR ?_)
     refine⟨rfl,⟨ws++[xwr .u64 (xar .rem .i64 (ws.length:Int) 5)],by omega,inU_push w2 (wr_u _)⟩,by simp only [L1]; omega,[.id 0,.id 1,.id 4],?_⟩
     try dsimp only
     rw [← L1]
     (exact zC)
    ·(refine zR ?_)
     exact⟨rfl,⟨ws,by omega,w1,w2⟩,ids3,by(exact zC)⟩
   try dsimp only
   have nw:=noIds_Iu64 ws
   refine SSp.to cxw_ok (n:=40) (g:=[]) 1 2 rfl (σ:=Unit) (fun _=>awU b hs.length ws.length 0) (fun _=>awH (encL (cI .u64) us) (encL (cI .u8) hs) (encL (cI .u64) ws)) (mkS_le (Nat.le_of_ble_eq_true rfl)) (by kernel_rfl) ?_ fun _=>?_
   ·rw [xw_c]
    exact⟨rfl,(),ids3,by(exact zC)⟩
   try dsimp only
   refine SSp.code_to (g:=[]) 3 rfl (σ:={p:Nat×Row // 64≤p.2.length∧p.2.length≤300∧inU p.2}) (fun p=>awU b hs.length p.1.2.length p.1.1) (fun p=>awH (encL (cI .u64) us) (encL (cI .u8) hs) (encL (cI .u64) p.1.2)) (by kernel_rfl) ?_ fun⟨⟨i0,vs⟩,v1,v2,v3⟩=>?_
   ·refine SCode.loop_vc cxw_ok (n:=40) (n0:=2) 2 (by kernel_rfl) (σ:={p:Nat×Row // 64≤p.2.length∧p.2.length≤300∧inU p.2}) (fun p=>awU b hs.length p.1.2.length p.1.1) (fun p=>awH (encL (cI .u64) us) (encL (cI .u8) hs) (encL (cI .u64) p.1.2)) (fun p=>300 - p.1.1) (fun _=>Nat.le_of_ble_eq_true rfl) (fun⟨⟨i,ws⟩,w1,w2,w3⟩=>?_) ⟨(0,ws),w1,w2,w3⟩
    dsimp only at w1 w2 w3 ⊢
    have nw:=noIds_Iu64 ws
    rw [xw_d,wd_lss]
    refine ite_way (fun h=>?_) (fun h=>?_)
    ·have e3:xar .add .i64 (i:Int) 1=((i+1:Nat):Int):=inc_i64 h (by omega)
     have hg:=inU_get w3 i
     have eR:0≤xar .rem .u64 (ws.getD i 0) 14∧xar .rem .u64 (ws.getD i 0) 14≤18446744073709551615:=by
      rw [xar_rem _ _ _ (by omega),Int.tmod_eq_emod_of_nonneg hg.1]; omega
     have nw2:=noIds_Iu64 (ws.set i (xar .rem .u64 (ws.getD i 0) 14))
     have L1:(ws.set i (xar .rem .u64 (ws.getD i 0) 14)).length=ws.length:=by simp
     (refine zN4 (u_nth h) @encIu64_len (us_set (xar .rem .u64 (ws.getD i 0) 14) h) @e3 ?_)
     (refine zR ?_)
     refine⟨rfl,⟨(i+1,ws.set i (xar .rem .u64 (ws.getD i 0) 14)),by rw [L1]; exact w1,by rw [L1]; exact w2,inU_set w3 eR⟩,by simp only; omega,ids3,?_⟩
     try dsimp only
     rw [L1]
     (exact zC)
    ·exact⟨rfl,⟨(i,ws),w1,w2,w3⟩,ids3,by(exact zC)⟩
   dsimp only at v1 v2 v3 ⊢
   have nv:=noIds_Iu64 vs
   refine SSp.to cxw_ok (n:=40) (g:=[]) 2 5 rfl (σ:={ws:Row // 64≤ws.length∧ws.length≤300∧inU ws}) (fun ws=>awV hs.length ws.1.length 0) (fun ws=>awH (encL (cI .u64) us) (encL (cI .u8) hs) (encL (cI .u64) ws.1)) (mkS_le (Nat.le_of_ble_eq_true rfl)) (by kernel_rfl) ?_ fun⟨ws,w1,w2,w3⟩=>?_
   ·rw [xw_e]
    have L1:(vs.set 5 (xwr .u64 (xar .rem .u16 b 70))).length=vs.length:=by simp
    have nw2:=noIds_Iu64 (vs.set 5 (xwr .u64 (xar .rem .u16 b 70)))
    (refine zN2 @encIu64_len (us_set (xwr .u64 (xar .rem .u16 b 70)) (i:=5) (by omega:5 < vs.length)) ?_)
    (refine zR ?_)
    refine⟨rfl,⟨vs.set 5 (xwr .u64 (xar .rem .u16 b 70)),by omega,by omega,inU_set v3 (wr_u _)⟩,ids3,?_⟩
    try dsimp only
    rw [L1]
    (exact zC)
   try dsimp only
   refine SSp.code_last (by kernel_rfl) ?_
   refine SCode.loop_vc cxw_ok (n:=40) (n0:=2) 4 (by kernel_rfl) (σ:={p:Nat×Row // 64≤p.2.length∧p.2.length≤300∧inU p.2}) (fun p=>awV hs.length p.1.2.length p.1.1) (fun p=>awH (encL (cI .u64) us) (encL (cI .u8) hs) (encL (cI .u64) p.1.2)) (fun p=>4 - p.1.1) (fun _=>Nat.le_of_ble_eq_true rfl) (fun⟨⟨i,ws⟩,w1,w2,w3⟩=>?_) ⟨(0,ws),w1,w2,w3⟩
   dsimp only at w1 w2 w3 ⊢
   have nw:=noIds_Iu64 ws
   rw [xw_f,wd_lss]
   refine ite_way (fun h=>?_) (fun h=>?_)
   ·by_cases c:i < 4
    ·have e3:xar .add .i64 (i:Int) 1=((i+1:Nat):Int):=inc_i64 c (by omega)
     have e4:xar .add .i64 1 (i:Int)=((i+1:Nat):Int):=by rw [add_i64 (by omega) (by omega)]; omega
     have L1:(ws.set (i+1) (xwr .u64 (xar .rem .u8 hs[i] 70))).length=ws.length:=by simp
     have nw2:=noIds_Iu64 (ws.set (i+1) (xwr .u64 (xar .rem .u8 hs[i] 70)))
     simp only [wd_nat,wd_asV,wd_isV,wd_ix,wd_add,wd_mul,wd_ln,Nat.zero_add,Nat.mul_one,wd_isI,wd_asI,wd_isB,wd_asB,wd_nn,cI_tlen,cB_tlen,cII_tlen,decide_true,cond_true,wd_not_t,wd_not_f,wd_and_t,wd_and_f,encIu8_nth h,lh,encIu64_len,us_set (xwr .u64 (xar .rem .u8 hs[i] 70)) (i:=i+1) (by omega:i+1 < ws.length),e3,e4]
     (refine zR ?_)
     refine⟨rfl,⟨(i+1,ws.set (i+1) (xwr .u64 (xar .rem .u8 hs[i] 70))),by rw [L1]; exact w1,by rw [L1]; exact w2,inU_set w3 (wr_u _)⟩,by simp only; omega,ids3,?_⟩
     try dsimp only
     rw [L1]
     (exact zC)
    ·(refine zR ?_)
     exact⟨rfl,⟨ws,w2,w3⟩,ids3,by(exact zC)⟩
   ·exact⟨rfl,⟨ws,w2,w3⟩,ids3,by(exact zC)⟩
  ·refine SCode.vc cxw_ok (n:=40) (mkS_le (Nat.le_of_ble_eq_true rfl)) ?_
   rw [xw_n]
   exact⟨rfl,⟨us,h300,hu⟩,ids3,by(exact zC)⟩
 try dsimp only
 have nw:=noIds_Iu64 ws
 have o1:okU (encL (cI .u64) ws) ws.length=true:=okU_enc (by omega) hwu
 have eE:bkE (encL (cI .u64) ws)=bkEr ws:=by rw [bkE,decIu64_enc]; rfl
 have eO:bkO (encL (cI .u64) ws)=(bkF ws).isSome:=by rw [bkO,decIu64_enc]
 have eN:bkN (encL (cI .u64) ws)=(bkL ws).length:=by rw [bkN,decIu64_enc]; rfl
 have eC:bkC (encL (cI .u64) ws)=encL cB3 (bkL ws):=by rw [bkC,decIu64_enc]; rfl
 have nL:=noids_b3 (bkL ws)
 have nN:(bkL ws).length≤256:=by
  cases hb:bkF ws with
  | none=>rw [(bk_bad hb).1]; exact Nat.zero_le _
  | some bs=>rw [(bk_good hb).1]; exact bkF_n hb
 have o3:=okE3_enc (xs:=bkL ws) (by omega)
 cases hA:lsAll ws with
 | none =>
   have o2:lbW (encL (cI .u64) ws) ws.length=true:=lbW_iff.2 ⟨ws,rfl,rfl,by omega,hwu,hA⟩
   refine SSp.to cxB_ok (n:=40) (g:=[]) 7 15 rfl (σ:=Unit) (fun _=>awZ) (fun _=>[.ro wx,.ro (encL (cI .u8) hs)]) (mkS_le (Nat.le_of_ble_eq_true rfl)) (by kernel_rfl) ?_ fun _=>?_
   ·rw [xw_h]
    simp only [o1,o2,eE,eO,eN,eC,o3]
    cases hb:bkF ws with
    | none =>
      rw [(bk_bad hb).2.1,show(none:Option (List Blk)).isSome=false from rfl,show xcm .eql 12 0=false from f_eql (by omega),bq_self]
      (refine zR ?_)
      exact⟨rfl,(),[.id 0,.id 1],by(exact zC)⟩
    | some bs =>
      rw [(bk_good hb).2.1,show(some bs:Option (List Blk)).isSome=true from rfl,show xcm .eql 0 0=true from t_eql rfl,bq_self]
      (refine zR ?_)
      exact⟨rfl,(),[.id 0,.id 1],by(exact zC)⟩
   try dsimp only
   refine SSp.code_to (g:=[]) 16 rfl (σ:=Unit) (fun _=>[]) (fun _=>[.ro wx,.ro (encL (cI .u8) hs)]) (by kernel_rfl) ?_ fun _=>?_
   ·refine SCode.loop_vc cxB_ok (n:=40) (n0:=2) 6 (by kernel_rfl) (σ:=Unit) (fun _=>awZ) (fun _=>[.ro wx,.ro (encL (cI .u8) hs)]) (fun _=>0) (fun _=>Nat.le_of_ble_eq_true rfl) (fun _=>?_) ()
    rw [xw_i]
    exact⟨rfl,(),[.id 0,.id 1],by(exact zC)⟩
   refine SSp.last cxG_ok (n:=40) (mkS_le (Nat.le_of_ble_eq_true rfl)) ?_
   rw [xw_z]
   exact⟨trivial,rfl,.bool true,[.ro _,.ro _],[.id 0,.id 1],rfl,by(exact zC)⟩
 | some p =>
   obtain⟨r1,r2,r3,r4⟩:=p
   have o2:lgW (encL (cI .u64) ws) ws.length=true:=lgW_iff.2 ⟨ws,rfl,rfl,by omega,hwu,by rw [hA]; rfl⟩
   have eD:lsD (encL (cI .u64) ws)=(r1,r2,r3,r4):=by rw [lsD,decIu64_enc,hA]; rfl
   have n1:=noIds_Ii64 r1; have n2:=noIds_Ii64 r2; have n3:=noIds_Ii64 r3; have n4:=noIds_Ii64 r4
   have lo:=ls_lens hA
   refine SSp.to cxG_ok (n:=40) (g:=[]) 7 15 rfl (σ:=Unit) (fun _=>awX 0) (fun _=>awY wx (encL (cI .u8) hs) r1.length r2.length r3.length r4.length (encL (cI .i64) r1) (encL (cI .i64) r2) (encL (cI .i64) r3) (encL (cI .i64) r4)) (mkS_le (Nat.le_of_ble_eq_true rfl)) (by kernel_rfl) ?_ fun _=>?_
   ·rw [xw_g]
    simp only [xw_g_b1,o1,o2,eE,eO,eN,eC,o3,ln1,ln2,ln3,ln4,lc1,lc2,lc3,lc4,eD]
    cases hb:bkF ws with
    | none=>rw [lsAll_b hb] at hA; cases hA
    | some bs =>
      rw [(bk_good hb).2.1,show(some bs:Option (List Blk)).isSome=true from rfl,show xcm .eql 0 0=true from t_eql rfl,bq_self]
      (refine zR ?_)
      exact⟨rfl,(),[.id 0,.id 1,.id 5,.id 6,.id 7,.id 8,.id 9,.id 10,.id 11,.id 12,.id 13,.id 14],by(exact zC)⟩
   try dsimp only
   have k1:=okIi64_enc (xs:=r1) (by omega); have k2:=okIi64_enc (xs:=r2) (by omega); have k3:=okIi64_enc (xs:=r3) (by omega); have k4:=okIi64_enc (xs:=r4) (by omega)
   refine SSp.code_to (g:=[]) 16 rfl (σ:=Unit) (fun _=>[]) (fun _=>[.ro wx,.ro (encL (cI .u8) hs)]) (by kernel_rfl) ?_ fun _=>?_
   ·refine SCode.loop_vc cxG_ok (n:=40) (n0:=2) 6 (by kernel_rfl) (σ:=I5) (fun x=>awX x.v) (fun _=>awY wx (encL (cI .u8) hs) r1.length r2.length r3.length r4.length (encL (cI .i64) r1) (encL (cI .i64) r2) (encL (cI .i64) r3) (encL (cI .i64) r4)) (fun x=>x.m) (fun _=>Nat.le_of_ble_eq_true rfl) (fun x=>?_) .a0
    cases x <;> dsimp only [I5.v]
    ·rw [xw_l0,k1,sameIi64_self]
     (refine zR ?_)
     exact⟨rfl,.a1,by simp only [I5.m]; omega,ids12,by dsimp only [I5.v]; (exact zC)⟩
    ·rw [xw_l1,k2,sameIi64_self]
     (refine zR ?_)
     exact⟨rfl,.a2,by simp only [I5.m]; omega,ids12,by dsimp only [I5.v]; (exact zC)⟩
    ·rw [xw_l2,k3,sameIi64_self]
     (refine zR ?_)
     exact⟨rfl,.a3,by simp only [I5.m]; omega,ids12,by dsimp only [I5.v]; (exact zC)⟩
    ·rw [xw_l3,k4,sameIi64_self]
     (refine zR ?_)
     exact⟨rfl,.a4,by simp only [I5.m]; omega,ids12,by dsimp only [I5.v]; (exact zC)⟩
    ·rw [xw_l4]
     exact⟨rfl,(),[.id 0,.id 1],by(exact zC)⟩
   refine SSp.last cxG_ok (n:=40) (mkS_le (Nat.le_of_ble_eq_true rfl)) ?_
   rw [xw_z]
   exact⟨trivial,rfl,.bool true,[.ro _,.ro _],[.id 0,.id 1],rfl,by(exact zC)⟩
end
end Go.Lev
