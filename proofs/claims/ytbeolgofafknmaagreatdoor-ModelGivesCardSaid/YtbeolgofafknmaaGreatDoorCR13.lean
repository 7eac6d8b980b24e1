/- ModelGives (P22.2): for any heap, any blocks that are given back and any room the law returns true; what was there stays as it was. Condition: the listed package-level variables hold what the program's text lays. -/
import Derived.Test.YtbeolgofafknmaaGreatDoorCR12
import Derived.Test.YtbeolgofafknmaaGreatDoorLc
import Derived.Test.YtbeolgofafknmaaGreatDoorChecked
import Derived.KernelRfl
import Derived.Test.YtbeolgofafknmaaGreatDoorLc
import Derived.Test.YtbeolgofafknmaaGreatDoorLc
import Derived.Test.YtbeolgofafknmaaGreatDoorRows
namespace Go.Lev
set_option linter.unusedSimpArgs false
set_option linter.unusedVariables false
open Go.RowKit
open Go.Proofs.Tryz (prog)
set_option maxRecDepth 100000
noncomputable section
theorem runs22:isTrue (lrun prog 20000 5 gtab)=true:=by kernel_rfl
theorem runGt_ok:GOk prog 5 runGt:=by
 intro args s bs l s' hg hb hfr
 unfold runGt at hg
 split at hg
 ·rename_i g0 F0 hgl
  cases hc:(Nat.beq g0 0 && eqbs F0 formsL) with
  | false=>rw [hc] at hg; cases hg
  | true =>
    rw [hc] at hg
    simp only [cond_true,Option.some.injEq,Prod.mk.injEq] at hg
    obtain⟨rfl,rfl,rfl⟩:=hg
    simp only [Bool.and_eq_true] at hc
    obtain⟨c1,c2⟩:=hc
    have e:s.g=gtab:=by rw [hgl,Nat.eq_of_beq_eq_true c1,eqbs_eq c2]; rfl
    refine SFun.closed (fuel:=20000) hfr ?_
    rw [e]; exact runs22
 ·cases hg
theorem cxmg_ok:CtrOk prog (ctrOf cxmg):=cxl_ok ⟨runGt_ok,wrapG_ok wdsG_ok,wrapG_ok giG_ok,wrapG_ok riG_ok,wrapG_ok sameCCellG_ok,wrapG_ok sameIu64G_ok,trivial⟩
theorem gvl_GL {sz:Nat} {most:Int} {ks:CL} (m:most≤96) (hk:vrC ks):∀ (bs:List Int) {d:Nat} {cs:List LV},GL most 0 d cs→GL most 0 (gvl sz most (encL cell ks) bs d cs).2.1 (gvl sz most (encL cell ks) bs d cs).2.2
 | [],_,_,h=>h
 | a::r,d,cs,h=>by
   rw [gvl]; split
   ·exact gvl_GL m hk r (h.gv (sz:=sz) m (h.okv hk) a)
   ·exact h
theorem mg_GL {ws:List LV} {n:Nat} (h:okUm ws n=true) (most0:Int) (bs:List Int):GL (xmn (xmx most0 0) 96) 0 (gvQ ws n most0 bs).2.1 (gvQ ws n most0 bs).2.2:=by
 obtain⟨us,rfl,rfl,_,hu⟩:=okUm_iff.1 h
 have ekc:vhC (encL (cI .u64) us) us.length=encL cell (vhS us (szF us.length - 1)):=by rw [vhC,decIu64_enc]
 rw [gvQ,ekc]
 have hmost:xmn (xmx most0 0) 96≤96∧0≤xmn (xmx most0 0) 96:=by simp only [wd_mn,wd_mx]; split <;> (try split) <;> omega
 exact gvl_GL hmost.1 (vrC_vs hu _) bs ⟨[([],[])],rfl,rfl,ok1,by simp [totC]; omega,by simp [totF],fun l hl=>by simp at hl; subst hl; intro x hx; cases hx⟩
theorem mgC_okC {ws:List LV} {n:Nat} (h:okUm ws n=true) (bc:List LV) (most0:Int):okC (mgC ws bc n most0) (mgM ws bc n most0)=true:=by
 rw [mgC,mgM]; split
 ·exact(lc_ok (mg_GL h most0 _)).1
 ·exact okC_enc (xs:=[]) (by simp)
theorem mgW_okI {ws:List LV} {n:Nat} (h:okUm ws n=true) (bc:List LV) (most0:Int):okIu64 (mgW ws bc n most0) (szQ n)=true:=by
 obtain⟨us,rfl,rfl,_,hu⟩:=okUm_iff.1 h
 have key:∀ cs,okIu64 (apC (encL (cI .u64) us) cs) (szQ us.length)=true:=fun cs=>by
  rw [apC,decIu64_enc]
  have hl:(apN (hw0 us) (decC cs)).length=szQ us.length:=by rw [apN_len,hw0_len]
  have:=okIu64_enc (xs:=apN (hw0 us) (decC cs)) (by have:=(szQ_b us.length).2; omega)
  rwa [hl] at this
 rw [mgW]; split <;> exact key _
theorem cmI_self (x:Int):xcm .eql x x=true:=by rw [xcm_eql]; simp
theorem wr_u (x:Int):0≤xwr .u64 x:=by
 show 0≤lwrap .u64 x
 rw [lwrap_eq,show IntKind.u64.wrap x=x % 18446744073709551616 by simp [IntKind.wrap,IntKind.bits,IntKind.signed]]
 omega
abbrev MvA:Type:={q:Nat×Int×List Int // q.1≤8∧q.2.2.length≤q.1}
abbrev MvB (k:Nat):Type:={q:Nat×List Int // q.1≤k∧q.2.length≤q.1}
set_option maxHeartbeats 1000000 in
theorem gives_fun (n y:Int) (bs ls:List Int) (m k:Nat) (em:bs.length=m) (ek:ls.length=k) (hm:m≤9223372036854775807) (hk:k≤9223372036854775807) (hb:∀ y∈bs,0≤y∧y≤255):SFun prog 3 [.int .i64 n,.slo 0 0 m 0,.slo 1 0 k 0,.int .u8 y] (mkS [.ro (encL (cI .u8) bs),.ro (encL (cI .u8) ls)] gtab) fun l _=>l=.bool true:=by
 subst em ek
 refine SFun.mono (SFun.pieces (Q:=fun l _=>l=.bool true) 101 2 mvL [8] (by kernel_rfl) rfl rfl rfl ?_) fun l s' ⟨b0,h1,_⟩=>h1
 have nb:=noIds_Iu8 bs; have lb:=encIu8_len bs
 have nl:=noIds_Iu8 ls; have ll:=encIu8_len ls
 have k1:okB8 (encL (cI .u8) bs) bs.length=true:=okB8_iff.2 ⟨bs,rfl,rfl,hm,hb⟩
 have eN:wdN n=wdK n:=rfl
 have eC:wdC n (encL (cI .u8) bs)=encL (cI .u64) (wdF (wdK n) bs):=by rw [wdC,decIu8_enc]
 obtain⟨N1,N2,_⟩:=wdK_b n
 have hL:=wdF_len (wdK n) bs
 have hU:=inU_wdF (N:=wdK n) bs (by omega)
 generalize wdK n=N at *
 generalize wdF N bs=ws at *
 have nw:=noIds_Iu64 ws; have lw:=encIu64_len ws
 have o1:okUm (encL (cI .u64) ws) N=true:=okUm_iff.2 ⟨ws,rfl,hL.symm,by omega,hU⟩
 by_cases c20:20 < ls.length
 ·refine SSp.to cxmg_ok (n:=60) (g:=gtab) 9 9 rfl (σ:=Empty) (fun _=>[]) (fun _=>[]) (mkS_le (Nat.le_of_ble_eq_true rfl)) (by kernel_rfl) ?_ fun q=>nomatch q
  rw [mv_a]
  (refine zR ?_)
  exact⟨trivial,rfl,.bool true,[.ro _,.ro _],[.id 0,.id 1],rfl,by(exact zC)⟩
 refine SSp.to cxmg_ok (n:=60) (g:=gtab) 9 9 rfl (σ:=Unit) (fun _=>mvT1 bs.length ls.length y N 0 14 0) (fun _=>mvH1 (encL (cI .u8) bs) (encL (cI .u8) ls) (encL (cI .u64) ws) []) (mkS_le (Nat.le_of_ble_eq_true rfl)) (by kernel_rfl) ?_ fun _=>?_
 ·rw [mv_a]
  simp only [k1,eN,eC,cond_true]
  (refine zR ?_)
  exact⟨rfl,(),[.id 0,.id 1,.id 2,.none],by(exact zC)⟩
 try dsimp only
 refine SSp.code_to (g:=gtab) 10 rfl (σ:=MvA) (fun q=>mvT1 bs.length ls.length y N q.1.2.2.length q.1.2.1 q.1.1) (fun q=>mvH1 (encL (cI .u8) bs) (encL (cI .u8) ls) (encL (cI .u64) ws) (encL (cI .i64) q.1.2.2)) (by kernel_rfl) ?_ fun⟨⟨i,a,gs⟩,h1,h2⟩=>?_
 ·refine SCode.loop_vc cxmg_ok (n:=60) 0 (by kernel_rfl) (σ:=MvA) (fun q=>mvT1 bs.length ls.length y N q.1.2.2.length q.1.2.1 q.1.1) (fun q=>mvH1 (encL (cI .u8) bs) (encL (cI .u8) ls) (encL (cI .u64) ws) (encL (cI .i64) q.1.2.2)) (fun q=>8 - q.1.1) (fun _=>Nat.le_of_ble_eq_true rfl) (fun⟨⟨i,a,gs⟩,h1,h2⟩=>?_) ⟨(0,14,[]),by simp,by simp⟩
  dsimp only at h1 h2 ⊢
  have ng:=noIds_Ii64 gs; have lg:=encIi64_len gs
  rw [mv_b]
  by_cases c1:i < bs.length
  ·by_cases c2:i < 8
   ·have c3:5 < ws.length:=by omega
    have e5:=encIu64_nth c3
    cases c4:xcm .lss a (xwr .i64 ws[5]) with
    | true =>
      have e3:xar .add .i64 (i:Int) 1=((i+1:Nat):Int):=inc_i64 c1 (by omega)
      have n1:xnn (xwr .u64 (xar .add .u8 (xar .rem .u8 bs[i] 3) 1))=true:=t_nn (wr_u _)
      cases c5:xcm .eql (xar .and .u8 bs[i] 48) 0 with
      | true =>
        have np:=noIds_Ii64 (gs++[xar .add .i64 a 1])
        have ep:=encIi64_push gs (xar .add .i64 a 1)
        simp only [wd_nat,wd_asV,wd_isV,wd_ix,wd_add,wd_mul,wd_ln,Nat.zero_add,Nat.mul_one,wd_isI,wd_asI,wd_isB,wd_asB,wd_nn,cI_tlen,cB_tlen,cII_tlen,decide_true,cond_true,wd_not_t,wd_not_f,wd_and_t,wd_and_f,encIu8_nth c1,e5,c4,c5,lb,lw,hL,lg,e3,n1,ep]
        (refine zR ?_)
        exact⟨rfl,⟨(i+1,_,gs++[xar .add .i64 a 1]),by simp only; omega,by simp; omega⟩,by simp only; omega,[.id 0,.id 1,.id 2,.id 5],by(try dsimp only); simp only [List.length_append,List.length_cons,List.length_nil,Nat.zero_add]; (exact zC)⟩
      | false =>
        simp only [wd_nat,wd_asV,wd_isV,wd_ix,wd_add,wd_mul,wd_ln,Nat.zero_add,Nat.mul_one,wd_isI,wd_asI,wd_isB,wd_asB,wd_nn,cI_tlen,cB_tlen,cII_tlen,decide_true,cond_true,wd_not_t,wd_not_f,wd_and_t,wd_and_f,encIu8_nth c1,e5,c4,c5,lb,lw,hL,lg,e3,n1]
        (refine zR ?_)
        exact⟨rfl,⟨(i+1,_,gs),by simp only; omega,by simp only; omega⟩,by simp only; omega,[.id 0,.id 1,.id 2,.id 3],by(exact zC)⟩
    | false =>
      simp only [wd_nat,wd_asV,wd_isV,wd_ix,wd_add,wd_mul,wd_ln,Nat.zero_add,Nat.mul_one,wd_isI,wd_asI,wd_isB,wd_asB,wd_nn,cI_tlen,cB_tlen,cII_tlen,decide_true,cond_true,wd_not_t,wd_not_f,wd_and_t,wd_and_f,e5,c4,lw,hL]
      (refine zR ?_)
      exact⟨rfl,⟨(i,a,gs),h1,h2⟩,[.id 0,.id 1,.id 2,.id 3],by(exact zC)⟩
   ·(refine zR ?_)
    exact⟨rfl,⟨(i,a,gs),h1,h2⟩,[.id 0,.id 1,.id 2,.id 3],by(exact zC)⟩
  ·(refine zR ?_)
   exact⟨rfl,⟨(i,a,gs),h1,h2⟩,[.id 0,.id 1,.id 2,.id 3],by(exact zC)⟩
 dsimp only at h1 h2 ⊢
 have ng:=noIds_Ii64 gs; have lg:=encIi64_len gs
 refine SSp.to cxmg_ok (n:=60) (g:=gtab) 1 11 rfl (σ:=Unit) (fun _=>mvT2 ls.length y N gs.length 0 0) (fun _=>mvH2 (encL (cI .u8) bs) (encL (cI .u8) ls) (encL (cI .u64) ws) (encL (cI .i64) gs) []) (mkS_le (Nat.le_of_ble_eq_true rfl)) (by kernel_rfl) ?_ fun _=>?_
 ·rw [mv_c]
  exact⟨rfl,(),[.id 0,.id 1,.id 2,.id 3,.none],by(exact zC)⟩
 try dsimp only
 refine SSp.code_to (g:=gtab) 12 rfl (σ:=MvB ls.length) (fun q=>mvT2 ls.length y N gs.length q.1.2.length q.1.1) (fun q=>mvH2 (encL (cI .u8) bs) (encL (cI .u8) ls) (encL (cI .u64) ws) (encL (cI .i64) gs) (encL (cI .i64) q.1.2)) (by kernel_rfl) ?_ fun⟨⟨j,rs⟩,h3,h4⟩=>?_
 ·refine SCode.loop_vc cxmg_ok (n:=60) 2 (by kernel_rfl) (σ:=MvB ls.length) (fun q=>mvT2 ls.length y N gs.length q.1.2.length q.1.1) (fun q=>mvH2 (encL (cI .u8) bs) (encL (cI .u8) ls) (encL (cI .u64) ws) (encL (cI .i64) gs) (encL (cI .i64) q.1.2)) (fun q=>ls.length - q.1.1) (fun _=>Nat.le_of_ble_eq_true rfl) (fun⟨⟨j,rs⟩,h3,h4⟩=>?_) ⟨(0,[]),by simp,by simp⟩
  dsimp only at h3 h4 ⊢
  have nr:=noIds_Ii64 rs; have lr:=encIi64_len rs
  rw [mv_d]
  by_cases c1:j < ls.length
  ·have e3:xar .add .i64 (j:Int) 1=((j+1:Nat):Int):=inc_i64 c1 (by omega)
   have np:=noIds_Ii64 (rs++[xwr .i64 ls[j]])
   have ep:=encIi64_push rs (xwr .i64 ls[j])
   (refine zN5 (encIu8_nth c1) @ll @lr @e3 @ep ?_)
   (refine zR ?_)
   exact⟨rfl,⟨(j+1,rs++[xwr .i64 ls[j]]),by simp only; omega,by simp; omega⟩,by simp only; omega,[.id 0,.id 1,.id 2,.id 3,.id 6],by(try dsimp only); simp only [List.length_append,List.length_cons,List.length_nil,Nat.zero_add]; (exact zC)⟩
  ·(refine zR ?_)
   exact⟨rfl,⟨(j,rs),h3,h4⟩,[.id 0,.id 1,.id 2,.id 3,.id 4],by(exact zC)⟩
 dsimp only at h3 h4 ⊢
 have o2:okIi64 (encL (cI .i64) gs) gs.length=true:=okIi64_enc (by omega)
 have o3:okIi64 (encL (cI .i64) rs) rs.length=true:=okIi64_enc (by omega)
 have q1:∀ bc most0,okC (mgC (encL (cI .u64) ws) bc N most0) (mgM (encL (cI .u64) ws) bc N most0)=true:=mgC_okC o1
 have q2:∀ bc most0,okIu64 (mgW (encL (cI .u64) ws) bc N most0) (szQ N)=true:=mgW_okI o1
 have q3:∀ k cs,sameCCell k k cs cs=true:=fun _ _=>sameCCell_self _ _
 have q4:∀ k cs,sameIu64 k k cs cs=true:=fun _ _=>sameIu64_self _ _
 refine zE cxmg_ok ?_
 rw [mv_z]; simp only [mv_z_b1,mv_z_b2]
 simp only [o1,o2,o3,q1,q2,q3,q4,cmI_self,cond_true]
 exact⟨trivial,rfl,.bool true,[.ro _,.ro _],[.id 0,.id 1],rfl,by(exact zC)⟩
theorem gives_any {H:Type} {enc:TypeId×Value→H} {W:World} {a1:Option Addr} {len1 cap1:Nat} {d1:DataW H} {p1:List MemPlace} {a2:Option Addr} {len2 cap2:Nat} {d2:DataW H} {p2:List MemPlace} (hg:Gl W gtab) (n y:Int)
  (h1:DataW.Trod enc prog W 0 (fun _=>true) true 22 (.slice a1 len1 cap1) d1 p1) (h2:DataW.Trod enc prog W 0 (fun _=>true) true 22 (.slice a2 len2 cap2) d2 p2) :
  Calls prog 3 #[.int .i64 n,.slice a1 len1 cap1,.slice a2 len2 cap2,.int .u8 y] W fun e W'=>e=.returned (.bool true)∧Below W.heap.size W W':=by
 obtain⟨bs,e1,n1,q1,r1⟩:=row_arg (f:=cI .u8) (ok:=fun y:Int=>IntKind.u8.min≤y∧y≤IntKind.u8.max) (cI_len .u8) (by omega) Go.Proofs.Tryz.underlying22 (by kernel_rfl) h1 (el_int Go.Proofs.Tryz.underlying5)
 obtain⟨ls,e2,n2,q2,r2⟩:=row_arg (f:=cI .u8) (ok:=fun y:Int=>IntKind.u8.min≤y∧y≤IntKind.u8.max) (cI_len .u8) (by omega) Go.Proofs.Tryz.underlying22 (by kernel_rfl) h2 (el_int Go.Proofs.Tryz.underlying5)
 refine SFun.top (rows:=[(.slice a1 len1 cap1,len1,encL (cI .u8) bs),(.slice a2 len2 cap2,len2,encL (cI .u8) ls)]) (g:=gtab) (us:=[.int .i64 n,.slice a1 len1 cap1,.slice a2 len2 cap2,.int .u8 y]) ⟨r1,r2,trivial⟩ hg (fun r h=>?_) (gives_fun n y bs ls len1 len2 e1 e2 n1 n2 (fun y hy=>q1 y hy))
 simp only [VRs,VR]
 exact⟨_,_,rfl,rfl,_,_,rfl,h 0 _ _ _ rfl,_,_,rfl,h 1 _ _ _ rfl,_,_,rfl,rfl,rfl⟩
end
end Go.Lev
