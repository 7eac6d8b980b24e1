/- chapter 11: Blocks of the reference; contracts -/
import Derived.Test.YtkbaelndiimmpaaGreatDoorCW2
import Derived.Test.YtkbaelndiimmpaaGreatDoorLc
import Derived.Test.YtkbaelndiimmpaaGreatDoorChecked
import Derived.KernelRfl
namespace Go.Lev
set_option linter.unusedSimpArgs false
set_option linter.unusedVariables false
open Go.RowKit
open Go.Proofs.Tryz (prog)
set_option maxRecDepth 100000
noncomputable section
set_option maxHeartbeats 1000000 in
theorem ol_ok (us:List Int) (hu:inU us) (hn:us.length≤1000000):SFun prog 22 [.slo 0 0 us.length 0] (mkS [.ro (encL (cI .u64) us)]) fun l t=>l=.tup [.slo 1 0 (bkL us).length 0,.bool (bkF us).isSome]∧t=mkS (blH (encL (cI .u64) us) (encL cB3 (bkL us))):=by
 refine SFun.mono (SFun.pieces (Q:=blQ us (bkL us) (.bool (bkF us).isSome)) 77 1 blL [2,3] (by kernel_rfl) rfl rfl rfl ?_) fun l s' ⟨b0,⟨h1,h2⟩,h3⟩=>⟨h1,by rw [h3,h2]⟩
 have nu:=noIds_Iu64 us; have lu:=encIu64_len us
 refine SSp.to cxb_ok (n:=40) (g:=[]) 8 8 rfl (σ:={e:Nat // 32≤us.length∧us.length≤256∧us.getD 5 0=(e:Int)∧14≤e∧e≤us.length}) (fun e=>blT us.length e.1 0 14) (fun _=>blH (encL (cI .u64) us) []) (mkS_le (Nat.le_of_ble_eq_true rfl)) (by kernel_rfl) ?_ fun⟨e,n1,n2,e5,e1,e2⟩=>?_
 ·rw [ol_a]
  by_cases c:bkF us=none
  ·obtain⟨q1,_,q3⟩:=bk_bad c
   have lq:(bkL us).length=0:=by rw [q1]; rfl
   rw [q1,q3]
   by_cases n1:us.length < 32
   ·(refine zR ?_)
    exact⟨trivial,rfl,_,_,[.id 0,.none],⟨rfl,rfl⟩,by(exact zC)⟩
   by_cases n2:256 < us.length
   ·(refine zR ?_)
    exact⟨trivial,rfl,_,_,[.id 0,.none],⟨rfl,rfl⟩,by(exact zC)⟩
   have u5:=u_nth (us:=us) (i:=5) (by omega)
   have hg:=inU_get hu 5
   generalize hh:us.getD 5 0=h5 at *
   by_cases g0:2147483648≤h5
   ·(refine zN2 @u5 @lu ?_)
    (refine zR ?_)
    exact⟨trivial,rfl,_,_,[.id 0,.none],⟨rfl,rfl⟩,by(exact zC)⟩
   have xh:xwr .i64 h5=((h5.toNat:Nat):Int):=by rw [xwr_i (by omega) (by omega)]; omega
   by_cases g1:h5 < 14
   ·(refine zN3 @u5 @lu @xh ?_)
    (refine zR ?_)
    exact⟨trivial,rfl,_,_,[.id 0,.none],⟨rfl,rfl⟩,by(exact zC)⟩
   by_cases g2:(us.length:Int) < h5
   ·(refine zN3 @u5 @lu @xh ?_)
    (refine zR ?_)
    exact⟨trivial,rfl,_,_,[.id 0,.none],⟨rfl,rfl⟩,by(exact zC)⟩
   (refine zN3 @u5 @lu @xh ?_)
   (refine zR ?_)
   exact⟨rfl,⟨h5.toNat,by omega,by omega,by omega,by omega,by omega⟩,[.id 0,.none],by(exact zC)⟩
  ·have hc:32≤us.length∧us.length≤256∧14≤us.getD 5 0∧us.getD 5 0≤us.length:=by
    refine Classical.byContradiction fun k=>c ?_
    rw [bkF,if_neg k]
   obtain⟨n1,n2,g1,g2⟩:=hc
   have u5:=u_nth (us:=us) (i:=5) (by omega)
   generalize hh:us.getD 5 0=h5 at *
   have xh:xwr .i64 h5=((h5.toNat:Nat):Int):=by rw [xwr_i (by omega) (by omega)]; omega
   (refine zN3 @u5 @lu @xh ?_)
   (refine zR ?_)
   exact⟨rfl,⟨h5.toNat,by omega,by omega,by omega,by omega,by omega⟩,[.id 0,.none],by(exact zC)⟩
 have eF:bkF us=bkW us e 14 []:=by rw [bkF,if_pos ⟨n1,n2,by omega,by omega⟩,e5]; rfl
 refine SSp.code_to (g:=[]) 9 rfl (σ:={p:Nat×List Blk // bkF us=some p.2}) (fun p=>blT us.length e p.1.2.length p.1.1) (fun p=>blH (encL (cI .u64) us) (encL cB3 p.1.2)) (by kernel_rfl) ?_ fun⟨⟨a0,bs⟩,hb⟩=>?_
 ·refine SCode.loop_vc cxb_ok (n:=40) 0 (by kernel_rfl) (σ:={p:Nat×List Blk // 14≤p.1∧p.1≤e∧bkF us=bkW us e p.1 p.2∧p.2.length≤p.1}) (fun p=>blT us.length e p.1.2.length p.1.1) (fun p=>blH (encL (cI .u64) us) (encL cB3 p.1.2)) (fun p=>e - p.1.1) (fun _=>Nat.le_of_ble_eq_true rfl) (fun⟨⟨a,ac⟩,ha,hae,hw,hk⟩=>?_) ⟨(14,[]),Nat.le_refl _,e1,eF,Nat.zero_le _⟩
  dsimp only at ha hae hw hk ⊢
  have na:=noids_b3 ac; have la:=b3_n ac
  rw [ol_b]
  by_cases c1:a < e
  ·have ua:=u_nth (us:=us) (i:=a) (by omega)
   have hg:=inU_get hu a
   have bad:¬ (hdOk (us.getD a 0)∧a+1+hdN (us.getD a 0)≤e)→bkF us=none:=fun k=>by rw [hw,bkW_bad c1 k]
   have go:hdOk (us.getD a 0)→a+1+hdN (us.getD a 0)≤e→bkF us=bkW us e (a+1+hdN (us.getD a 0)) (ac++[hdB a (us.getD a 0)]):=fun k1 k2=>by rw [hw,bkW_go c1 k1 k2]
   generalize us.getD a 0=h at *
   by_cases h16:16 < h
   ·obtain⟨q1,_,q3⟩:=bk_bad (bad fun z=>by have:=z.1; unfold hdOk at this; omega)
    rw [q1,q3]
    (refine zN2 @ua @lu ?_)
    (refine zR ?_)
    exact⟨trivial,rfl,_,_,[.id 0,.none],⟨rfl,rfl⟩,by(exact zC)⟩
   have eW:xwr .i64 h=h:=xwr_i (by omega) (by omega)
   have eB:xar .add .i64 (a:Int) 1=((a+1:Nat):Int):=inc_i64 c1 (by omega)
   by_cases h8:8 < h
   ·have eG:xcm .gtr h 8=true:=t_gtr h8
    have e8:xar .sub .i64 h 8=h - 8:=sub_i64 (by omega) (by omega)
    by_cases k:hdOk h
    ·have kn:=hdN_b k
     have eS:=szW_hd k
     have eC:=hdC_hi (h:=h) (by omega)
     have eD:decide (8 < h)=true:=by simp; omega
     have eA:xar .add .i64 ((a+1:Nat):Int) (hdN h:Int)=((a+1+hdN h:Nat):Int):=by rw [add_i64 (by omega) (by omega)]; omega
     have nb:=noids_b3 (ac++[hdB a h])
     have L1:(ac++[hdB a h]).length=ac.length+1:=by simp
     rw [eC] at eS
     have eP:xcat (xcut (encL cB3 ac) 0 (ac.length * 3)) [.int .i64 ((a+1:Nat):Int),.int .i64 (h - 8),.bool true]=encL cB3 (ac++[hdB a h]):=by rw [hdB,eC,eD]; exact b3_push ac (((a+1:Nat):Int),h - 8,true)
     simp only [decide_true,ua,wd_nat,wd_ix,wd_add,wd_asI,wd_isI,Nat.zero_add,Nat.mul_one,wd_ln,lu,eG,eW,e8,eS,eB,eA,cond_true]
     by_cases k2:a+1+hdN h≤e
     ·simp only [wd_mul,eP,la]
      (refine zR ?_)
      refine⟨rfl,⟨(a+1+hdN h,ac++[hdB a h]),by omega,k2,go k k2,by rw [L1]; omega⟩,by simp only; omega,[.id 0,.id 4],?_⟩
      dsimp only
      rw [L1]
      (exact zC)
     ·obtain⟨q1,_,q3⟩:=bk_bad (bad fun z=>k2 z.2)
      rw [q1,q3]
      (refine zR ?_)
      exact⟨trivial,rfl,_,_,[.id 0,.none],⟨rfl,rfl⟩,by(exact zC)⟩
    ·obtain⟨q1,_,q3⟩:=bk_bad (bad fun z=>k z.1)
     have eZ:szW (h - 8)=0:=if_neg (by unfold hdOk at k; omega)
     rw [q1,q3]
     simp only [decide_true,ua,wd_nat,wd_ix,wd_add,wd_asI,wd_isI,Nat.zero_add,Nat.mul_one,wd_ln,lu,eG,eW,e8,eZ,eB,cond_true]
     (refine zR ?_)
     exact⟨trivial,rfl,_,_,[.id 0,.none],⟨rfl,rfl⟩,by(exact zC)⟩
   ·have eG:xcm .gtr h 8=false:=f_gtr (by omega)
    by_cases k:hdOk h
    ·have kn:=hdN_b k
     have eS:=szW_hd k
     have k4:h≤4:=by unfold hdOk at k; omega
     have eC:=hdC_lo k4
     have eD:decide (8 < h)=false:=by simp; omega
     have eA:xar .add .i64 ((a+1:Nat):Int) (hdN h:Int)=((a+1+hdN h:Nat):Int):=by rw [add_i64 (by omega) (by omega)]; omega
     have nb:=noids_b3 (ac++[hdB a h])
     have L1:(ac++[hdB a h]).length=ac.length+1:=by simp
     rw [eC] at eS
     have eP:xcat (xcut (encL cB3 ac) 0 (ac.length * 3)) [.int .i64 ((a+1:Nat):Int),.int .i64 h,.bool false]=encL cB3 (ac++[hdB a h]):=by rw [hdB,eC,eD]; exact b3_push ac (((a+1:Nat):Int),h,false)
     simp only [decide_true,ua,wd_nat,wd_ix,wd_add,wd_asI,wd_isI,Nat.zero_add,Nat.mul_one,wd_ln,lu,eG,eW,eS,eB,eA,cond_false]
     by_cases k2:a+1+hdN h≤e
     ·simp only [wd_mul,eP,la]
      (refine zR ?_)
      refine⟨rfl,⟨(a+1+hdN h,ac++[hdB a h]),by omega,k2,go k k2,by rw [L1]; omega⟩,by simp only; omega,[.id 0,.id 4],?_⟩
      dsimp only
      rw [L1]
      (exact zC)
     ·obtain⟨q1,_,q3⟩:=bk_bad (bad fun z=>k2 z.2)
      rw [q1,q3]
      (refine zR ?_)
      exact⟨trivial,rfl,_,_,[.id 0,.none],⟨rfl,rfl⟩,by(exact zC)⟩
    ·obtain⟨q1,_,q3⟩:=bk_bad (bad fun z=>k z.1)
     have eZ:szW h=0:=if_neg (by unfold hdOk at k; omega)
     rw [q1,q3]
     simp only [decide_true,ua,wd_nat,wd_ix,wd_add,wd_asI,wd_isI,Nat.zero_add,Nat.mul_one,wd_ln,lu,eG,eW,eZ,eB,cond_false]
     (refine zR ?_)
     exact⟨trivial,rfl,_,_,[.id 0,.none],⟨rfl,rfl⟩,by(exact zC)⟩
  ·have hb:bkF us=some ac:=by rw [hw,bkW_end c1]
   (refine zR ?_)
   exact⟨rfl,⟨(a,ac),hb⟩,[.id 0,.id 1],by(exact zC)⟩
 dsimp only at hb ⊢
 have nb:=noids_b3 bs
 obtain⟨q1,_,q3⟩:=bk_good hb
 refine SSp.last cxb_ok (n:=40) (mkS_le (Nat.le_of_ble_eq_true rfl)) ?_
 rw [ol_z,q1,q3]
 exact⟨trivial,rfl,_,_,[.id 0,.id 1],⟨rfl,rfl⟩,by(exact zC)⟩
def okU (wc:List LV) (n:Nat):Bool:=@decide (∃ us:List Int,wc=encL (cI .u64) us∧n=us.length∧us.length≤1000000∧inU us) (Classical.propDecidable _)
theorem okU_iff {wc:List LV} {n:Nat}:okU wc n=true↔∃ us:List Int,wc=encL (cI .u64) us∧n=us.length∧us.length≤1000000∧inU us:=by simp only [okU,decide_eq_true_eq]
theorem okU_enc {us:List Int} (h:us.length≤1000000) (k:inU us):okU (encL (cI .u64) us) us.length=true:=okU_iff.2 ⟨us,rfl,rfl,h,k⟩
theorem okU_no {wc:List LV} {n:Nat} (h:okU wc n=true):noIds wc=true:=by obtain⟨_,e,_⟩:=okU_iff.1 h; rw [e]; exact noIds_Iu64 _
theorem bl_c (wc:List LV) (n:Nat) (k1:okU wc n=true):SFun prog 19 [.slo 0 0 n 0] (mkS [.ro wc]) fun l t=>l=.tup [.slo 1 0 (bkN wc) 0,.int .i64 (bkE wc)]∧t=mkS (blH wc (bkC wc)):=by
 obtain⟨us,rfl,rfl,h1,h2⟩:=okU_iff.1 k1
 simp only [bkN,bkE,bkC,decIu64_enc]
 exact bl_ok us h2 h1
theorem ol_c (wc:List LV) (n:Nat) (k1:okU wc n=true):SFun prog 22 [.slo 0 0 n 0] (mkS [.ro wc]) fun l t=>l=.tup [.slo 1 0 (bkN wc) 0,.bool (bkO wc)]∧t=mkS (blH wc (bkC wc)):=by
 obtain⟨us,rfl,rfl,h1,h2⟩:=okU_iff.1 k1
 simp only [bkN,bkO,bkC,decIu64_enc]
 exact ol_ok us h2 h1
def blkG:Gc:=fun args s=>match args,s.g with
 | [.slo q 0 n 0],[]=>(match s.h.get q with
   | some (.ro wc)=>(match s.lay [q] [.ro wc] [.cells (bkC wc) (some 3)] with
     | some s'=>some ([okU wc n],.tup [.slo s.n 0 (bkN wc) 0,.int .i64 (bkE wc)],s')
     | none=>none)
   | _=>none)
 | _,_=>none
theorem blkG_ok:GOk prog 19 blkG:=by
 intro args s bs l s' hg hb hfr
 unfold blkG at hg
 split at hg
 ·rename_i q n hgl
  split at hg
  ·rename_i wc hb0
   split at hg
   ·rename_i s1 hs1
    simp only [Option.some.injEq,Prod.mk.injEq] at hg
    obtain⟨rfl,rfl,rfl⟩:=hg
    simp only [allT_cons] at hb
    obtain⟨k1,_⟩:=hb
    have no:noIds wc=true:=okU_no k1
    refine SFun.lay (bs:=[.ro wc]) (args0:=[.slo 0 0 n 0]) (bs':=[.ro wc,.cells (bkC wc) (some 3)]) (v0:=.tup [.slo 1 0 (bkN wc) 0,.int .i64 (bkE wc)]) hfr hs1 (by simp)
     ⟨⟨there hfr hb0,_,hb0,lb_ro (by(exact zId)),fun κ hκ=>lb_ro (by(exact zId))⟩,trivial⟩ (by(exact zTl)) ?_
     fun κ h1 h2=>⟨⟨lb_ro (by(exact zId)),lb_same (noids_b3 _),trivial⟩,(lw_tup (lws_cons (lw_slo (h2 0 (by simp))) (lws_cons (lw_int) lws_nil)))⟩
    rw [hgl]; exact(bl_c wc n k1)
   ·cases hg
  ·cases hg
 ·cases hg
def olkG:Gc:=fun args s=>match args,s.g with
 | [.slo q 0 n 0],[]=>(match s.h.get q with
   | some (.ro wc)=>(match s.lay [q] [.ro wc] [.cells (bkC wc) (some 3)] with
     | some s'=>some ([okU wc n],.tup [.slo s.n 0 (bkN wc) 0,.bool (bkO wc)],s')
     | none=>none)
   | _=>none)
 | _,_=>none
theorem olkG_ok:GOk prog 22 olkG:=by
 intro args s bs l s' hg hb hfr
 unfold olkG at hg
 split at hg
 ·rename_i q n hgl
  split at hg
  ·rename_i wc hb0
   split at hg
   ·rename_i s1 hs1
    simp only [Option.some.injEq,Prod.mk.injEq] at hg
    obtain⟨rfl,rfl,rfl⟩:=hg
    simp only [allT_cons] at hb
    obtain⟨k1,_⟩:=hb
    have no:noIds wc=true:=okU_no k1
    refine SFun.lay (bs:=[.ro wc]) (args0:=[.slo 0 0 n 0]) (bs':=[.ro wc,.cells (bkC wc) (some 3)]) (v0:=.tup [.slo 1 0 (bkN wc) 0,.bool (bkO wc)]) hfr hs1 (by simp)
     ⟨⟨there hfr hb0,_,hb0,lb_ro (by(exact zId)),fun κ hκ=>lb_ro (by(exact zId))⟩,trivial⟩ (by(exact zTl)) ?_
     fun κ h1 h2=>⟨⟨lb_ro (by(exact zId)),lb_same (noids_b3 _),trivial⟩,(lw_tup (lws_cons (lw_slo (h2 0 (by simp))) (lws_cons (lw_bool) lws_nil)))⟩
    rw [hgl]; exact(ol_c wc n k1)
   ·cases hg
  ·cases hg
 ·cases hg
end
end Go.Lev
