/- chapter 11: Blocks of the code and of the reference as contracts -/
import Derived.Test.YtkbaelndiimmpaaGreatDoorCW1
import Derived.Test.YtkbaelndiimmpaaGreatDoorLc
import Derived.Test.YtkbaelndiimmpaaGreatDoorChecked
import Derived.KernelRfl
namespace Go.Lev
set_option linter.unusedSimpArgs false
set_option linter.unusedVariables false
open Go.RowKit
open Go.Proofs.Tryz (prog)
set_option maxRecDepth 100000
noncomputable section
theorem cxb_ok:CtrOk prog (ctrOf cxb):=cxl_ok ⟨isclG_ok,islvG_ok,sizeG_ok,osizeG_ok,trivial⟩
def bkL (us:List Int):List Blk:=(bkF us).getD []
def bkEr (us:List Int):Int:=if(bkF us).isSome then 0 else 12
theorem bk_bad {us:List Int} (h:bkF us=none):bkL us=[]∧bkEr us=12∧(bkF us).isSome=false:=by rw [bkL,bkEr,h]; exact⟨rfl,rfl,rfl⟩
theorem bk_good {us:List Int} {bs:List Blk} (h:bkF us=some bs):bkL us=bs∧bkEr us=0∧(bkF us).isSome=true:=by rw [bkL,bkEr,h]; exact⟨rfl,rfl,rfl⟩
def inU (us:List Int):Prop:=∀ u∈us,0≤u∧u≤18446744073709551615
theorem inU_get {us:List Int} (h:inU us) (i:Nat):0≤us.getD i 0∧us.getD i 0≤18446744073709551615:=by
 rw [List.getD_eq_getElem?_getD]
 cases e:us[i]? with
 | none=>simp
 | some v=>exact h v (List.mem_of_getElem? e)
theorem u_nth {us:List Int} {i:Nat} (h:i < us.length):nthD (encL (cI .u64) us) i=.int .u64 (us.getD i 0):=by
 rw [encIu64_nth h,List.getD_eq_getElem?_getD,List.getElem?_eq_getElem h]; rfl
theorem xwr_i {x:Int} (h1 : -9223372036854775808≤x) (h2:x≤9223372036854775807):xwr .i64 x=x:=wrap_i64 h1 h2
theorem hdC_lo {h:Int} (k:h≤4):hdC h=h:=if_pos k
theorem hdC_hi {h:Int} (k:4 < h):hdC h=h - 8:=if_neg (by omega)
theorem szW_hd {h:Int} (k:hdOk h):szW (hdC h)=(hdN h:Int):=by
 have hc:=hdC_b k
 show szV (hdC h)=_
 rw [szV,if_pos hc]; rfl
abbrev blQ (us:List Int) (L:List Blk) (r:LV):LV→List LB→Prop:=fun l b=>l=.tup [.slo 1 0 L.length 0,r]∧b=blH (encL (cI .u64) us) (encL cB3 L)
set_option maxHeartbeats 1000000 in
theorem bl_ok (us:List Int) (hu:inU us) (hn:us.length≤1000000):SFun prog 19 [.slo 0 0 us.length 0] (mkS [.ro (encL (cI .u64) us)]) fun l t=>l=.tup [.slo 1 0 (bkL us).length 0,.int .i64 (bkEr us)]∧t=mkS (blH (encL (cI .u64) us) (encL cB3 (bkL us))):=by
 refine SFun.mono (SFun.pieces (Q:=blQ us (bkL us) (.int .i64 (bkEr us))) 71 1 blL [2,3] (by kernel_rfl) rfl rfl rfl ?_) fun l s' ⟨b0,⟨h1,h2⟩,h3⟩=>⟨h1,by rw [h3,h2]⟩
 have nu:=noIds_Iu64 us; have lu:=encIu64_len us
 refine SSp.to cxb_ok (n:=40) (g:=[]) 8 8 rfl (σ:={e:Nat // 32≤us.length∧us.length≤256∧us.getD 5 0=(e:Int)∧14≤e∧e≤us.length}) (fun e=>blT us.length e.1 0 14) (fun _=>blH (encL (cI .u64) us) []) (mkS_le (Nat.le_of_ble_eq_true rfl)) (by kernel_rfl) ?_ fun⟨e,n1,n2,e5,e1,e2⟩=>?_
 ·rw [bl_a]
  by_cases c:bkF us=none
  ·obtain⟨q1,q2,_⟩:=bk_bad c
   have lq:(bkL us).length=0:=by rw [q1]; rfl
   rw [q1,q2]
   by_cases n1:us.length < 32
   ·(refine zR ?_)
    exact⟨trivial,rfl,_,_,[.id 0,.none],⟨rfl,rfl⟩,by(exact zC)⟩
   by_cases n2:256 < us.length
   ·(refine zR ?_)
    exact⟨trivial,rfl,_,_,[.id 0,.none],⟨rfl,rfl⟩,by(exact zC)⟩
   have u5:=u_nth (us:=us) (i:=5) (by omega)
   have hg:=inU_get hu 5
   have xl:xwr .u64 (us.length:Int)=us.length:=wrap_u64 (by omega) (by omega)
   generalize hh:us.getD 5 0=h5 at *
   by_cases g1:h5 < 14
   ·(refine zN3 @u5 @lu @xl ?_)
    (refine zR ?_)
    exact⟨trivial,rfl,_,_,[.id 0,.none],⟨rfl,rfl⟩,by(exact zC)⟩
   by_cases g2:(us.length:Int) < h5
   ·(refine zN3 @u5 @lu @xl ?_)
    (refine zR ?_)
    exact⟨trivial,rfl,_,_,[.id 0,.none],⟨rfl,rfl⟩,by(exact zC)⟩
   have xh:xwr .i64 h5=((h5.toNat:Nat):Int):=by rw [xwr_i (by omega) (by omega)]; omega
   (refine zN4 @u5 @lu @xl @xh ?_)
   (refine zR ?_)
   exact⟨rfl,⟨h5.toNat,by omega,by omega,by omega,by omega,by omega⟩,[.id 0,.none],by(exact zC)⟩
  ·have hc:32≤us.length∧us.length≤256∧14≤us.getD 5 0∧us.getD 5 0≤us.length:=by
    refine Classical.byContradiction fun k=>c ?_
    rw [bkF,if_neg k]
   obtain⟨n1,n2,g1,g2⟩:=hc
   have u5:=u_nth (us:=us) (i:=5) (by omega)
   have xl:xwr .u64 (us.length:Int)=us.length:=wrap_u64 (by omega) (by omega)
   generalize hh:us.getD 5 0=h5 at *
   have xh:xwr .i64 h5=((h5.toNat:Nat):Int):=by rw [xwr_i (by omega) (by omega)]; omega
   (refine zN4 @u5 @lu @xl @xh ?_)
   (refine zR ?_)
   exact⟨rfl,⟨h5.toNat,by omega,by omega,by omega,by omega,by omega⟩,[.id 0,.none],by(exact zC)⟩
 have eF:bkF us=bkW us e 14 []:=by rw [bkF,if_pos ⟨n1,n2,by omega,by omega⟩,e5]; rfl
 refine SSp.code_to (g:=[]) 9 rfl (σ:={p:Nat×List Blk // bkF us=some p.2}) (fun p=>blT us.length e p.1.2.length p.1.1) (fun p=>blH (encL (cI .u64) us) (encL cB3 p.1.2)) (by kernel_rfl) ?_ fun⟨⟨a0,bs⟩,hb⟩=>?_
 ·refine SCode.loop_vc cxb_ok (n:=40) 0 (by kernel_rfl) (σ:={p:Nat×List Blk // 14≤p.1∧p.1≤e∧bkF us=bkW us e p.1 p.2∧p.2.length≤p.1}) (fun p=>blT us.length e p.1.2.length p.1.1) (fun p=>blH (encL (cI .u64) us) (encL cB3 p.1.2)) (fun p=>e - p.1.1) (fun _=>Nat.le_of_ble_eq_true rfl) (fun⟨⟨a,ac⟩,ha,hae,hw,hk⟩=>?_) ⟨(14,[]),Nat.le_refl _,e1,eF,Nat.zero_le _⟩
  dsimp only at ha hae hw hk ⊢
  have na:=noids_b3 ac; have la:=b3_n ac
  rw [bl_b]; simp only [bl_b_b1]
  by_cases c1:a < e
  ·have ua:=u_nth (us:=us) (i:=a) (by omega)
   have hg:=inU_get hu a
   have bad:¬ (hdOk (us.getD a 0)∧a+1+hdN (us.getD a 0)≤e)→bkF us=none:=fun k=>by rw [hw,bkW_bad c1 k]
   have go:hdOk (us.getD a 0)→a+1+hdN (us.getD a 0)≤e→bkF us=bkW us e (a+1+hdN (us.getD a 0)) (ac++[hdB a (us.getD a 0)]):=fun k1 k2=>by rw [hw,bkW_go c1 k1 k2]
   generalize us.getD a 0=h at *
   by_cases k:hdOk h
   ·have kn:=hdN_b k
    have eS:=szW_hd k
    have eB:xar .add .i64 (a:Int) 1=((a+1:Nat):Int):=inc_i64 c1 (by omega)
    have eA:xar .add .i64 (a:Int) (xar .add .i64 1 (hdN h:Int))=((a+1+hdN h:Nat):Int):=by
     rw [add_i64 (x:=1) (by omega) (by omega),add_i64 (by omega) (by omega)]; omega
    have nb:=noids_b3 (ac++[hdB a h])
    have L1:(ac++[hdB a h]).length=ac.length+1:=by simp
    rcases k with k | k
    ·have eC:=hdC_lo k.2
     have eR:xwr .i64 (xar .rem .u64 h 8)=h:=by
      rw [xar_rem _ _ _ (by omega),show h.tmod 8=h from Int.tmod_eq_of_lt (by omega) (by omega)]; exact xwr_i (by omega) (by omega)
     have eI:icW h=true:=by simp [icW]; omega
     have eL:ilW h=false:=by simp [ilW]; omega
     have eD:decide (8 < h)=false:=by simp; omega
     rw [eC] at eS
     have eP:xcat (xcut (encL cB3 ac) 0 (ac.length * 3)) [.int .i64 ((a+1:Nat):Int),.int .i64 h,.bool false]=encL cB3 (ac++[hdB a h]):=by rw [hdB,eC,eD]; exact b3_push ac (((a+1:Nat):Int),h,false)
     simp only [decide_true,ua,wd_nat,wd_ix,wd_add,wd_asI,wd_isI,Nat.zero_add,Nat.mul_one,wd_ln,lu,eI,wd_not_t,eR,eS,eA,eB,eL,cond_false,cond_true]
     by_cases k2:a+1+hdN h≤e
     ·simp only [wd_mul,eP,la]
      (refine zR ?_)
      refine⟨rfl,⟨(a+1+hdN h,ac++[hdB a h]),by omega,k2,go (.inl k) k2,by rw [L1]; omega⟩,by simp only; omega,[.id 0,.id 4],?_⟩
      dsimp only
      rw [L1]
      (exact zC)
     ·obtain⟨q1,q2,_⟩:=bk_bad (bad fun z=>k2 z.2)
      rw [q1,q2]
      (refine zR ?_)
      exact⟨trivial,rfl,_,_,[.id 0,.none],⟨rfl,rfl⟩,by(exact zC)⟩
    ·have eC:=hdC_hi (h:=h) (by omega)
     have eR:xwr .i64 (xar .rem .u64 h 8)=h - 8:=by
      have:h.tmod 8=h - 8:=by
       have:h=9∨h=10∨h=11∨h=12:=by omega
       rcases this with rfl | rfl | rfl | rfl <;> rfl
      rw [xar_rem _ _ _ (by omega),this]; exact xwr_i (by omega) (by omega)
     have eI:icW h=false:=by simp [icW]; omega
     have eW:lwrap .u64 (h - 8)=h - 8:=wrap_u64 (by omega) (by omega)
     have eL:ilW h=true:=by simp [ilW,eW]; omega
     have eD:decide (8 < h)=true:=by simp; omega
     rw [eC] at eS
     have eP:xcat (xcut (encL cB3 ac) 0 (ac.length * 3)) [.int .i64 ((a+1:Nat):Int),.int .i64 (h - 8),.bool true]=encL cB3 (ac++[hdB a h]):=by rw [hdB,eC,eD]; exact b3_push ac (((a+1:Nat):Int),h - 8,true)
     simp only [decide_true,ua,wd_nat,wd_ix,wd_add,wd_asI,wd_isI,Nat.zero_add,Nat.mul_one,wd_ln,lu,eI,wd_not_f,wd_not_t,eR,eS,eA,eB,eL,cond_false,cond_true]
     by_cases k2:a+1+hdN h≤e
     ·simp only [wd_mul,eP,la]
      (refine zR ?_)
      refine⟨rfl,⟨(a+1+hdN h,ac++[hdB a h]),by omega,k2,go (.inr k) k2,by rw [L1]; omega⟩,by simp only; omega,[.id 0,.id 4],?_⟩
      dsimp only
      rw [L1]
      (exact zC)
     ·obtain⟨q1,q2,_⟩:=bk_bad (bad fun z=>k2 z.2)
      rw [q1,q2]
      (refine zR ?_)
      exact⟨trivial,rfl,_,_,[.id 0,.none],⟨rfl,rfl⟩,by(exact zC)⟩
   ·obtain⟨q1,q2,_⟩:=bk_bad (bad fun z=>k z.1)
    have eI:icW h=false:=by simp [icW]; unfold hdOk at k; omega
    have eL:ilW h=false:=by
     rw [ilW]
     by_cases z:8 < h
     ·have eW:lwrap .u64 (h - 8)=h - 8:=wrap_u64 (by omega) (by omega)
      rw [eW]; simp; unfold hdOk at k; omega
     ·simp [z]
    rw [q1,q2]
    simp only [decide_true,ua,wd_nat,wd_ix,wd_add,wd_asI,wd_isI,Nat.zero_add,Nat.mul_one,wd_ln,lu,eI,eL,wd_not_f,cond_true]
    (refine zR ?_)
    exact⟨trivial,rfl,_,_,[.id 0,.none],⟨rfl,rfl⟩,by(exact zC)⟩
  ·have hb:bkF us=some ac:=by rw [hw,bkW_end c1]
   (refine zR ?_)
   exact⟨rfl,⟨(a,ac),hb⟩,[.id 0,.id 1],by(exact zC)⟩
 dsimp only at hb ⊢
 have nb:=noids_b3 bs
 obtain⟨q1,q2,_⟩:=bk_good hb
 refine SSp.last cxb_ok (n:=40) (mkS_le (Nat.le_of_ble_eq_true rfl)) ?_
 rw [bl_z,q1,q2]
 exact⟨trivial,rfl,_,_,[.id 0,.id 1],⟨rfl,rfl⟩,by(exact zC)⟩
end
end Go.Lev
