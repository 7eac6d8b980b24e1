/- chapter 30: Parts of the reference -/
import Derived.Test.YtkbaelndiimmpaaGreatDoorCJ3
import Derived.Test.YtkbaelndiimmpaaGreatDoorLc
import Derived.Test.YtkbaelndiimmpaaGreatDoorChecked
import Derived.KernelRfl
namespace Go.Lev
set_option linter.unusedSimpArgs false
set_option linter.unusedVariables false
open Go.RowKit
open Go.Proofs.Tryz (prog)
set_option maxRecDepth 100000
noncomputable section
theorem cxqG_ok:CtrOk prog (ctrOf cxqG):=cxl_ok ⟨wrapG_ok olkG_ok,wrapG_ok logG_ok,trivial⟩
theorem cxqB_ok:CtrOk prog (ctrOf cxqB):=cxl_ok ⟨wrapG_ok olkG_ok,wrapG_ok lobG_ok,trivial⟩
theorem flat_len {rs:List RR} (hl:∀ x∈rs,x.2.length≤1000):(flat rs).length≤1000 * rs.length:=by
 induction rs with
 | nil=>simp [flat]
 | cons x r ih =>
   have:=ih fun y hy=>hl y (by simp [hy])
   have h2:=hl x (by simp)
   unfold flat at *
   rw [List.flatMap_cons,List.length_append,List.length_map,List.length_cons]
   omega
theorem flat_take_le (rs:List RR) (t:Nat) (x:Int):(flat (rs.take t)).count x≤(flat rs).count x:=by
 have:flat rs=flat (rs.take t)++flat (rs.drop t):=by
  unfold flat; rw [← List.flatMap_append,List.take_append_drop]
 rw [this,List.count_append]; omega
theorem flat_take_len (rs:List RR) (t:Nat):(flat (rs.take t)).length≤(flat rs).length:=by
 have:flat rs=flat (rs.take t)++flat (rs.drop t):=by
  unfold flat; rw [← List.flatMap_append,List.take_append_drop]
 rw [this,List.length_append]; omega
theorem count_take_succ {l:List Int} {j:Nat} (h:j < l.length) (x:Int):(l.take (j+1)).count x=(l.take j).count x+(if l[j]=x then 1 else 0):=by
 rw [List.take_add_one,List.getElem?_eq_getElem h,Option.toList_some,List.count_append,List.count_singleton]
 simp
theorem count_nat {l:List Int} (h:∀ x∈l,0≤x) (p:Nat):(l.map Int.toNat).count p=l.count (p:Int):=by
 induction l with
 | nil=>rfl
 | cons x r ih =>
   rw [List.map_cons,List.count_cons,List.count_cons,ih fun y hy=>h y (by simp [hy])]
   have:=h x (by simp)
   by_cases e:x=(p:Int)
   ·subst e; simp
   ·have:¬ x.toNat=p:=by omega
    simp [e,this]
def nS (bs:List Blk) (R:List Int) (i:Nat):Nat:=((bs.take i).map fun b=>R.count b.1).sum
theorem nS_succ {bs:List Blk} {R:List Int} {i:Nat} (h:i < bs.length):nS bs R (i+1)=nS bs R i+R.count bs[i].1:=by
 unfold nS
 rw [List.take_add_one,List.getElem?_eq_getElem h,Option.toList_some,List.map_append,List.sum_append]; simp
theorem nS_le (bs:List Blk) (R:List Int):∀ i,nS bs R i≤i * R.length:=by
 intro i
 induction i with
 | zero=>simp [nS]
 | succ i ih =>
   by_cases h:i < bs.length
   ·rw [nS_succ h,Nat.succ_mul]
    have:=List.count_le_length (a:=bs[i].1) (l:=R)
    omega
   ·have:nS bs R (i+1)=nS bs R i:=by unfold nS; rw [List.take_of_length_le (by omega),List.take_of_length_le (by omega)]
    rw [this,Nat.succ_mul]; omega
def cnI (F:Row) (R:List Int) (b:Blk):Nat:=(if b.2.2 then 1 else 0)+F.count b.1+R.count b.1
theorem partsR_I {bs:List Blk} {F:Row} {R:List Int} (h1:∀ b∈bs,0≤b.1) (h2:∀ x∈F,0≤x):JP.partsR (bsK bs) (F.map Int.toNat) R=(bs.all (fun b=>decide (cnI F R b=1)) && decide (nS bs R bs.length=R.length)):=by
 have e1:∀ b∈bs,JP.cnt (F.map Int.toNat) R (b.1.toNat,b.2.2)=cnI F R b:=fun b hb=>by
  have e:((b.1.toNat:Nat):Int)=b.1:=by have:=h1 b hb; omega
  unfold JP.cnt cnI
  dsimp only
  rw [count_nat h2,e]
 have e2:((bsK bs).map fun b=>R.count (b.1:Int)).sum=nS bs R bs.length:=by
  unfold nS bsK
  rw [List.take_length,List.map_map]
  congr 1
  refine List.map_congr_left fun b hb=>?_
  have e:((b.1.toNat:Nat):Int)=b.1:=by have:=h1 b hb; omega
  simp only [Function.comp,e]
 unfold JP.partsR
 rw [e2]
 congr 1
 unfold bsK
 rw [List.all_map]
 rw [Bool.eq_iff_iff,List.all_eq_true,List.all_eq_true]
 constructor
 ·intro k b hb
  have:=k b hb
  simp only [Function.comp,e1 b hb] at this
  exact this
 ·intro k b hb
  have:=k b hb
  simp only [Function.comp,e1 b hb]
  exact this
abbrev jd8:List Src:=[.id 0,.id 1,.id 2,.id 3,.id 4,.id 5,.id 6,.id 7]
abbrev qrJ (wx vx:List LV) (bs:List Blk) (r1 r2 r3 r4:Row):List LB:=qrH wx vx (encL cB3 bs) r1.length r2.length r3.length r4.length (encL (cI .i64) r1) (encL (cI .i64) r2) (encL (cI .i64) r3) (encL (cI .i64) r4)
set_option maxHeartbeats 8000000 in
theorem qr_ok (us:Row) (hu:inU us) (hn:us.length≤100000) (rs:List RR) (F:World→Prop) (hs:∃ W,F W) (hF:∀ W,F W→∀ x∈rs,RowArg W x.1 x.2.length (encL cell x.2)) (hk:rs.length≤1000) (hl:∀ x∈rs,x.2.length≤1000) :
  SFun prog 11 [.slo 0 0 us.length 0,.slo 1 0 rs.length 0] (mkS [.ro (encL (cI .u64) us),.ro (encL valC (rs.map (·.1)))] (factG F)) fun l _=>l=.bool (ptV us rs):=by
 refine SFun.mono (SFun.pieces (Q:=fun l _=>l=.bool (ptV us rs)) 128 2 qrL [4] (by kernel_rfl) rfl rfl rfl ?_) fun l s' ⟨b0,h1,_⟩=>h1
 have nu:=noIds_Iu64 us; have lu:=encIu64_len us
 have nv:=noids_val (rs.map (·.1)); have lv:=val_len (rs.map (·.1))
 have o1:okU (encL (cI .u64) us) us.length=true:=okU_iff.2 ⟨us,rfl,rfl,by omega,hu⟩
 have eO:bkO (encL (cI .u64) us)=(bkF us).isSome:=by rw [bkO,decIu64_enc]
 have eN:bkN (encL (cI .u64) us)=(bkL us).length:=by rw [bkN,decIu64_enc]; rfl
 have eC:bkC (encL (cI .u64) us)=encL cB3 (bkL us):=by rw [bkC,decIu64_enc]; rfl
 cases hA:lsAll us with
 | none =>
   have o2:lbW (encL (cI .u64) us) us.length=true:=lbW_iff.2 ⟨us,rfl,rfl,hn,hu,hA⟩
   refine SSp.to cxqB_ok (n:=60) (g:=factG F) 5 5 rfl (σ:=Empty) (fun _=>[]) (fun _=>[]) (mkS_le (Nat.le_of_ble_eq_true rfl)) (by kernel_rfl) ?_ fun z=>nomatch z
   rw [qr_b,ptV_b hA]
   simp only [o1,o2,eO,eN,eC,cond_true]
   cases hb:bkF us with
   | none =>
     rw [show(none:Option (List Blk)).isSome=false from rfl]
     simp only [wd_not_f,cond_true]
     (refine zR ?_)
     exact⟨trivial,rfl,_,[.ro _,.ro _],[.id 0,.id 1],rfl,by(exact zC)⟩
   | some bs =>
     rw [show(some bs:Option (List Blk)).isSome=true from rfl]
     simp only [wd_not_t,wd_not_f,cond_true,cond_false]
     (refine zR ?_)
     exact⟨trivial,rfl,_,[.ro _,.ro _],[.id 0,.id 1],rfl,by(exact zC)⟩
 | some p =>
   obtain⟨r1,r2,r3,r4⟩:=p
   have o2:lgW (encL (cI .u64) us) us.length=true:=lgW_iff.2 ⟨us,rfl,rfl,hn,hu,by rw [hA]; rfl⟩
   have eD:lsD (encL (cI .u64) us)=(r1,r2,r3,r4):=by rw [lsD,decIu64_enc,hA]; rfl
   have n1:=noIds_Ii64 r1; have n2:=noIds_Ii64 r2; have n3:=noIds_Ii64 r3; have n4:=noIds_Ii64 r4
   obtain⟨h1,h2,h3,h4⟩:=ls_lens2 hA
   cases hb:bkF us with
   | none=>rw [lsAll_b hb] at hA; cases hA
   | some bs =>
   obtain⟨wf,hN⟩:=bkF_wf hb
   obtain⟨g1,g2,g3,g4⟩:=ls_of hb hA
   obtain⟨lnd,lin⟩:=lists_ok wf g1 g2 g3 g4
   have eL:=(bk_good hb).1
   have nb:=noids_b3 bs; have lb:=b3_n bs
   have bn:bs.length≤256:=bkF_n hb
   have p1:∀ b∈bs,0≤b.1:=fun b hb=>by have:=wf.at' b hb; omega
   have p2:∀ x∈r1++r2++r3++r4,0≤x:=fun x hx=>by obtain⟨b,q1,q2,_⟩:=lin x hx; rw [← q2]; exact p1 b q1
   have eV:ptV us rs=(bs.all (fun b=>decide (cnI (r1++r2++r3++r4) (flat rs) b=1)) && decide (nS bs (flat rs) bs.length=(flat rs).length)):=by
    rw [ptV_g hb hA,parts_words wf g1 g2 g3 g4,partsR_I p1 p2]
   have hT:=flat_len hl
   have hvl:(rs.map (·.1)).length=rs.length:=by simp
   rw [hvl] at lv
   have hvn:∀ {i:Nat} (h:i < rs.length),nthD (encL valC (rs.map (·.1))) i=.val rs[i].1:=fun {i} h=>by rw [val_nth (by simpa using h)]; simp
   obtain⟨W1,hW1⟩:=hs
   have evl:∀ {i:Nat} (h:i < rs.length),xvl rs[i].1=rs[i].2.length:=fun {i} h=>vlen_row (hF W1 hW1 rs[i] (List.getElem_mem h))
   generalize hNN:us.length=N at *
   generalize encL (cI .u64) us=wx at *
   generalize encL valC (rs.map (·.1))=vx at *
   refine SSp.to cxqG_ok (n:=60) (g:=factG F) 7 7 rfl (σ:=Unit) (fun _=>qrT rs.length bs.length 0 0) (fun _=>qrJ wx vx bs r1 r2 r3 r4) (mkS_le (Nat.le_of_ble_eq_true rfl)) (by kernel_rfl) ?_ fun _=>?_
   ·rw [qr_a]
    simp only [qr_a_b1,o1,o2,eO,eN,eC,eL,hb,ln1,ln2,ln3,ln4,lc1,lc2,lc3,lc4,eD,cond_true]
    rw [show(some bs:Option (List Blk)).isSome=true from rfl]
    simp only [wd_not_t,cond_false]
    (refine zR ?_)
    exact⟨rfl,(),jd8,by(exact zC)⟩
   try dsimp only
   have gen:∀ {F':Row},F'.length≤2000→∀ x,F'.count x≤2000:=fun {F'} h x=>Nat.le_trans List.count_le_length h
   have bT:∀ x,(flat rs).count x≤1000000:=fun x=>Nat.le_trans List.count_le_length (by omega)
   refine SSp.code_to (g:=factG F) 8 rfl (σ:={_u:Unit // bs.all (fun b=>decide (cnI (r1++r2++r3++r4) (flat rs) b=1))=true}) (fun _=>qrT rs.length bs.length (nS bs (flat rs) bs.length) bs.length) (fun _=>qrJ wx vx bs r1 r2 r3 r4) (by kernel_rfl) ?_ fun⟨_,hall⟩=>?_
   ·refine SCode.loop_sp 0 (by kernel_rfl) (σ:={i:Nat // i≤bs.length∧∀ b∈bs.take i,cnI (r1++r2++r3++r4) (flat rs) b=1}) (fun i=>qrT rs.length bs.length (nS bs (flat rs) i.1) i.1) (fun _=>qrJ wx vx bs r1 r2 r3 r4) (fun i=>bs.length - i.1) (fun _=>Nat.le_of_ble_eq_true rfl) (fun⟨i,hi,hc⟩=>?_) ⟨0,Nat.zero_le _,fun b hb=>by simp at hb⟩
    dsimp only
    refine SSp.to cxqG_ok (n:=60) (g:=factG F) 2 2 rfl (σ:={_u:Unit // i < bs.length}) (fun _=>qrT rs.length bs.length (nS bs (flat rs) i) i) (fun _=>qrJ wx vx bs r1 r2 r3 r4) (mkS_le (Nat.le_of_ble_eq_true rfl)) (by kernel_rfl) ?_ fun⟨_,h0⟩=>?_
    ·rw [qr_c,wd_lss]
     refine ite_way (fun h0=>⟨rfl,⟨(),h0⟩,jd8,by(exact zC)⟩) (fun h0=>?_)
     have ei:i=bs.length:=by omega
     subst ei
     rw [List.take_length] at hc
     exact⟨rfl,⟨(),List.all_eq_true.2 fun b hb=>decide_eq_true (hc b hb)⟩,jd8,by(exact zC)⟩
    try dsimp only
    have nle:nS bs (flat rs) i≤256 * 1000000:=Nat.le_trans (nS_le bs (flat rs) i) (Nat.mul_le_mul (by omega) (by omega))
    have hbm:=List.getElem_mem h0
    refine SSp.code_to (g:=factG F) 3 rfl (σ:={_u:Unit // cnI (r1++r2++r3++r4) (flat rs) bs[i]=1}) (fun _=>qrT rs.length bs.length (nS bs (flat rs) (i+1)) i) (fun _=>qrJ wx vx bs r1 r2 r3 r4) (by kernel_rfl) ?_ fun⟨_,hci⟩=>?_
    ·refine SCode.block_sp 1 (by kernel_rfl) ?_
     obtain⟨q0,hq0⟩:∃ q0:Nat,q0=if bs[i].2.2 then 1 else 0:=⟨_,rfl⟩
     have q0b:q0≤1:=by rw [hq0]; split <;> omega
     refine SSp.to cxqG_ok (n:=60) (g:=factG F) 4 4 rfl (σ:=Unit) (fun _=>qrU rs.length bs.length (nS bs (flat rs) i) i q0 0) (fun _=>qrJ wx vx bs r1 r2 r3 r4) (mkS_le (Nat.le_of_ble_eq_true rfl)) (by kernel_rfl) ?_ fun _=>?_
     ·rw [qr_d]
      cases hv:bs[i].2.2 with
      | true =>
        rw [hv,if_pos rfl] at hq0
        subst hq0
        simp only [qr_d_b1,b3_2 h0,lb,hv,wd_nat,wd_ix,wd_add,wd_ln,Nat.zero_add,wd_asB,wd_isB,cond_true]
        (refine zR ?_)
        exact⟨rfl,(),jd8,by(exact zC)⟩
      | false =>
        rw [hv,if_neg (by simp)] at hq0
        subst hq0
        simp only [qr_d_b1,b3_2 h0,lb,hv,wd_nat,wd_ix,wd_add,wd_ln,Nat.zero_add,wd_asB,wd_isB,cond_true,cond_false]
        (refine zR ?_)
        exact⟨rfl,(),jd8,by(exact zC)⟩
     try dsimp only
     obtain⟨n,hnn⟩:∃ n,n=nS bs (flat rs) i:=⟨_,rfl⟩
     have nsu:=nS_succ (R:=flat rs) h0
     rw [← hnn] at nsu nle ⊢
     obtain⟨x,hx⟩:∃ x,x=bs[i].1:=⟨_,rfl⟩
     rw [← hx] at nsu
     have eCn:cnI (r1++r2++r3++r4) (flat rs) bs[i]=q0+(r1++r2++r3++r4).count x+(flat rs).count x:=by unfold cnI; rw [← hx,← hq0]
     refine SSp.code_to (g:=factG F) 5 rfl (σ:=Unit) (fun _=>qrU rs.length bs.length n i (q0+(r1++r2++r3++r4).count x) 4) (fun _=>qrJ wx vx bs r1 r2 r3 r4) (by kernel_rfl) ?_ fun _=>?_
     ·refine SCode.loop_sp 2 (by kernel_rfl) (σ:=J5) (fun p=>qrU rs.length bs.length n i (q0+(p.L r1 r2 r3 r4).count x) p.v) (fun _=>qrJ wx vx bs r1 r2 r3 r4) (fun p=>p.m) (fun _=>Nat.le_of_ble_eq_true rfl) (fun p=>?_) .a0
      cases p <;> dsimp only [J5.v,J5.L]
      ·refine SSp.to cxqG_ok (n:=60) (g:=factG F) 2 2 rfl (σ:=Unit) (fun _=>qrU rs.length bs.length n i (q0+([]:Row).count x) 0) (fun _=>qrJ wx vx bs r1 r2 r3 r4) (mkS_le (Nat.le_of_ble_eq_true rfl)) (by kernel_rfl) ?_ fun _=>?_
       ·rw [qr_o0]
        (refine zR ?_)
        exact⟨rfl,(),jd8,by(exact zC)⟩
       try dsimp only
       refine SSp.code_to (g:=factG F) 3 rfl (σ:=Unit) (fun _=>qrU rs.length bs.length n i (q0+r1.count x) 0) (fun _=>qrJ wx vx bs r1 r2 r3 r4) (by kernel_rfl) ?_ fun _=>?_
       ·refine SCode.block_sp 3 (by kernel_rfl) ?_
        refine SSp.to cxqG_ok (n:=60) (g:=factG F) 1 1 rfl (σ:=Unit) (fun _=>qrV rs.length bs.length n i (q0+([]:Row).count x) 0 0) (fun _=>qrJ wx vx bs r1 r2 r3 r4) (mkS_le (Nat.le_of_ble_eq_true rfl)) (by kernel_rfl) ?_ fun _=>?_
        ·rw [qr_p0]
         exact⟨rfl,(),jd8,by(exact zC)⟩
        try dsimp only
        refine SSp.code_last (by kernel_rfl) ?_
        have lc:=gen (F':=([]:Row)) (by(try simp only [List.length_append,List.length_nil]); omega) x
        have eLL:r1.count x=([]:Row).count x+r1.count x:=by first | exact List.count_append | simp
        rw [eLL]
        generalize ([]:Row).count x=c0 at *
        refine SCode.loop_vc cxqG_ok (n:=60) (n0:=2) 4 (by kernel_rfl) (σ:={j:Nat // j≤r1.length}) (fun j=>qrV rs.length bs.length n i (q0+(c0+(r1.take j.1).count x)) 0 j.1) (fun _=>qrJ wx vx bs r1 r2 r3 r4) (fun j=>r1.length - j.1) (fun _=>Nat.le_of_ble_eq_true rfl) (fun⟨j,hj⟩=>?_) ⟨0,Nat.zero_le _⟩
        dsimp only
        rw [qr_l0,wd_lss]
        refine ite_way (fun h0'=>?_) (fun h0'=>?_)
        ·have e3:xar .add .i64 (j:Int) 1=((j+1:Nat):Int):=inc_i64 h0' (by omega)
         have bj:(r1.take j).count x≤256:=Nat.le_trans List.count_le_length (by simp; omega)
         have eS:=count_take_succ h0' x
         have eA:xar .add .i64 ((q0+(c0+(r1.take j).count x):Nat):Int) 1=((q0+(c0+(r1.take j).count x)+1:Nat):Int):=by rw [add_i64 (by omega) (by omega)]; omega
         simp only [qr_l0_b1,encIi64_nth h0',encIi64_len,b3_0 h0,lb,← hx,e3,eA,wd_nat,wd_ix,wd_mul,wd_add,Nat.zero_add,Nat.mul_one,wd_asI,wd_isI,wd_ln,decide_true,cond_true]
         by_cases ce:r1[j]=x
         ·rw [if_pos ce] at eS
          (refine zR ?_)
          exact⟨rfl,⟨j+1,h0'⟩,by simp only; omega,jd8,by dsimp only; rw [eS]; (exact zC)⟩
         ·rw [if_neg ce] at eS
          (refine zR ?_)
          exact⟨rfl,⟨j+1,h0'⟩,by simp only; omega,jd8,by dsimp only; rw [eS]; (exact zC)⟩
        ·have ej:j=r1.length:=by omega
         subst ej
         rw [List.take_length]
         exact⟨rfl,(),jd8,by(exact zC)⟩
       try dsimp only
       refine zE cxqG_ok ?_
       rw [qr_q0]
       exact⟨rfl,.a1,by simp only [J5.m]; omega,jd8,by dsimp only [J5.v,J5.L]; (exact zC)⟩
      ·refine SSp.to cxqG_ok (n:=60) (g:=factG F) 2 2 rfl (σ:=Unit) (fun _=>qrU rs.length bs.length n i (q0+r1.count x) 1) (fun _=>qrJ wx vx bs r1 r2 r3 r4) (mkS_le (Nat.le_of_ble_eq_true rfl)) (by kernel_rfl) ?_ fun _=>?_
       ·rw [qr_o1]
        (refine zR ?_)
        exact⟨rfl,(),jd8,by(exact zC)⟩
       try dsimp only
       refine SSp.code_to (g:=factG F) 3 rfl (σ:=Unit) (fun _=>qrU rs.length bs.length n i (q0+(r1++r2).count x) 1) (fun _=>qrJ wx vx bs r1 r2 r3 r4) (by kernel_rfl) ?_ fun _=>?_
       ·refine SCode.block_sp 3 (by kernel_rfl) ?_
        refine SSp.to cxqG_ok (n:=60) (g:=factG F) 1 1 rfl (σ:=Unit) (fun _=>qrV rs.length bs.length n i (q0+r1.count x) 1 0) (fun _=>qrJ wx vx bs r1 r2 r3 r4) (mkS_le (Nat.le_of_ble_eq_true rfl)) (by kernel_rfl) ?_ fun _=>?_
        ·rw [qr_p1]
         exact⟨rfl,(),jd8,by(exact zC)⟩
        try dsimp only
        refine SSp.code_last (by kernel_rfl) ?_
        have lc:=gen (F':=r1) (by(try simp only [List.length_append,List.length_nil]); omega) x
        have eLL:(r1++r2).count x=r1.count x+r2.count x:=by first | exact List.count_append | simp
        rw [eLL]
        generalize r1.count x=c0 at *
        refine SCode.loop_vc cxqG_ok (n:=60) (n0:=2) 4 (by kernel_rfl) (σ:={j:Nat // j≤r2.length}) (fun j=>qrV rs.length bs.length n i (q0+(c0+(r2.take j.1).count x)) 1 j.1) (fun _=>qrJ wx vx bs r1 r2 r3 r4) (fun j=>r2.length - j.1) (fun _=>Nat.le_of_ble_eq_true rfl) (fun⟨j,hj⟩=>?_) ⟨0,Nat.zero_le _⟩
        dsimp only
        rw [qr_l1,wd_lss]
        refine ite_way (fun h0'=>?_) (fun h0'=>?_)
        ·have e3:xar .add .i64 (j:Int) 1=((j+1:Nat):Int):=inc_i64 h0' (by omega)
         have bj:(r2.take j).count x≤256:=Nat.le_trans List.count_le_length (by simp; omega)
         have eS:=count_take_succ h0' x
         have eA:xar .add .i64 ((q0+(c0+(r2.take j).count x):Nat):Int) 1=((q0+(c0+(r2.take j).count x)+1:Nat):Int):=by rw [add_i64 (by omega) (by omega)]; omega
         simp only [qr_l1_b1,encIi64_nth h0',encIi64_len,b3_0 h0,lb,← hx,e3,eA,wd_nat,wd_ix,wd_mul,wd_add,Nat.zero_add,Nat.mul_one,wd_asI,wd_isI,wd_ln,decide_true,cond_true]
         by_cases ce:r2[j]=x
         ·rw [if_pos ce] at eS
          (refine zR ?_)
          exact⟨rfl,⟨j+1,h0'⟩,by simp only; omega,jd8,by dsimp only; rw [eS]; (exact zC)⟩
         ·rw [if_neg ce] at eS
          (refine zR ?_)
          exact⟨rfl,⟨j+1,h0'⟩,by simp only; omega,jd8,by dsimp only; rw [eS]; (exact zC)⟩
        ·have ej:j=r2.length:=by omega
         subst ej
         rw [List.take_length]
         exact⟨rfl,(),jd8,by(exact zC)⟩
       try dsimp only
       refine zE cxqG_ok ?_
       rw [qr_q1]
       exact⟨rfl,.a2,by simp only [J5.m]; omega,jd8,by dsimp only [J5.v,J5.L]; (exact zC)⟩
      ·refine SSp.to cxqG_ok (n:=60) (g:=factG F) 2 2 rfl (σ:=Unit) (fun _=>qrU rs.length bs.length n i (q0+(r1++r2).count x) 2) (fun _=>qrJ wx vx bs r1 r2 r3 r4) (mkS_le (Nat.le_of_ble_eq_true rfl)) (by kernel_rfl) ?_ fun _=>?_
       ·rw [qr_o2]
        (refine zR ?_)
        exact⟨rfl,(),jd8,by(exact zC)⟩
       try dsimp only
       refine SSp.code_to (g:=factG F) 3 rfl (σ:=Unit) (fun _=>qrU rs.length bs.length n i (q0+(r1++r2++r3).count x) 2) (fun _=>qrJ wx vx bs r1 r2 r3 r4) (by kernel_rfl) ?_ fun _=>?_
       ·refine SCode.block_sp 3 (by kernel_rfl) ?_
        refine SSp.to cxqG_ok (n:=60) (g:=factG F) 1 1 rfl (σ:=Unit) (fun _=>qrV rs.length bs.length n i (q0+(r1++r2).count x) 2 0) (fun _=>qrJ wx vx bs r1 r2 r3 r4) (mkS_le (Nat.le_of_ble_eq_true rfl)) (by kernel_rfl) ?_ fun _=>?_
        ·rw [qr_p2]
         exact⟨rfl,(),jd8,by(exact zC)⟩
        try dsimp only
        refine SSp.code_last (by kernel_rfl) ?_
        have lc:=gen (F':=(r1++r2)) (by(try simp only [List.length_append,List.length_nil]); omega) x
        have eLL:(r1++r2++r3).count x=(r1++r2).count x+r3.count x:=by first | exact List.count_append | simp
        rw [eLL]
        generalize (r1++r2).count x=c0 at *
        refine SCode.loop_vc cxqG_ok (n:=60) (n0:=2) 4 (by kernel_rfl) (σ:={j:Nat // j≤r3.length}) (fun j=>qrV rs.length bs.length n i (q0+(c0+(r3.take j.1).count x)) 2 j.1) (fun _=>qrJ wx vx bs r1 r2 r3 r4) (fun j=>r3.length - j.1) (fun _=>Nat.le_of_ble_eq_true rfl) (fun⟨j,hj⟩=>?_) ⟨0,Nat.zero_le _⟩
        dsimp only
        rw [qr_l2,wd_lss]
        refine ite_way (fun h0'=>?_) (fun h0'=>?_)
        ·have e3:xar .add .i64 (j:Int) 1=((j+1:Nat):Int):=inc_i64 h0' (by omega)
         have bj:(r3.take j).count x≤256:=Nat.le_trans List.count_le_length (by simp; omega)
         have eS:=count_take_succ h0' x
         have eA:xar .add .i64 ((q0+(c0+(r3.take j).count x):Nat):Int) 1=((q0+(c0+(r3.take j).count x)+1:Nat):Int):=by rw [add_i64 (by omega) (by omega)]; omega
         simp only [qr_l2_b1,encIi64_nth h0',encIi64_len,b3_0 h0,lb,← hx,e3,eA,wd_nat,wd_ix,wd_mul,wd_add,Nat.zero_add,Nat.mul_one,wd_asI,wd_isI,wd_ln,decide_true,cond_true]
         by_cases ce:r3[j]=x
         ·rw [if_pos ce] at eS
          (refine zR ?_)
          exact⟨rfl,⟨j+1,h0'⟩,by simp only; omega,jd8,by dsimp only; rw [eS]; (exact zC)⟩
         ·rw [if_neg ce] at eS
          (refine zR ?_)
          exact⟨rfl,⟨j+1,h0'⟩,by simp only; omega,jd8,by dsimp only; rw [eS]; (exact zC)⟩
        ·have ej:j=r3.length:=by omega
         subst ej
         rw [List.take_length]
         exact⟨rfl,(),jd8,by(exact zC)⟩
       try dsimp only
       refine zE cxqG_ok ?_
       rw [qr_q2]
       exact⟨rfl,.a3,by simp only [J5.m]; omega,jd8,by dsimp only [J5.v,J5.L]; (exact zC)⟩
      ·refine SSp.to cxqG_ok (n:=60) (g:=factG F) 2 2 rfl (σ:=Unit) (fun _=>qrU rs.length bs.length n i (q0+(r1++r2++r3).count x) 3) (fun _=>qrJ wx vx bs r1 r2 r3 r4) (mkS_le (Nat.le_of_ble_eq_true rfl)) (by kernel_rfl) ?_ fun _=>?_
       ·rw [qr_o3]
        (refine zR ?_)
        exact⟨rfl,(),jd8,by(exact zC)⟩
       try dsimp only
       refine SSp.code_to (g:=factG F) 3 rfl (σ:=Unit) (fun _=>qrU rs.length bs.length n i (q0+(r1++r2++r3++r4).count x) 3) (fun _=>qrJ wx vx bs r1 r2 r3 r4) (by kernel_rfl) ?_ fun _=>?_
       ·refine SCode.block_sp 3 (by kernel_rfl) ?_
        refine SSp.to cxqG_ok (n:=60) (g:=factG F) 1 1 rfl (σ:=Unit) (fun _=>qrV rs.length bs.length n i (q0+(r1++r2++r3).count x) 3 0) (fun _=>qrJ wx vx bs r1 r2 r3 r4) (mkS_le (Nat.le_of_ble_eq_true rfl)) (by kernel_rfl) ?_ fun _=>?_
        ·rw [qr_p3]
         exact⟨rfl,(),jd8,by(exact zC)⟩
        try dsimp only
        refine SSp.code_last (by kernel_rfl) ?_
        have lc:=gen (F':=(r1++r2++r3)) (by(try simp only [List.length_append,List.length_nil]); omega) x
        have eLL:(r1++r2++r3++r4).count x=(r1++r2++r3).count x+r4.count x:=by first | exact List.count_append | simp
        rw [eLL]
        generalize (r1++r2++r3).count x=c0 at *
        refine SCode.loop_vc cxqG_ok (n:=60) (n0:=2) 4 (by kernel_rfl) (σ:={j:Nat // j≤r4.length}) (fun j=>qrV rs.length bs.length n i (q0+(c0+(r4.take j.1).count x)) 3 j.1) (fun _=>qrJ wx vx bs r1 r2 r3 r4) (fun j=>r4.length - j.1) (fun _=>Nat.le_of_ble_eq_true rfl) (fun⟨j,hj⟩=>?_) ⟨0,Nat.zero_le _⟩
        dsimp only
        rw [qr_l3,wd_lss]
        refine ite_way (fun h0'=>?_) (fun h0'=>?_)
        ·have e3:xar .add .i64 (j:Int) 1=((j+1:Nat):Int):=inc_i64 h0' (by omega)
         have bj:(r4.take j).count x≤256:=Nat.le_trans List.count_le_length (by simp; omega)
         have eS:=count_take_succ h0' x
         have eA:xar .add .i64 ((q0+(c0+(r4.take j).count x):Nat):Int) 1=((q0+(c0+(r4.take j).count x)+1:Nat):Int):=by rw [add_i64 (by omega) (by omega)]; omega
         simp only [qr_l3_b1,encIi64_nth h0',encIi64_len,b3_0 h0,lb,← hx,e3,eA,wd_nat,wd_ix,wd_mul,wd_add,Nat.zero_add,Nat.mul_one,wd_asI,wd_isI,wd_ln,decide_true,cond_true]
         by_cases ce:r4[j]=x
         ·rw [if_pos ce] at eS
          (refine zR ?_)
          exact⟨rfl,⟨j+1,h0'⟩,by simp only; omega,jd8,by dsimp only; rw [eS]; (exact zC)⟩
         ·rw [if_neg ce] at eS
          (refine zR ?_)
          exact⟨rfl,⟨j+1,h0'⟩,by simp only; omega,jd8,by dsimp only; rw [eS]; (exact zC)⟩
        ·have ej:j=r4.length:=by omega
         subst ej
         rw [List.take_length]
         exact⟨rfl,(),jd8,by(exact zC)⟩
       try dsimp only
       refine zE cxqG_ok ?_
       rw [qr_q3]
       exact⟨rfl,.a4,by simp only [J5.m]; omega,jd8,by dsimp only [J5.v,J5.L]; (exact zC)⟩
      ·refine SSp.to cxqG_ok (n:=60) (g:=factG F) 2 2 rfl (σ:=Empty) (fun _=>[]) (fun _=>[]) (mkS_le (Nat.le_of_ble_eq_true rfl)) (by kernel_rfl) ?_ fun z=>nomatch z
       rw [qr_o4]
       (refine zR ?_)
       exact⟨rfl,(),jd8,by(exact zC)⟩
     try dsimp only
     have lc:=gen (F':=r1++r2++r3++r4) (by simp; omega) x
     generalize (r1++r2++r3++r4).count x=c0 at *
     refine SSp.to cxqG_ok (n:=60) (g:=factG F) 1 6 rfl (σ:=Unit) (fun _=>qrX rs.length bs.length n i (q0+c0) 0) (fun _=>qrJ wx vx bs r1 r2 r3 r4) (mkS_le (Nat.le_of_ble_eq_true rfl)) (by kernel_rfl) ?_ fun _=>?_
     ·rw [qr_e]
      exact⟨rfl,(),jd8,by(exact zC)⟩
     try dsimp only
     refine SSp.code_to (g:=factG F) 7 rfl (σ:=Unit) (fun _=>qrX rs.length bs.length (n+(flat rs).count x) i (q0+c0+(flat rs).count x) rs.length) (fun _=>qrJ wx vx bs r1 r2 r3 r4) (by kernel_rfl) ?_ fun _=>?_
     ·refine SCode.loop_sp 6 (by kernel_rfl) (σ:={t:Nat // t≤rs.length}) (fun t=>qrX rs.length bs.length (n+(flat (rs.take t.1)).count x) i (q0+c0+(flat (rs.take t.1)).count x) t.1) (fun _=>qrJ wx vx bs r1 r2 r3 r4) (fun t=>rs.length - t.1) (fun _=>Nat.le_of_ble_eq_true rfl) (fun⟨t,ht⟩=>?_) ⟨0,Nat.zero_le _⟩
      dsimp only
      refine SSp.to cxqG_ok (n:=60) (g:=factG F) 2 2 rfl (σ:={_u:Unit // t < rs.length}) (fun _=>qrX rs.length bs.length (n+(flat (rs.take t)).count x) i (q0+c0+(flat (rs.take t)).count x) t) (fun _=>qrJ wx vx bs r1 r2 r3 r4) (mkS_le (Nat.le_of_ble_eq_true rfl)) (by kernel_rfl) ?_ fun⟨_,t0⟩=>?_
      ·rw [qr_f,wd_lss]
       refine ite_way (fun h0=>⟨rfl,⟨(),h0⟩,jd8,by(exact zC)⟩) (fun h0=>?_)
       have ei:t=rs.length:=by omega
       subst ei
       rw [List.take_length]
       exact⟨rfl,(),jd8,by(exact zC)⟩
      try dsimp only
      have hsu:=flat_succ t0
      have hfl:=flat_take_le rs t x
      have hbx:=bT x
      refine SSp.code_to (g:=factG F) 3 rfl (σ:=Unit) (fun _=>qrX rs.length bs.length (n+(flat (rs.take (t+1))).count x) i (q0+c0+(flat (rs.take (t+1))).count x) t) (fun _=>qrJ wx vx bs r1 r2 r3 r4) (by kernel_rfl) ?_ fun _=>?_
      ·refine SCode.block_sp 7 (by kernel_rfl) ?_
       refine SSp.to cxqG_ok (n:=60) (g:=factG F) 1 1 rfl (σ:=Unit) (fun _=>qrY rs.length bs.length (n+(flat (rs.take t)).count x) i (q0+c0+(flat (rs.take t)).count x) t 0) (fun _=>qrJ wx vx bs r1 r2 r3 r4) (mkS_le (Nat.le_of_ble_eq_true rfl)) (by kernel_rfl) ?_ fun _=>?_
       ·rw [qr_g]
        exact⟨rfl,(),jd8,by(exact zC)⟩
       try dsimp only
       refine SSp.code_last (by kernel_rfl) ?_
       rw [hsu,List.count_append]
       generalize (flat (rs.take t)).count x=d0 at *
       have hrow:=fun W hW=>hF W hW rs[t] (List.getElem_mem t0)
       have hlen:=hl rs[t] (List.getElem_mem t0)
       have ev:=evl t0
       have hv:=hvn t0
       refine SCode.loop_vc cxqG_ok (n:=60) (n0:=2) 8 (by kernel_rfl) (σ:={j:Nat // j≤rs[t].2.length}) (fun j=>qrY rs.length bs.length (n+(d0+((rs[t].2.map (·.1)).take j.1).count x)) i (q0+c0+(d0+((rs[t].2.map (·.1)).take j.1).count x)) t j.1) (fun _=>qrJ wx vx bs r1 r2 r3 r4) (fun j=>rs[t].2.length - j.1) (fun _=>Nat.le_of_ble_eq_true rfl) (fun⟨j,hj⟩=>?_) ⟨0,Nat.zero_le _⟩
       dsimp only
       rw [qr_h]
       have y1:xle (t+1) rs.length=true:=t_le (by omega)
       simp only [y1,wd_nat,wd_ix,wd_mul,wd_add,wd_ln,Nat.zero_add,Nat.mul_one,hv,wd_asV,wd_isV,ev,lv,cond_true]
       rw [wd_lss]
       refine ite_way (fun g0=>?_) (fun g0=>?_)
       ·have e3:xar .add .i64 (j:Int) 1=((j+1:Nat):Int):=inc_i64 g0 (by omega)
        have bj:((rs[t].2.map (·.1)).take j).count x≤1000:=Nat.le_trans List.count_le_length (by simp; omega)
        have eS:=count_take_succ (l:=rs[t].2.map (·.1)) (j:=j) (by simpa using g0) x
        rw [List.getElem_map] at eS
        obtain⟨k1,k2⟩:=vrow_eq ⟨W1,hW1⟩ hrow (can_c rs[t].2) (k:=j * 2) (m:=1) (by rw [cell_n]; omega) (by omega)
        rw [show((encL cell rs[t].2).drop (j * 2)).take 1=[LV.int .i64 rs[t].2[j].1] by
         have:=congrArg (List.take 1) (cell_cut g0)
         simpa [List.take_take] using this] at k2
        have kx:=vidx_row (hrow W1 hW1) g0
        have z0:nthD [LV.int .i64 rs[t].2[j].1] 0=.int .i64 rs[t].2[j].1:=rfl
        have z2:xln [LV.int .i64 rs[t].2[j].1]=1:=rfl
        have eA:xar .add .i64 ((n+(d0+((rs[t].2.map (·.1)).take j).count x):Nat):Int) 1=((n+(d0+((rs[t].2.map (·.1)).take j).count x)+1:Nat):Int):=by rw [add_i64 (by omega) (by omega)]; omega
        have eB:xar .add .i64 ((q0+c0+(d0+((rs[t].2.map (·.1)).take j).count x):Nat):Int) 1=((q0+c0+(d0+((rs[t].2.map (·.1)).take j).count x)+1:Nat):Int):=by rw [add_i64 (by omega) (by omega)]; omega
        have x1:xle (i+1) bs.length=true:=t_le (by omega)
        have x2:xle (i * 3+1) (bs.length * 3)=true:=t_le (by omega)
        simp only [qr_h_b1,x1,x2,kx,k1,k2,z0,z2,b3_0 h0,lb,← hx,e3,eA,eB,wd_nat,wd_ix,wd_mul,wd_add,Nat.zero_add,Nat.mul_one,wd_asI,wd_isI,wd_ln,decide_true,cond_true]
        by_cases ce:rs[t].2[j].1=x
        ·rw [if_pos ce] at eS
         rw [show xcm .eql rs[t].2[j].1 x=true from t_eql ce]
         simp only [cond_true]
         exact⟨rfl,⟨j+1,g0⟩,by simp only; omega,jd8,by dsimp only; rw [eS]; (exact zC)⟩
        ·rw [if_neg ce] at eS
         rw [show xcm .eql rs[t].2[j].1 x=false from f_eql ce]
         simp only [cond_false]
         exact⟨rfl,⟨j+1,g0⟩,by simp only; omega,jd8,by dsimp only; rw [eS]; (exact zC)⟩
       ·have ej:j=rs[t].2.length:=by omega
        have eT:((rs[t].2.map (·.1)).take j).count x=(rs[t].2.map (·.1)).count x:=by rw [List.take_of_length_le (by simp; omega)]
        exact⟨rfl,(),jd8,by rw [eT]; (exact zC)⟩
      try dsimp only
      refine zE cxqG_ok ?_
      rw [qr_i]
      have e3:xar .add .i64 (t:Int) 1=((t+1:Nat):Int):=inc_i64 t0 (by omega)
      rw [e3]
      exact⟨rfl,⟨t+1,t0⟩,by simp only; omega,jd8,by(exact zC)⟩
     try dsimp only
     have hbx:=bT x
     refine zE cxqG_ok ?_
     rw [qr_j]
     by_cases c1:q0+c0+(flat rs).count x=1
     ·(refine zR ?_)
      exact⟨rfl,⟨(),by rw [eCn]; exact c1⟩,jd8,by rw [nsu]; (exact zC)⟩
     ·have eT:ptV us rs=false:=by
       rw [eV,Bool.and_eq_false_iff]
       refine .inl (List.all_eq_false.2 ⟨bs[i],hbm,?_⟩)
       rw [eCn]; simpa using c1
      rw [eT]
      (refine zR ?_)
      exact⟨trivial,rfl,_,[.ro _,.ro _],[.id 0,.id 1],rfl,by(exact zC)⟩
    try dsimp only
    refine zE cxqG_ok ?_
    rw [qr_k]
    have e3:xar .add .i64 (i:Int) 1=((i+1:Nat):Int):=inc_i64 h0 (by omega)
    rw [e3]
    refine⟨rfl,⟨i+1,h0,fun b hb=>?_⟩,by simp only; omega,jd8,by(exact zC)⟩
    rw [List.take_add_one,List.getElem?_eq_getElem h0,Option.toList_some] at hb
    rcases List.mem_append.1 hb with hb | hb
    ·exact hc b hb
    ·rw [List.mem_singleton.1 hb]; exact hci
   try dsimp only
   have nle:nS bs (flat rs) bs.length≤256 * 1000000:=Nat.le_trans (nS_le bs (flat rs) bs.length) (Nat.mul_le_mul (by omega) (by omega))
   rw [hall,Bool.true_and] at eV
   generalize nS bs (flat rs) bs.length=n at *
   refine SSp.to cxqG_ok (n:=60) (g:=factG F) 2 10 rfl (σ:=Unit) (fun _=>qrZ rs.length n 0 0) (fun _=>qrI wx vx) (mkS_le (Nat.le_of_ble_eq_true rfl)) (by kernel_rfl) ?_ fun _=>?_
   ·rw [qr_l]
    exact⟨rfl,(),[.id 0,.id 1],by(exact zC)⟩
   try dsimp only
   refine SSp.code_to (g:=factG F) 11 rfl (σ:=Unit) (fun _=>qrZ rs.length n (flat rs).length rs.length) (fun _=>qrI wx vx) (by kernel_rfl) ?_ fun _=>?_
   ·refine SCode.loop_vc cxqG_ok (n:=60) (n0:=2) 10 (by kernel_rfl) (σ:={t:Nat // t≤rs.length}) (fun t=>qrZ rs.length n (flat (rs.take t.1)).length t.1) (fun _=>qrI wx vx) (fun t=>rs.length - t.1) (fun _=>Nat.le_of_ble_eq_true rfl) (fun⟨t,ht⟩=>?_) ⟨0,Nat.zero_le _⟩
    dsimp only
    rw [qr_m,wd_lss]
    refine ite_way (fun t0=>?_) (fun t0=>?_)
    ·have e3:xar .add .i64 (t:Int) 1=((t+1:Nat):Int):=inc_i64 t0 (by omega)
     have hlen:=hl rs[t] (List.getElem_mem t0)
     have htl:=flat_take_len rs t
     have eA:xar .add .i64 (((flat (rs.take t)).length:Nat):Int) ((rs[t].2.length:Nat):Int)=(((flat (rs.take (t+1))).length:Nat):Int):=by
      rw [add_i64 (by omega) (by omega),flat_succ t0,List.length_append,List.length_map]; omega
     simp only [wd_nat,wd_ix,wd_mul,wd_add,wd_ln,Nat.zero_add,Nat.mul_one,hvn t0,wd_asV,wd_isV,evl t0,lv,e3,eA,cond_true]
     (refine zR ?_)
     exact⟨rfl,⟨t+1,t0⟩,by simp only; omega,[.id 0,.id 1],by(exact zC)⟩
    ·have et:t=rs.length:=by omega
     subst et
     rw [List.take_length]
     exact⟨rfl,(),[.id 0,.id 1],by(exact zC)⟩
   try dsimp only
   refine zE cxqG_ok ?_
   have eE:xcm .eql (n:Int) ((flat rs).length:Int)=decide (n=(flat rs).length):=by
    by_cases c:n=(flat rs).length
    ·rw [decide_eq_true c]; exact t_eql (by omega)
    ·rw [decide_eq_false c]; exact f_eql (by omega)
   rw [qr_z,eV,eE]
   exact⟨trivial,rfl,_,[.ro _,.ro _],[.id 0,.id 1],rfl,by(exact zC)⟩
end
end Go.Lev
