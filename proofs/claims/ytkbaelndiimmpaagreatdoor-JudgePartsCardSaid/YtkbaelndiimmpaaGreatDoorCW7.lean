/- chapter 11: Lists of the reference -/
import Derived.Test.YtkbaelndiimmpaaGreatDoorCW6
import Derived.Test.YtkbaelndiimmpaaGreatDoorLc
import Derived.Test.YtkbaelndiimmpaaGreatDoorChecked
import Derived.KernelRfl
namespace Go.Lev
set_option linter.unusedSimpArgs false
set_option linter.unusedVariables false
open Go.RowKit
open Go.Proofs.Tryz (prog)
set_option maxRecDepth 100000
noncomputable section
def fB (bs:List Blk) (c a:Int):Bool:=decide (isBk bs c a)
def fN (bs:List Blk) (c a:Int) (l:Row):Bool:=decide (isBk bs c a∧a ∉ l)
theorem isBk_take {bs:List Blk} {i:Nat} (h:i < bs.length) {c a:Int}:isBk (bs.take (i+1)) c a↔isBk (bs.take i) c a∨(bs[i].1=a∧bs[i].2.1=c∧bs[i].2.2=false):=by
 have e:bs.take (i+1)=bs.take i++[bs[i]]:=by rw [List.take_add_one,List.getElem?_eq_getElem h]; rfl
 rw [e]
 constructor
 ·rintro⟨b,b1,b2⟩
  rcases List.mem_append.1 b1 with b1 | b1
  ·exact .inl ⟨b,b1,b2⟩
  ·rw [List.mem_singleton.1 b1] at b2; exact .inr b2
 ·rintro(⟨b,b1,b2⟩ | b2)
  ·exact⟨b,List.mem_append.2 (.inl b1),b2⟩
  ·exact⟨bs[i],List.mem_append.2 (.inr (List.mem_singleton.2 rfl)),b2⟩
theorem fB_t {bs:List Blk} {i:Nat} (h:i < bs.length) {c a:Int} (k:bs[i].1=a∧bs[i].2.1=c∧bs[i].2.2=false):fB (bs.take (i+1)) c a=true:=decide_eq_true (isBk_take h |>.2 (.inr k))
theorem fB_f {bs:List Blk} {i:Nat} (h:i < bs.length) {c a:Int} (k:¬ (bs[i].1=a∧bs[i].2.1=c∧bs[i].2.2=false)):fB (bs.take (i+1)) c a=fB (bs.take i) c a:=by
 have:isBk (bs.take (i+1)) c a↔isBk (bs.take i) c a:=(isBk_take h).trans ⟨fun z=>z.elim id fun z=>absurd z k,.inl⟩
 simp only [fB,this]
theorem fB_0 {bs:List Blk} {c a:Int}:fB (bs.take 0) c a=false:=decide_eq_false fun⟨_,b1,_⟩=>by cases b1
theorem fN_0 {bs:List Blk} {c a:Int} {l:Row}:fN bs c a (l.take 0)=fB bs c a:=by simp [fN,fB]
theorem mem_take' {l:Row} {i:Nat} (h:i < l.length) {a:Int}:a∈l.take (i+1)↔a∈l.take i∨l[i]=a:=by
 have e:l.take (i+1)=l.take i++[l[i]]:=by rw [List.take_add_one,List.getElem?_eq_getElem h]; rfl
 rw [e,List.mem_append,List.mem_singleton]
 exact or_congr Iff.rfl eq_comm
theorem fN_f {bs:List Blk} {l:Row} {i:Nat} (h:i < l.length) {c a:Int} (k:l[i]=a):fN bs c a (l.take (i+1))=false:=decide_eq_false fun z=>z.2 ((mem_take' h).2 (.inr k))
theorem fN_t {bs:List Blk} {l:Row} {i:Nat} (h:i < l.length) {c a:Int} (k:¬ l[i]=a):fN bs c a (l.take (i+1))=fN bs c a (l.take i):=by
 have:a∈l.take (i+1)↔a∈l.take i:=(mem_take' h).trans ⟨fun z=>z.elim id fun z=>absurd z k,.inl⟩
 simp only [fN,this]
inductive OC where
 | c1:OC
 | c2 (r1:Row):OC
 | c3 (r1 r2:Row):OC
 | c4 (r1 r2 r3:Row):OC
 | c5 (r1 r2 r3 r4:Row):OC
def OC.T (n k:Nat):OC→List (Nat×LV)
 | .c1=>qT1 n k
 | .c2 _=>qT2 n k
 | .c3 _ _=>qT3 n k
 | .c4 _ _ _=>qT4 n k
 | .c5 _ _ _ _=>qT5 n k
def OC.H (wc bc:List LV):OC→List LB
 | .c1=>qH1 wc bc
 | .c2 r1=>qH2 wc bc (encL (cI .i64) r1) r1.length
 | .c3 r1 r2=>qH3 wc bc (encL (cI .i64) r1) (encL (cI .i64) r2) r1.length r2.length
 | .c4 r1 r2 r3=>qH4 wc bc (encL (cI .i64) r1) (encL (cI .i64) r2) (encL (cI .i64) r3) r1.length r2.length r3.length
 | .c5 r1 r2 r3 r4=>qH5 wc bc (encL (cI .i64) r1) (encL (cI .i64) r2) (encL (cI .i64) r3) (encL (cI .i64) r4) r1.length r2.length r3.length r4.length
def OC.ok (us:Row) (bs:List Blk):OC→Prop
 | .c1=>True
 | .c2 r1=>ls1 us bs 1=some r1∧True
 | .c3 r1 r2=>ls1 us bs 1=some r1∧ls1 us bs 2=some r2∧True
 | .c4 r1 r2 r3=>ls1 us bs 1=some r1∧ls1 us bs 2=some r2∧ls1 us bs 3=some r3∧True
 | .c5 r1 r2 r3 r4=>ls1 us bs 1=some r1∧ls1 us bs 2=some r2∧ls1 us bs 3=some r3∧ls1 us bs 4=some r4∧True
def OC.m:OC→Nat
 | .c1=>4
 | .c2 _=>3
 | .c3 _ _=>2
 | .c4 _ _ _=>1
 | .c5 _ _ _ _=>0
def olQ (us:Row) (l:LV) (b:List LB):Prop:=(lsAll us=none∧l=.tup [.nils,.bool false]∧b=[.ro (encL (cI .u64) us)])∨∃ r1 r2 r3 r4,lsAll us=some (r1,r2,r3,r4)∧l=.tup [.slo 1 0 4 0,.bool true]∧b=rw5 us r1 r2 r3 r4
set_option maxHeartbeats 4000000 in
theorem oll_ok (us:Row) (hu:inU us) (hn:us.length≤100000):SFun prog 17 [.slo 0 0 us.length 0] (mkS [.ro (encL (cI .u64) us)]) fun l t=>∃ b,olQ us l b∧t=mkS b:=by
 refine SFun.mono (SFun.pieces (Q:=olQ us) 93 1 qlL [2,3] (by kernel_rfl) rfl rfl rfl ?_) fun l s' ⟨b0,h1,h3⟩=>⟨b0,h1,h3⟩
 have nu:=noIds_Iu64 us; have lu:=encIu64_len us
 have ok0:=okU_enc (by omega:us.length≤1000000) hu
 refine SSp.to cxs_ok (n:=40) (g:=[]) 6 6 rfl (σ:={bs:List Blk // bkF us=some bs}) (fun bs=>qT1 us.length bs.1.length) (fun bs=>qH1 (encL (cI .u64) us) (encL cB3 bs.1)) (mkS_le (Nat.le_of_ble_eq_true rfl)) (by kernel_rfl) ?_ fun⟨bs,hb⟩=>?_
 ·rw [ql_a,ok0,show bkO (encL (cI .u64) us)=(bkF us).isSome by rw [bkO,decIu64_enc],show bkN (encL (cI .u64) us)=(bkL us).length by rw [bkN,decIu64_enc]; rfl,show bkC (encL (cI .u64) us)=encL cB3 (bkL us) by rw [bkC,decIu64_enc]; rfl]
  cases hb:bkF us with
  | none =>
    rw [show(none:Option (List Blk)).isSome=false from rfl]
    (refine zR ?_)
    exact⟨trivial,rfl,_,_,[.id 0],.inl ⟨lsAll_b hb,rfl,rfl⟩,by(exact zC)⟩
  | some bs =>
    obtain⟨q1,q2,_⟩:=bk_good hb
    have nb:=noids_b3 bs
    rw [q1,show(some bs:Option (List Blk)).isSome=true from rfl]
    (refine zR ?_)
    exact⟨rfl,⟨bs,rfl⟩,[.id 0,.id 1,.none],by(exact zC)⟩
 try dsimp only
 have nb:=noids_b3 bs; have lb:=b3_n bs
 obtain⟨wf,h256⟩:=bkF_wf hb
 have bn:=bkF_n hb
 have n32:32≤us.length:=by unfold bkF at hb; split at hb; rename_i z; exact z.1; cases hb
 refine SSp.code_to (g:=[]) 7 rfl (σ:={p:Row×Row×Row×Row // lsAll us=some p}) (fun _=>qT5 us.length bs.length) (fun p=>qH5 (encL (cI .u64) us) (encL cB3 bs) (encL (cI .i64) p.1.1) (encL (cI .i64) p.1.2.1) (encL (cI .i64) p.1.2.2.1) (encL (cI .i64) p.1.2.2.2) p.1.1.length p.1.2.1.length p.1.2.2.1.length p.1.2.2.2.length) (by kernel_rfl) ?_ fun⟨⟨r1,r2,r3,r4⟩,hA⟩=>?_
 ·refine SCode.loop_sp 0 (by kernel_rfl) (n0:=1) (σ:={x:OC // x.ok us bs}) (fun x=>x.1.T us.length bs.length) (fun x=>x.1.H (encL (cI .u64) us) (encL cB3 bs)) (fun x=>x.1.m) (fun⟨x,_⟩=>by cases x <;> exact Nat.le_of_ble_eq_true rfl) (fun⟨x,hx⟩=>?_) ⟨.c1,trivial⟩
  dsimp only at hx ⊢
  cases x with
  | c1 =>
    dsimp only [OC.T,OC.H,OC.ok] at hx ⊢
    refine SSp.to cxs_ok (n:=40) (g:=[]) 2 2 rfl (σ:=Unit) (fun _=>qT1 us.length bs.length) (fun _=>qH1 (encL (cI .u64) us) (encL cB3 bs)  ) (mkS_le (Nat.le_of_ble_eq_true rfl)) (by kernel_rfl) ?_ fun _=>?_
    ·rw [ql_d1]
     exact⟨rfl,(),[.id 0,.id 1,.id 2],by(exact zC)⟩
    try dsimp only
    refine SSp.code_to (g:=[]) 3 rfl (σ:={r:Row // ls1 us bs 1=some r}) (fun _=>qZ1 us.length bs.length) (fun r=>qH2 (encL (cI .u64) us) (encL cB3 bs) (encL (cI .i64) r.1) r.1.length) (by kernel_rfl) ?_ fun⟨r1,h1⟩=>?_
    ·refine SCode.block_sp 1 (by kernel_rfl) ?_
     refine SSp.to cxs_ok (n:=40) (g:=[]) 2 2 rfl (σ:=Unit) (fun _=>qV1 us.length bs.length 0 (us.getD 1 0)) (fun _=>qR1 (encL (cI .u64) us) (encL cB3 bs)  [] ) (mkS_le (Nat.le_of_ble_eq_true rfl)) (by kernel_rfl) ?_ fun _=>?_
     ·rw [ql_e1]
      (refine zN2 (u_nth (us:=us) (i:=1) (by omega)) @lu ?_)
      (refine zR ?_)
      exact⟨rfl,(),[.id 0,.id 1,.id 2,.none],by(exact zC)⟩
     try dsimp only
     refine SSp.code_to (g:=[]) 3 rfl (σ:={r:Row // ls1 us bs 1=some r}) (fun r=>qU1 us.length bs.length r.1.length) (fun r=>qR1 (encL (cI .u64) us) (encL cB3 bs)  (encL (cI .i64) r.1) ) (by kernel_rfl) ?_ fun⟨row,hr⟩=>?_
     ·refine SCode.loop_sp 2 (by kernel_rfl) (n0:=1) (σ:={p:Int×Row // 0≤p.1∧p.1≤18446744073709551615∧lsW us bs 1 p.1 p.2=ls1 us bs 1∧p.2.length+lft bs p.2≤bs.length∧∀ x∈p.2,isBk bs 1 x}) (fun p=>qV1 us.length bs.length p.1.2.length p.1.1) (fun p=>qR1 (encL (cI .u64) us) (encL cB3 bs)  (encL (cI .i64) p.1.2) ) (fun p=>lft bs p.1.2) (fun _=>Nat.le_of_ble_eq_true rfl) (fun⟨⟨a,row⟩,a0,am,hw,hl,hz⟩=>?_) ⟨(us.getD 1 0,[]),(inU_get hu 1).1,(inU_get hu 1).2,rfl,by have:=lft_0 bs; simpa using this,fun x hx=>by cases hx⟩
      dsimp only at a0 am hw hl hz ⊢
      have nr:=noIds_Ii64 row
      have re:∀ i (h:i < row.length),0≤row[i]∧row[i] < us.length:=fun i h=>by
       obtain⟨b,b1,b2,_⟩:=hz _ (List.getElem_mem h)
       have:=wf.at' b b1; omega
      refine SSp.to cxs_ok (n:=40) (g:=[]) 2 2 rfl (σ:={_k:Unit // a≠0}) (fun _=>qV1 us.length bs.length row.length a) (fun _=>qR1 (encL (cI .u64) us) (encL cB3 bs)  (encL (cI .i64) row) ) (mkS_le (Nat.le_of_ble_eq_true rfl)) (by kernel_rfl) ?_ fun⟨_,ha⟩=>?_
      ·rw [ql_f1]
       by_cases e:a=0
       ·subst e
        have hr:ls1 us bs 1=some row:=by rw [← hw,lsW_end]
        (refine zR ?_)
        exact⟨rfl,⟨row,hr⟩,[.id 0,.id 1,.id 2,.id 3],by(exact zC)⟩
       ·(refine zR ?_)
        exact⟨rfl,⟨(),e⟩,[.id 0,.id 1,.id 2,.id 3],by(exact zC)⟩
      try dsimp only
      refine SSp.code_last (by kernel_rfl) ?_
      refine SCode.block_sp 3 (by kernel_rfl) ?_
      refine SSp.to cxs_ok (n:=40) (g:=[]) 2 2 rfl (σ:=Unit) (fun _=>qX1 us.length bs.length row.length a (fB (bs.take 0) 1 a) 0) (fun _=>qR1 (encL (cI .u64) us) (encL cB3 bs)  (encL (cI .i64) row) ) (mkS_le (Nat.le_of_ble_eq_true rfl)) (by kernel_rfl) ?_ fun _=>?_
      ·simp only [fB_0]
       rw [ql_g1]
       exact⟨rfl,(),[.id 0,.id 1,.id 2,.id 3],by(exact zC)⟩
      try dsimp only
      refine SSp.code_to (g:=[]) 3 rfl (σ:=Unit) (fun _=>qW1 us.length bs.length row.length a (fB bs 1 a)) (fun _=>qR1 (encL (cI .u64) us) (encL cB3 bs)  (encL (cI .i64) row) ) (by kernel_rfl) ?_ fun _=>?_
      ·refine SCode.loop_vc cxs_ok (n:=40) (n0:=1) 4 (by kernel_rfl) (σ:={i:Nat // i≤bs.length}) (fun i=>qX1 us.length bs.length row.length a (fB (bs.take i.1) 1 a) i.1) (fun _=>qR1 (encL (cI .u64) us) (encL cB3 bs)  (encL (cI .i64) row) ) (fun i=>bs.length - i.1) (fun _=>Nat.le_of_ble_eq_true rfl) (fun⟨i,hi⟩=>?_) ⟨0,Nat.zero_le _⟩
       try dsimp only
       rw [ql_h1,wd_lss]
       refine ite_way (fun h0=>?_) (fun h0=>?_)
       ·have e3:xar .add .i64 (i:Int) 1=((i+1:Nat):Int):=inc_i64 h0 (by omega)
        have hm:=wf.at' bs[i] (List.getElem_mem h0)
        have xw:xwr .u64 bs[i].1=bs[i].1:=wrap_u64 (by omega) (by omega)
        by_cases k1:bs[i].1=a
        ·rw [k1] at xw
         by_cases k2:bs[i].2.1=1
         ·cases k3:bs[i].2.2 with
          | false =>
            have eT:=fB_t h0 ⟨k1,k2,k3⟩
            simp only [wd_nat,wd_asV,wd_isV,wd_ix,wd_add,wd_mul,wd_ln,Nat.zero_add,Nat.mul_one,wd_isI,wd_asI,wd_isB,wd_asB,wd_nn,cI_tlen,cB_tlen,cII_tlen,decide_true,cond_true,wd_not_t,wd_not_f,wd_and_t,wd_and_f,b3_0 h0,b3_1 h0,b3_2 h0,lb,e3,xw,k1,k2,k3]
            (refine zR ?_)
            exact⟨rfl,⟨i+1,h0⟩,by simp only; omega,[.id 0,.id 1,.id 2,.id 3],by dsimp only; rw [eT]; (exact zC)⟩
          | true =>
            have eT:=fB_f (c:=1) (a:=a) h0 fun z=>by rw [k3] at z; cases z.2.2
            simp only [wd_nat,wd_asV,wd_isV,wd_ix,wd_add,wd_mul,wd_ln,Nat.zero_add,Nat.mul_one,wd_isI,wd_asI,wd_isB,wd_asB,wd_nn,cI_tlen,cB_tlen,cII_tlen,decide_true,cond_true,wd_not_t,wd_not_f,wd_and_t,wd_and_f,b3_0 h0,b3_1 h0,b3_2 h0,lb,e3,xw,k1,k2,k3]
            (refine zR ?_)
            exact⟨rfl,⟨i+1,h0⟩,by simp only; omega,[.id 0,.id 1,.id 2,.id 3],by dsimp only; rw [eT]; (exact zC)⟩
         ·have eT:=fB_f (c:=1) (a:=a) h0 fun z=>k2 z.2.1
          simp only [wd_nat,wd_asV,wd_isV,wd_ix,wd_add,wd_mul,wd_ln,Nat.zero_add,Nat.mul_one,wd_isI,wd_asI,wd_isB,wd_asB,wd_nn,cI_tlen,cB_tlen,cII_tlen,decide_true,cond_true,wd_not_t,wd_not_f,wd_and_t,wd_and_f,b3_0 h0,b3_1 h0,lb,e3,xw,k1]
          (refine zR ?_)
          exact⟨rfl,⟨i+1,h0⟩,by simp only; omega,[.id 0,.id 1,.id 2,.id 3],by dsimp only; rw [eT]; (exact zC)⟩
        ·have eT:=fB_f (c:=1) (a:=a) h0 fun z=>k1 z.1
         (refine zN4 (b3_0 h0) @lb @e3 @xw ?_)
         (refine zR ?_)
         exact⟨rfl,⟨i+1,h0⟩,by simp only; omega,[.id 0,.id 1,.id 2,.id 3],by dsimp only; rw [eT]; (exact zC)⟩
       ·rw [List.take_of_length_le (by omega:bs.length≤i)]
        exact⟨rfl,(),[.id 0,.id 1,.id 2,.id 3],by(exact zC)⟩
      try dsimp only
      refine SSp.to cxs_ok (n:=40) (g:=[]) 1 4 rfl (σ:=Unit) (fun _=>qY1 us.length bs.length row.length a (fN bs 1 a (row.take 0)) 0) (fun _=>qR1 (encL (cI .u64) us) (encL cB3 bs)  (encL (cI .i64) row) ) (mkS_le (Nat.le_of_ble_eq_true rfl)) (by kernel_rfl) ?_ fun _=>?_
      ·simp only [fN_0]
       rw [ql_i1]
       exact⟨rfl,(),[.id 0,.id 1,.id 2,.id 3],by(exact zC)⟩
      try dsimp only
      refine SSp.code_to (g:=[]) 5 rfl (σ:=Unit) (fun _=>qW1 us.length bs.length row.length a (fN bs 1 a row)) (fun _=>qR1 (encL (cI .u64) us) (encL cB3 bs)  (encL (cI .i64) row) ) (by kernel_rfl) ?_ fun _=>?_
      ·refine SCode.loop_vc cxs_ok (n:=40) (n0:=1) 6 (by kernel_rfl) (σ:={i:Nat // i≤row.length}) (fun i=>qY1 us.length bs.length row.length a (fN bs 1 a (row.take i.1)) i.1) (fun _=>qR1 (encL (cI .u64) us) (encL cB3 bs)  (encL (cI .i64) row) ) (fun i=>row.length - i.1) (fun _=>Nat.le_of_ble_eq_true rfl) (fun⟨i,hi⟩=>?_) ⟨0,Nat.zero_le _⟩
       try dsimp only
       rw [ql_j1,wd_lss]
       refine ite_way (fun h0=>?_) (fun h0=>?_)
       ·have e3:xar .add .i64 (i:Int) 1=((i+1:Nat):Int):=inc_i64 h0 (by omega)
        have hm:=re i h0
        have xw:xwr .u64 row[i]=row[i]:=wrap_u64 (by omega) (by omega)
        by_cases k1:row[i]=a
        ·rw [k1] at xw
         have eT:=fN_f (bs:=bs) (c:=1) h0 k1
         simp only [wd_nat,wd_asV,wd_isV,wd_ix,wd_add,wd_mul,wd_ln,Nat.zero_add,Nat.mul_one,wd_isI,wd_asI,wd_isB,wd_asB,wd_nn,cI_tlen,cB_tlen,cII_tlen,decide_true,cond_true,wd_not_t,wd_not_f,wd_and_t,wd_and_f,encIi64_nth h0,encIi64_len,e3,xw,k1]
         (refine zR ?_)
         exact⟨rfl,⟨i+1,h0⟩,by simp only; omega,[.id 0,.id 1,.id 2,.id 3],by dsimp only; rw [eT]; (exact zC)⟩
        ·have eT:=fN_t (bs:=bs) (c:=1) h0 k1
         (refine zN4 (encIi64_nth h0) @encIi64_len @e3 @xw ?_)
         (refine zR ?_)
         exact⟨rfl,⟨i+1,h0⟩,by simp only; omega,[.id 0,.id 1,.id 2,.id 3],by dsimp only; rw [eT]; (exact zC)⟩
       ·rw [List.take_of_length_le (by omega:row.length≤i)]
        exact⟨rfl,(),[.id 0,.id 1,.id 2,.id 3],by(exact zC)⟩
      try dsimp only
      refine SSp.last cxs_ok (n:=40) (mkS_le (Nat.le_of_ble_eq_true rfl)) ?_
      rw [ql_k1]
      by_cases k:isBk bs 1 a∧a ∉ row
      ·have eT:fN bs 1 a row=true:=decide_eq_true k
       have lt:=lft_lt k.1 k.2
       have hw2:=lsW_go (ws:=us) ha k
       have hz2:∀ x∈row++[a],isBk bs 1 x:=fun x hx=>by rcases List.mem_append.1 hx with hx | hx; exact hz x hx; rw [List.mem_singleton.1 hx]; exact k.1
       obtain⟨m,rfl⟩:∃ m:Nat,a=(m:Int):=⟨a.toNat,by omega⟩
       have hm:m < us.length:=by obtain⟨b,b1,b2,_⟩:=k.1; have:=(wf.at' b b1).2; omega
       have xi:xwr .i64 (m:Int)=m:=xwr_i (by omega) (by omega)
       have nr2:=noIds_Ii64 (row++[(m:Int)])
       have L1:(row++[(m:Int)]).length=row.length+1:=by simp
       rw [eT]
       (refine zN5 @xi @encIi64_len @encIi64_push (u_nth hm) @lu ?_)
       (refine zR ?_)
       refine⟨rfl,⟨(us.getD m 0,row++[(m:Int)]),(inU_get hu m).1,(inU_get hu m).2,by rw [← hw,hw2]; rfl,by simp only [L1]; omega,hz2⟩,lt,[.id 0,.id 1,.id 2,.id 5],?_⟩
       try dsimp only
       rw [← L1]
       (exact zC)
      ·have eT:fN bs 1 a row=false:=decide_eq_false k
       have hno:lsAll us=none:=lsAll_1 hb (by rw [← hw,lsW_bad ha k])
       rw [eT]
       (refine zR ?_)
       exact⟨trivial,rfl,_,_,[.id 0],.inl ⟨hno,rfl,rfl⟩,by(exact zC)⟩
     try dsimp only
     have nr:=noIds_Ii64 row
     refine SSp.last cxs_ok (n:=40) (mkS_le (Nat.le_of_ble_eq_true rfl)) ?_
     rw [ql_l1]
     exact⟨rfl,⟨row,hr⟩,[.id 0,.id 1,.id 5,.id 3],by(exact zC)⟩
    try dsimp only
    have nn:=noIds_Ii64 r1
    refine SSp.last cxs_ok (n:=40) (mkS_le (Nat.le_of_ble_eq_true rfl)) ?_
    rw [ql_m1]
    refine⟨rfl,⟨.c2 r1,h1,trivial⟩,by simp only [OC.m]; omega,[.id 0,.id 1,.id 2,.id 3],?_⟩
    dsimp only [OC.T,OC.H]
    (exact zC)
  | c2 r1 =>
    dsimp only [OC.T,OC.H,OC.ok] at hx ⊢
    obtain⟨h1,_⟩:=hx
    have n1:=noIds_Ii64 r1
    refine SSp.to cxs_ok (n:=40) (g:=[]) 2 2 rfl (σ:=Unit) (fun _=>qT2 us.length bs.length) (fun _=>qH2 (encL (cI .u64) us) (encL cB3 bs) (encL (cI .i64) r1) r1.length) (mkS_le (Nat.le_of_ble_eq_true rfl)) (by kernel_rfl) ?_ fun _=>?_
    ·rw [ql_d2]
     exact⟨rfl,(),[.id 0,.id 1,.id 2,.id 3],by(exact zC)⟩
    try dsimp only
    refine SSp.code_to (g:=[]) 3 rfl (σ:={r:Row // ls1 us bs 2=some r}) (fun _=>qZ2 us.length bs.length) (fun r=>qH3 (encL (cI .u64) us) (encL cB3 bs) (encL (cI .i64) r1) (encL (cI .i64) r.1) r1.length r.1.length) (by kernel_rfl) ?_ fun⟨r2,h2⟩=>?_
    ·refine SCode.block_sp 1 (by kernel_rfl) ?_
     refine SSp.to cxs_ok (n:=40) (g:=[]) 2 2 rfl (σ:=Unit) (fun _=>qV2 us.length bs.length 0 (us.getD 2 0)) (fun _=>qR2 (encL (cI .u64) us) (encL cB3 bs) (encL (cI .i64) r1) [] r1.length) (mkS_le (Nat.le_of_ble_eq_true rfl)) (by kernel_rfl) ?_ fun _=>?_
     ·rw [ql_e2]
      (refine zN2 (u_nth (us:=us) (i:=2) (by omega)) @lu ?_)
      (refine zR ?_)
      exact⟨rfl,(),[.id 0,.id 1,.id 2,.id 3,.none],by(exact zC)⟩
     try dsimp only
     refine SSp.code_to (g:=[]) 3 rfl (σ:={r:Row // ls1 us bs 2=some r}) (fun r=>qU2 us.length bs.length r.1.length) (fun r=>qR2 (encL (cI .u64) us) (encL cB3 bs) (encL (cI .i64) r1) (encL (cI .i64) r.1) r1.length) (by kernel_rfl) ?_ fun⟨row,hr⟩=>?_
     ·refine SCode.loop_sp 2 (by kernel_rfl) (n0:=1) (σ:={p:Int×Row // 0≤p.1∧p.1≤18446744073709551615∧lsW us bs 2 p.1 p.2=ls1 us bs 2∧p.2.length+lft bs p.2≤bs.length∧∀ x∈p.2,isBk bs 2 x}) (fun p=>qV2 us.length bs.length p.1.2.length p.1.1) (fun p=>qR2 (encL (cI .u64) us) (encL cB3 bs) (encL (cI .i64) r1) (encL (cI .i64) p.1.2) r1.length) (fun p=>lft bs p.1.2) (fun _=>Nat.le_of_ble_eq_true rfl) (fun⟨⟨a,row⟩,a0,am,hw,hl,hz⟩=>?_) ⟨(us.getD 2 0,[]),(inU_get hu 2).1,(inU_get hu 2).2,rfl,by have:=lft_0 bs; simpa using this,fun x hx=>by cases hx⟩
      dsimp only at a0 am hw hl hz ⊢
      have nr:=noIds_Ii64 row
      have re:∀ i (h:i < row.length),0≤row[i]∧row[i] < us.length:=fun i h=>by
       obtain⟨b,b1,b2,_⟩:=hz _ (List.getElem_mem h)
       have:=wf.at' b b1; omega
      refine SSp.to cxs_ok (n:=40) (g:=[]) 2 2 rfl (σ:={_k:Unit // a≠0}) (fun _=>qV2 us.length bs.length row.length a) (fun _=>qR2 (encL (cI .u64) us) (encL cB3 bs) (encL (cI .i64) r1) (encL (cI .i64) row) r1.length) (mkS_le (Nat.le_of_ble_eq_true rfl)) (by kernel_rfl) ?_ fun⟨_,ha⟩=>?_
      ·rw [ql_f2]
       by_cases e:a=0
       ·subst e
        have hr:ls1 us bs 2=some row:=by rw [← hw,lsW_end]
        (refine zR ?_)
        exact⟨rfl,⟨row,hr⟩,[.id 0,.id 1,.id 2,.id 3,.id 4],by(exact zC)⟩
       ·(refine zR ?_)
        exact⟨rfl,⟨(),e⟩,[.id 0,.id 1,.id 2,.id 3,.id 4],by(exact zC)⟩
      try dsimp only
      refine SSp.code_last (by kernel_rfl) ?_
      refine SCode.block_sp 3 (by kernel_rfl) ?_
      refine SSp.to cxs_ok (n:=40) (g:=[]) 2 2 rfl (σ:=Unit) (fun _=>qX2 us.length bs.length row.length a (fB (bs.take 0) 2 a) 0) (fun _=>qR2 (encL (cI .u64) us) (encL cB3 bs) (encL (cI .i64) r1) (encL (cI .i64) row) r1.length) (mkS_le (Nat.le_of_ble_eq_true rfl)) (by kernel_rfl) ?_ fun _=>?_
      ·simp only [fB_0]
       rw [ql_g2]
       exact⟨rfl,(),[.id 0,.id 1,.id 2,.id 3,.id 4],by(exact zC)⟩
      try dsimp only
      refine SSp.code_to (g:=[]) 3 rfl (σ:=Unit) (fun _=>qW2 us.length bs.length row.length a (fB bs 2 a)) (fun _=>qR2 (encL (cI .u64) us) (encL cB3 bs) (encL (cI .i64) r1) (encL (cI .i64) row) r1.length) (by kernel_rfl) ?_ fun _=>?_
      ·refine SCode.loop_vc cxs_ok (n:=40) (n0:=1) 4 (by kernel_rfl) (σ:={i:Nat // i≤bs.length}) (fun i=>qX2 us.length bs.length row.length a (fB (bs.take i.1) 2 a) i.1) (fun _=>qR2 (encL (cI .u64) us) (encL cB3 bs) (encL (cI .i64) r1) (encL (cI .i64) row) r1.length) (fun i=>bs.length - i.1) (fun _=>Nat.le_of_ble_eq_true rfl) (fun⟨i,hi⟩=>?_) ⟨0,Nat.zero_le _⟩
       try dsimp only
       rw [ql_h2,wd_lss]
       refine ite_way (fun h0=>?_) (fun h0=>?_)
       ·have e3:xar .add .i64 (i:Int) 1=((i+1:Nat):Int):=inc_i64 h0 (by omega)
        have hm:=wf.at' bs[i] (List.getElem_mem h0)
        have xw:xwr .u64 bs[i].1=bs[i].1:=wrap_u64 (by omega) (by omega)
        by_cases k1:bs[i].1=a
        ·rw [k1] at xw
         by_cases k2:bs[i].2.1=2
         ·cases k3:bs[i].2.2 with
          | false =>
            have eT:=fB_t h0 ⟨k1,k2,k3⟩
            simp only [wd_nat,wd_asV,wd_isV,wd_ix,wd_add,wd_mul,wd_ln,Nat.zero_add,Nat.mul_one,wd_isI,wd_asI,wd_isB,wd_asB,wd_nn,cI_tlen,cB_tlen,cII_tlen,decide_true,cond_true,wd_not_t,wd_not_f,wd_and_t,wd_and_f,b3_0 h0,b3_1 h0,b3_2 h0,lb,e3,xw,k1,k2,k3]
            (refine zR ?_)
            exact⟨rfl,⟨i+1,h0⟩,by simp only; omega,[.id 0,.id 1,.id 2,.id 3,.id 4],by dsimp only; rw [eT]; (exact zC)⟩
          | true =>
            have eT:=fB_f (c:=2) (a:=a) h0 fun z=>by rw [k3] at z; cases z.2.2
            simp only [wd_nat,wd_asV,wd_isV,wd_ix,wd_add,wd_mul,wd_ln,Nat.zero_add,Nat.mul_one,wd_isI,wd_asI,wd_isB,wd_asB,wd_nn,cI_tlen,cB_tlen,cII_tlen,decide_true,cond_true,wd_not_t,wd_not_f,wd_and_t,wd_and_f,b3_0 h0,b3_1 h0,b3_2 h0,lb,e3,xw,k1,k2,k3]
            (refine zR ?_)
            exact⟨rfl,⟨i+1,h0⟩,by simp only; omega,[.id 0,.id 1,.id 2,.id 3,.id 4],by dsimp only; rw [eT]; (exact zC)⟩
         ·have eT:=fB_f (c:=2) (a:=a) h0 fun z=>k2 z.2.1
          simp only [wd_nat,wd_asV,wd_isV,wd_ix,wd_add,wd_mul,wd_ln,Nat.zero_add,Nat.mul_one,wd_isI,wd_asI,wd_isB,wd_asB,wd_nn,cI_tlen,cB_tlen,cII_tlen,decide_true,cond_true,wd_not_t,wd_not_f,wd_and_t,wd_and_f,b3_0 h0,b3_1 h0,lb,e3,xw,k1]
          (refine zR ?_)
          exact⟨rfl,⟨i+1,h0⟩,by simp only; omega,[.id 0,.id 1,.id 2,.id 3,.id 4],by dsimp only; rw [eT]; (exact zC)⟩
        ·have eT:=fB_f (c:=2) (a:=a) h0 fun z=>k1 z.1
         (refine zN4 (b3_0 h0) @lb @e3 @xw ?_)
         (refine zR ?_)
         exact⟨rfl,⟨i+1,h0⟩,by simp only; omega,[.id 0,.id 1,.id 2,.id 3,.id 4],by dsimp only; rw [eT]; (exact zC)⟩
       ·rw [List.take_of_length_le (by omega:bs.length≤i)]
        exact⟨rfl,(),[.id 0,.id 1,.id 2,.id 3,.id 4],by(exact zC)⟩
      try dsimp only
      refine SSp.to cxs_ok (n:=40) (g:=[]) 1 4 rfl (σ:=Unit) (fun _=>qY2 us.length bs.length row.length a (fN bs 2 a (row.take 0)) 0) (fun _=>qR2 (encL (cI .u64) us) (encL cB3 bs) (encL (cI .i64) r1) (encL (cI .i64) row) r1.length) (mkS_le (Nat.le_of_ble_eq_true rfl)) (by kernel_rfl) ?_ fun _=>?_
      ·simp only [fN_0]
       rw [ql_i2]
       exact⟨rfl,(),[.id 0,.id 1,.id 2,.id 3,.id 4],by(exact zC)⟩
      try dsimp only
      refine SSp.code_to (g:=[]) 5 rfl (σ:=Unit) (fun _=>qW2 us.length bs.length row.length a (fN bs 2 a row)) (fun _=>qR2 (encL (cI .u64) us) (encL cB3 bs) (encL (cI .i64) r1) (encL (cI .i64) row) r1.length) (by kernel_rfl) ?_ fun _=>?_
      ·refine SCode.loop_vc cxs_ok (n:=40) (n0:=1) 6 (by kernel_rfl) (σ:={i:Nat // i≤row.length}) (fun i=>qY2 us.length bs.length row.length a (fN bs 2 a (row.take i.1)) i.1) (fun _=>qR2 (encL (cI .u64) us) (encL cB3 bs) (encL (cI .i64) r1) (encL (cI .i64) row) r1.length) (fun i=>row.length - i.1) (fun _=>Nat.le_of_ble_eq_true rfl) (fun⟨i,hi⟩=>?_) ⟨0,Nat.zero_le _⟩
       try dsimp only
       rw [ql_j2,wd_lss]
       refine ite_way (fun h0=>?_) (fun h0=>?_)
       ·have e3:xar .add .i64 (i:Int) 1=((i+1:Nat):Int):=inc_i64 h0 (by omega)
        have hm:=re i h0
        have xw:xwr .u64 row[i]=row[i]:=wrap_u64 (by omega) (by omega)
        by_cases k1:row[i]=a
        ·rw [k1] at xw
         have eT:=fN_f (bs:=bs) (c:=2) h0 k1
         simp only [wd_nat,wd_asV,wd_isV,wd_ix,wd_add,wd_mul,wd_ln,Nat.zero_add,Nat.mul_one,wd_isI,wd_asI,wd_isB,wd_asB,wd_nn,cI_tlen,cB_tlen,cII_tlen,decide_true,cond_true,wd_not_t,wd_not_f,wd_and_t,wd_and_f,encIi64_nth h0,encIi64_len,e3,xw,k1]
         (refine zR ?_)
         exact⟨rfl,⟨i+1,h0⟩,by simp only; omega,[.id 0,.id 1,.id 2,.id 3,.id 4],by dsimp only; rw [eT]; (exact zC)⟩
        ·have eT:=fN_t (bs:=bs) (c:=2) h0 k1
         (refine zN4 (encIi64_nth h0) @encIi64_len @e3 @xw ?_)
         (refine zR ?_)
         exact⟨rfl,⟨i+1,h0⟩,by simp only; omega,[.id 0,.id 1,.id 2,.id 3,.id 4],by dsimp only; rw [eT]; (exact zC)⟩
       ·rw [List.take_of_length_le (by omega:row.length≤i)]
        exact⟨rfl,(),[.id 0,.id 1,.id 2,.id 3,.id 4],by(exact zC)⟩
      try dsimp only
      refine SSp.last cxs_ok (n:=40) (mkS_le (Nat.le_of_ble_eq_true rfl)) ?_
      rw [ql_k2]
      by_cases k:isBk bs 2 a∧a ∉ row
      ·have eT:fN bs 2 a row=true:=decide_eq_true k
       have lt:=lft_lt k.1 k.2
       have hw2:=lsW_go (ws:=us) ha k
       have hz2:∀ x∈row++[a],isBk bs 2 x:=fun x hx=>by rcases List.mem_append.1 hx with hx | hx; exact hz x hx; rw [List.mem_singleton.1 hx]; exact k.1
       obtain⟨m,rfl⟩:∃ m:Nat,a=(m:Int):=⟨a.toNat,by omega⟩
       have hm:m < us.length:=by obtain⟨b,b1,b2,_⟩:=k.1; have:=(wf.at' b b1).2; omega
       have xi:xwr .i64 (m:Int)=m:=xwr_i (by omega) (by omega)
       have nr2:=noIds_Ii64 (row++[(m:Int)])
       have L1:(row++[(m:Int)]).length=row.length+1:=by simp
       rw [eT]
       (refine zN5 @xi @encIi64_len @encIi64_push (u_nth hm) @lu ?_)
       (refine zR ?_)
       refine⟨rfl,⟨(us.getD m 0,row++[(m:Int)]),(inU_get hu m).1,(inU_get hu m).2,by rw [← hw,hw2]; rfl,by simp only [L1]; omega,hz2⟩,lt,[.id 0,.id 1,.id 2,.id 3,.id 6],?_⟩
       try dsimp only
       rw [← L1]
       (exact zC)
      ·have eT:fN bs 2 a row=false:=decide_eq_false k
       have hno:lsAll us=none:=lsAll_2 hb (by rw [← hw,lsW_bad ha k])
       rw [eT]
       (refine zR ?_)
       exact⟨trivial,rfl,_,_,[.id 0],.inl ⟨hno,rfl,rfl⟩,by(exact zC)⟩
     try dsimp only
     have nr:=noIds_Ii64 row
     refine SSp.last cxs_ok (n:=40) (mkS_le (Nat.le_of_ble_eq_true rfl)) ?_
     rw [ql_l2]
     exact⟨rfl,⟨row,hr⟩,[.id 0,.id 1,.id 6,.id 3,.id 4],by(exact zC)⟩
    try dsimp only
    have nn:=noIds_Ii64 r2
    refine SSp.last cxs_ok (n:=40) (mkS_le (Nat.le_of_ble_eq_true rfl)) ?_
    rw [ql_m2]
    refine⟨rfl,⟨.c3 r1 r2,h1,h2,trivial⟩,by simp only [OC.m]; omega,[.id 0,.id 1,.id 2,.id 3,.id 4],?_⟩
    dsimp only [OC.T,OC.H]
    (exact zC)
  | c3 r1 r2 =>
    dsimp only [OC.T,OC.H,OC.ok] at hx ⊢
    obtain⟨h1,h2,_⟩:=hx
    have n1:=noIds_Ii64 r1; have n2:=noIds_Ii64 r2
    refine SSp.to cxs_ok (n:=40) (g:=[]) 2 2 rfl (σ:=Unit) (fun _=>qT3 us.length bs.length) (fun _=>qH3 (encL (cI .u64) us) (encL cB3 bs) (encL (cI .i64) r1) (encL (cI .i64) r2) r1.length r2.length) (mkS_le (Nat.le_of_ble_eq_true rfl)) (by kernel_rfl) ?_ fun _=>?_
    ·rw [ql_d3]
     exact⟨rfl,(),[.id 0,.id 1,.id 2,.id 3,.id 4],by(exact zC)⟩
    try dsimp only
    refine SSp.code_to (g:=[]) 3 rfl (σ:={r:Row // ls1 us bs 3=some r}) (fun _=>qZ3 us.length bs.length) (fun r=>qH4 (encL (cI .u64) us) (encL cB3 bs) (encL (cI .i64) r1) (encL (cI .i64) r2) (encL (cI .i64) r.1) r1.length r2.length r.1.length) (by kernel_rfl) ?_ fun⟨r3,h3⟩=>?_
    ·refine SCode.block_sp 1 (by kernel_rfl) ?_
     refine SSp.to cxs_ok (n:=40) (g:=[]) 2 2 rfl (σ:=Unit) (fun _=>qV3 us.length bs.length 0 (us.getD 3 0)) (fun _=>qR3 (encL (cI .u64) us) (encL cB3 bs) (encL (cI .i64) r1) (encL (cI .i64) r2) [] r1.length r2.length) (mkS_le (Nat.le_of_ble_eq_true rfl)) (by kernel_rfl) ?_ fun _=>?_
     ·rw [ql_e3]
      (refine zN2 (u_nth (us:=us) (i:=3) (by omega)) @lu ?_)
      (refine zR ?_)
      exact⟨rfl,(),[.id 0,.id 1,.id 2,.id 3,.id 4,.none],by(exact zC)⟩
     try dsimp only
     refine SSp.code_to (g:=[]) 3 rfl (σ:={r:Row // ls1 us bs 3=some r}) (fun r=>qU3 us.length bs.length r.1.length) (fun r=>qR3 (encL (cI .u64) us) (encL cB3 bs) (encL (cI .i64) r1) (encL (cI .i64) r2) (encL (cI .i64) r.1) r1.length r2.length) (by kernel_rfl) ?_ fun⟨row,hr⟩=>?_
     ·refine SCode.loop_sp 2 (by kernel_rfl) (n0:=1) (σ:={p:Int×Row // 0≤p.1∧p.1≤18446744073709551615∧lsW us bs 3 p.1 p.2=ls1 us bs 3∧p.2.length+lft bs p.2≤bs.length∧∀ x∈p.2,isBk bs 3 x}) (fun p=>qV3 us.length bs.length p.1.2.length p.1.1) (fun p=>qR3 (encL (cI .u64) us) (encL cB3 bs) (encL (cI .i64) r1) (encL (cI .i64) r2) (encL (cI .i64) p.1.2) r1.length r2.length) (fun p=>lft bs p.1.2) (fun _=>Nat.le_of_ble_eq_true rfl) (fun⟨⟨a,row⟩,a0,am,hw,hl,hz⟩=>?_) ⟨(us.getD 3 0,[]),(inU_get hu 3).1,(inU_get hu 3).2,rfl,by have:=lft_0 bs; simpa using this,fun x hx=>by cases hx⟩
      dsimp only at a0 am hw hl hz ⊢
      have nr:=noIds_Ii64 row
      have re:∀ i (h:i < row.length),0≤row[i]∧row[i] < us.length:=fun i h=>by
       obtain⟨b,b1,b2,_⟩:=hz _ (List.getElem_mem h)
       have:=wf.at' b b1; omega
      refine SSp.to cxs_ok (n:=40) (g:=[]) 2 2 rfl (σ:={_k:Unit // a≠0}) (fun _=>qV3 us.length bs.length row.length a) (fun _=>qR3 (encL (cI .u64) us) (encL cB3 bs) (encL (cI .i64) r1) (encL (cI .i64) r2) (encL (cI .i64) row) r1.length r2.length) (mkS_le (Nat.le_of_ble_eq_true rfl)) (by kernel_rfl) ?_ fun⟨_,ha⟩=>?_
      ·rw [ql_f3]
       by_cases e:a=0
       ·subst e
        have hr:ls1 us bs 3=some row:=by rw [← hw,lsW_end]
        (refine zR ?_)
        exact⟨rfl,⟨row,hr⟩,[.id 0,.id 1,.id 2,.id 3,.id 4,.id 5],by(exact zC)⟩
       ·(refine zR ?_)
        exact⟨rfl,⟨(),e⟩,[.id 0,.id 1,.id 2,.id 3,.id 4,.id 5],by(exact zC)⟩
      try dsimp only
      refine SSp.code_last (by kernel_rfl) ?_
      refine SCode.block_sp 3 (by kernel_rfl) ?_
      refine SSp.to cxs_ok (n:=40) (g:=[]) 2 2 rfl (σ:=Unit) (fun _=>qX3 us.length bs.length row.length a (fB (bs.take 0) 3 a) 0) (fun _=>qR3 (encL (cI .u64) us) (encL cB3 bs) (encL (cI .i64) r1) (encL (cI .i64) r2) (encL (cI .i64) row) r1.length r2.length) (mkS_le (Nat.le_of_ble_eq_true rfl)) (by kernel_rfl) ?_ fun _=>?_
      ·simp only [fB_0]
       rw [ql_g3]
       exact⟨rfl,(),[.id 0,.id 1,.id 2,.id 3,.id 4,.id 5],by(exact zC)⟩
      try dsimp only
      refine SSp.code_to (g:=[]) 3 rfl (σ:=Unit) (fun _=>qW3 us.length bs.length row.length a (fB bs 3 a)) (fun _=>qR3 (encL (cI .u64) us) (encL cB3 bs) (encL (cI .i64) r1) (encL (cI .i64) r2) (encL (cI .i64) row) r1.length r2.length) (by kernel_rfl) ?_ fun _=>?_
      ·refine SCode.loop_vc cxs_ok (n:=40) (n0:=1) 4 (by kernel_rfl) (σ:={i:Nat // i≤bs.length}) (fun i=>qX3 us.length bs.length row.length a (fB (bs.take i.1) 3 a) i.1) (fun _=>qR3 (encL (cI .u64) us) (encL cB3 bs) (encL (cI .i64) r1) (encL (cI .i64) r2) (encL (cI .i64) row) r1.length r2.length) (fun i=>bs.length - i.1) (fun _=>Nat.le_of_ble_eq_true rfl) (fun⟨i,hi⟩=>?_) ⟨0,Nat.zero_le _⟩
       try dsimp only
       rw [ql_h3,wd_lss]
       refine ite_way (fun h0=>?_) (fun h0=>?_)
       ·have e3:xar .add .i64 (i:Int) 1=((i+1:Nat):Int):=inc_i64 h0 (by omega)
        have hm:=wf.at' bs[i] (List.getElem_mem h0)
        have xw:xwr .u64 bs[i].1=bs[i].1:=wrap_u64 (by omega) (by omega)
        by_cases k1:bs[i].1=a
        ·rw [k1] at xw
         by_cases k2:bs[i].2.1=3
         ·cases k3:bs[i].2.2 with
          | false =>
            have eT:=fB_t h0 ⟨k1,k2,k3⟩
            simp only [wd_nat,wd_asV,wd_isV,wd_ix,wd_add,wd_mul,wd_ln,Nat.zero_add,Nat.mul_one,wd_isI,wd_asI,wd_isB,wd_asB,wd_nn,cI_tlen,cB_tlen,cII_tlen,decide_true,cond_true,wd_not_t,wd_not_f,wd_and_t,wd_and_f,b3_0 h0,b3_1 h0,b3_2 h0,lb,e3,xw,k1,k2,k3]
            (refine zR ?_)
            exact⟨rfl,⟨i+1,h0⟩,by simp only; omega,[.id 0,.id 1,.id 2,.id 3,.id 4,.id 5],by dsimp only; rw [eT]; (exact zC)⟩
          | true =>
            have eT:=fB_f (c:=3) (a:=a) h0 fun z=>by rw [k3] at z; cases z.2.2
            simp only [wd_nat,wd_asV,wd_isV,wd_ix,wd_add,wd_mul,wd_ln,Nat.zero_add,Nat.mul_one,wd_isI,wd_asI,wd_isB,wd_asB,wd_nn,cI_tlen,cB_tlen,cII_tlen,decide_true,cond_true,wd_not_t,wd_not_f,wd_and_t,wd_and_f,b3_0 h0,b3_1 h0,b3_2 h0,lb,e3,xw,k1,k2,k3]
            (refine zR ?_)
            exact⟨rfl,⟨i+1,h0⟩,by simp only; omega,[.id 0,.id 1,.id 2,.id 3,.id 4,.id 5],by dsimp only; rw [eT]; (exact zC)⟩
         ·have eT:=fB_f (c:=3) (a:=a) h0 fun z=>k2 z.2.1
          simp only [wd_nat,wd_asV,wd_isV,wd_ix,wd_add,wd_mul,wd_ln,Nat.zero_add,Nat.mul_one,wd_isI,wd_asI,wd_isB,wd_asB,wd_nn,cI_tlen,cB_tlen,cII_tlen,decide_true,cond_true,wd_not_t,wd_not_f,wd_and_t,wd_and_f,b3_0 h0,b3_1 h0,lb,e3,xw,k1]
          (refine zR ?_)
          exact⟨rfl,⟨i+1,h0⟩,by simp only; omega,[.id 0,.id 1,.id 2,.id 3,.id 4,.id 5],by dsimp only; rw [eT]; (exact zC)⟩
        ·have eT:=fB_f (c:=3) (a:=a) h0 fun z=>k1 z.1
         (refine zN4 (b3_0 h0) @lb @e3 @xw ?_)
         (refine zR ?_)
         exact⟨rfl,⟨i+1,h0⟩,by simp only; omega,[.id 0,.id 1,.id 2,.id 3,.id 4,.id 5],by dsimp only; rw [eT]; (exact zC)⟩
       ·rw [List.take_of_length_le (by omega:bs.length≤i)]
        exact⟨rfl,(),[.id 0,.id 1,.id 2,.id 3,.id 4,.id 5],by(exact zC)⟩
      try dsimp only
      refine SSp.to cxs_ok (n:=40) (g:=[]) 1 4 rfl (σ:=Unit) (fun _=>qY3 us.length bs.length row.length a (fN bs 3 a (row.take 0)) 0) (fun _=>qR3 (encL (cI .u64) us) (encL cB3 bs) (encL (cI .i64) r1) (encL (cI .i64) r2) (encL (cI .i64) row) r1.length r2.length) (mkS_le (Nat.le_of_ble_eq_true rfl)) (by kernel_rfl) ?_ fun _=>?_
      ·simp only [fN_0]
       rw [ql_i3]
       exact⟨rfl,(),[.id 0,.id 1,.id 2,.id 3,.id 4,.id 5],by(exact zC)⟩
      try dsimp only
      refine SSp.code_to (g:=[]) 5 rfl (σ:=Unit) (fun _=>qW3 us.length bs.length row.length a (fN bs 3 a row)) (fun _=>qR3 (encL (cI .u64) us) (encL cB3 bs) (encL (cI .i64) r1) (encL (cI .i64) r2) (encL (cI .i64) row) r1.length r2.length) (by kernel_rfl) ?_ fun _=>?_
      ·refine SCode.loop_vc cxs_ok (n:=40) (n0:=1) 6 (by kernel_rfl) (σ:={i:Nat // i≤row.length}) (fun i=>qY3 us.length bs.length row.length a (fN bs 3 a (row.take i.1)) i.1) (fun _=>qR3 (encL (cI .u64) us) (encL cB3 bs) (encL (cI .i64) r1) (encL (cI .i64) r2) (encL (cI .i64) row) r1.length r2.length) (fun i=>row.length - i.1) (fun _=>Nat.le_of_ble_eq_true rfl) (fun⟨i,hi⟩=>?_) ⟨0,Nat.zero_le _⟩
       try dsimp only
       rw [ql_j3,wd_lss]
       refine ite_way (fun h0=>?_) (fun h0=>?_)
       ·have e3:xar .add .i64 (i:Int) 1=((i+1:Nat):Int):=inc_i64 h0 (by omega)
        have hm:=re i h0
        have xw:xwr .u64 row[i]=row[i]:=wrap_u64 (by omega) (by omega)
        by_cases k1:row[i]=a
        ·rw [k1] at xw
         have eT:=fN_f (bs:=bs) (c:=3) h0 k1
         simp only [wd_nat,wd_asV,wd_isV,wd_ix,wd_add,wd_mul,wd_ln,Nat.zero_add,Nat.mul_one,wd_isI,wd_asI,wd_isB,wd_asB,wd_nn,cI_tlen,cB_tlen,cII_tlen,decide_true,cond_true,wd_not_t,wd_not_f,wd_and_t,wd_and_f,encIi64_nth h0,encIi64_len,e3,xw,k1]
         (refine zR ?_)
         exact⟨rfl,⟨i+1,h0⟩,by simp only; omega,[.id 0,.id 1,.id 2,.id 3,.id 4,.id 5],by dsimp only; rw [eT]; (exact zC)⟩
        ·have eT:=fN_t (bs:=bs) (c:=3) h0 k1
         (refine zN4 (encIi64_nth h0) @encIi64_len @e3 @xw ?_)
         (refine zR ?_)
         exact⟨rfl,⟨i+1,h0⟩,by simp only; omega,[.id 0,.id 1,.id 2,.id 3,.id 4,.id 5],by dsimp only; rw [eT]; (exact zC)⟩
       ·rw [List.take_of_length_le (by omega:row.length≤i)]
        exact⟨rfl,(),[.id 0,.id 1,.id 2,.id 3,.id 4,.id 5],by(exact zC)⟩
      try dsimp only
      refine SSp.last cxs_ok (n:=40) (mkS_le (Nat.le_of_ble_eq_true rfl)) ?_
      rw [ql_k3]
      by_cases k:isBk bs 3 a∧a ∉ row
      ·have eT:fN bs 3 a row=true:=decide_eq_true k
       have lt:=lft_lt k.1 k.2
       have hw2:=lsW_go (ws:=us) ha k
       have hz2:∀ x∈row++[a],isBk bs 3 x:=fun x hx=>by rcases List.mem_append.1 hx with hx | hx; exact hz x hx; rw [List.mem_singleton.1 hx]; exact k.1
       obtain⟨m,rfl⟩:∃ m:Nat,a=(m:Int):=⟨a.toNat,by omega⟩
       have hm:m < us.length:=by obtain⟨b,b1,b2,_⟩:=k.1; have:=(wf.at' b b1).2; omega
       have xi:xwr .i64 (m:Int)=m:=xwr_i (by omega) (by omega)
       have nr2:=noIds_Ii64 (row++[(m:Int)])
       have L1:(row++[(m:Int)]).length=row.length+1:=by simp
       rw [eT]
       (refine zN5 @xi @encIi64_len @encIi64_push (u_nth hm) @lu ?_)
       (refine zR ?_)
       refine⟨rfl,⟨(us.getD m 0,row++[(m:Int)]),(inU_get hu m).1,(inU_get hu m).2,by rw [← hw,hw2]; rfl,by simp only [L1]; omega,hz2⟩,lt,[.id 0,.id 1,.id 2,.id 3,.id 4,.id 7],?_⟩
       try dsimp only
       rw [← L1]
       (exact zC)
      ·have eT:fN bs 3 a row=false:=decide_eq_false k
       have hno:lsAll us=none:=lsAll_3 hb (by rw [← hw,lsW_bad ha k])
       rw [eT]
       (refine zR ?_)
       exact⟨trivial,rfl,_,_,[.id 0],.inl ⟨hno,rfl,rfl⟩,by(exact zC)⟩
     try dsimp only
     have nr:=noIds_Ii64 row
     refine SSp.last cxs_ok (n:=40) (mkS_le (Nat.le_of_ble_eq_true rfl)) ?_
     rw [ql_l3]
     exact⟨rfl,⟨row,hr⟩,[.id 0,.id 1,.id 7,.id 3,.id 4,.id 5],by(exact zC)⟩
    try dsimp only
    have nn:=noIds_Ii64 r3
    refine SSp.last cxs_ok (n:=40) (mkS_le (Nat.le_of_ble_eq_true rfl)) ?_
    rw [ql_m3]
    refine⟨rfl,⟨.c4 r1 r2 r3,h1,h2,h3,trivial⟩,by simp only [OC.m]; omega,[.id 0,.id 1,.id 2,.id 3,.id 4,.id 5],?_⟩
    dsimp only [OC.T,OC.H]
    (exact zC)
  | c4 r1 r2 r3 =>
    dsimp only [OC.T,OC.H,OC.ok] at hx ⊢
    obtain⟨h1,h2,h3,_⟩:=hx
    have n1:=noIds_Ii64 r1; have n2:=noIds_Ii64 r2; have n3:=noIds_Ii64 r3
    refine SSp.to cxs_ok (n:=40) (g:=[]) 2 2 rfl (σ:=Unit) (fun _=>qT4 us.length bs.length) (fun _=>qH4 (encL (cI .u64) us) (encL cB3 bs) (encL (cI .i64) r1) (encL (cI .i64) r2) (encL (cI .i64) r3) r1.length r2.length r3.length) (mkS_le (Nat.le_of_ble_eq_true rfl)) (by kernel_rfl) ?_ fun _=>?_
    ·rw [ql_d4]
     exact⟨rfl,(),[.id 0,.id 1,.id 2,.id 3,.id 4,.id 5],by(exact zC)⟩
    try dsimp only
    refine SSp.code_to (g:=[]) 3 rfl (σ:={r:Row // ls1 us bs 4=some r}) (fun _=>qZ4 us.length bs.length) (fun r=>qH5 (encL (cI .u64) us) (encL cB3 bs) (encL (cI .i64) r1) (encL (cI .i64) r2) (encL (cI .i64) r3) (encL (cI .i64) r.1) r1.length r2.length r3.length r.1.length) (by kernel_rfl) ?_ fun⟨r4,h4⟩=>?_
    ·refine SCode.block_sp 1 (by kernel_rfl) ?_
     refine SSp.to cxs_ok (n:=40) (g:=[]) 2 2 rfl (σ:=Unit) (fun _=>qV4 us.length bs.length 0 (us.getD 4 0)) (fun _=>qR4 (encL (cI .u64) us) (encL cB3 bs) (encL (cI .i64) r1) (encL (cI .i64) r2) (encL (cI .i64) r3) [] r1.length r2.length r3.length) (mkS_le (Nat.le_of_ble_eq_true rfl)) (by kernel_rfl) ?_ fun _=>?_
     ·rw [ql_e4]
      (refine zN2 (u_nth (us:=us) (i:=4) (by omega)) @lu ?_)
      (refine zR ?_)
      exact⟨rfl,(),[.id 0,.id 1,.id 2,.id 3,.id 4,.id 5,.none],by(exact zC)⟩
     try dsimp only
     refine SSp.code_to (g:=[]) 3 rfl (σ:={r:Row // ls1 us bs 4=some r}) (fun r=>qU4 us.length bs.length r.1.length) (fun r=>qR4 (encL (cI .u64) us) (encL cB3 bs) (encL (cI .i64) r1) (encL (cI .i64) r2) (encL (cI .i64) r3) (encL (cI .i64) r.1) r1.length r2.length r3.length) (by kernel_rfl) ?_ fun⟨row,hr⟩=>?_
     ·refine SCode.loop_sp 2 (by kernel_rfl) (n0:=1) (σ:={p:Int×Row // 0≤p.1∧p.1≤18446744073709551615∧lsW us bs 4 p.1 p.2=ls1 us bs 4∧p.2.length+lft bs p.2≤bs.length∧∀ x∈p.2,isBk bs 4 x}) (fun p=>qV4 us.length bs.length p.1.2.length p.1.1) (fun p=>qR4 (encL (cI .u64) us) (encL cB3 bs) (encL (cI .i64) r1) (encL (cI .i64) r2) (encL (cI .i64) r3) (encL (cI .i64) p.1.2) r1.length r2.length r3.length) (fun p=>lft bs p.1.2) (fun _=>Nat.le_of_ble_eq_true rfl) (fun⟨⟨a,row⟩,a0,am,hw,hl,hz⟩=>?_) ⟨(us.getD 4 0,[]),(inU_get hu 4).1,(inU_get hu 4).2,rfl,by have:=lft_0 bs; simpa using this,fun x hx=>by cases hx⟩
      dsimp only at a0 am hw hl hz ⊢
      have nr:=noIds_Ii64 row
      have re:∀ i (h:i < row.length),0≤row[i]∧row[i] < us.length:=fun i h=>by
       obtain⟨b,b1,b2,_⟩:=hz _ (List.getElem_mem h)
       have:=wf.at' b b1; omega
      refine SSp.to cxs_ok (n:=40) (g:=[]) 2 2 rfl (σ:={_k:Unit // a≠0}) (fun _=>qV4 us.length bs.length row.length a) (fun _=>qR4 (encL (cI .u64) us) (encL cB3 bs) (encL (cI .i64) r1) (encL (cI .i64) r2) (encL (cI .i64) r3) (encL (cI .i64) row) r1.length r2.length r3.length) (mkS_le (Nat.le_of_ble_eq_true rfl)) (by kernel_rfl) ?_ fun⟨_,ha⟩=>?_
      ·rw [ql_f4]
       by_cases e:a=0
       ·subst e
        have hr:ls1 us bs 4=some row:=by rw [← hw,lsW_end]
        (refine zR ?_)
        exact⟨rfl,⟨row,hr⟩,[.id 0,.id 1,.id 2,.id 3,.id 4,.id 5,.id 6],by(exact zC)⟩
       ·(refine zR ?_)
        exact⟨rfl,⟨(),e⟩,[.id 0,.id 1,.id 2,.id 3,.id 4,.id 5,.id 6],by(exact zC)⟩
      try dsimp only
      refine SSp.code_last (by kernel_rfl) ?_
      refine SCode.block_sp 3 (by kernel_rfl) ?_
      refine SSp.to cxs_ok (n:=40) (g:=[]) 2 2 rfl (σ:=Unit) (fun _=>qX4 us.length bs.length row.length a (fB (bs.take 0) 4 a) 0) (fun _=>qR4 (encL (cI .u64) us) (encL cB3 bs) (encL (cI .i64) r1) (encL (cI .i64) r2) (encL (cI .i64) r3) (encL (cI .i64) row) r1.length r2.length r3.length) (mkS_le (Nat.le_of_ble_eq_true rfl)) (by kernel_rfl) ?_ fun _=>?_
      ·simp only [fB_0]
       rw [ql_g4]
       exact⟨rfl,(),[.id 0,.id 1,.id 2,.id 3,.id 4,.id 5,.id 6],by(exact zC)⟩
      try dsimp only
      refine SSp.code_to (g:=[]) 3 rfl (σ:=Unit) (fun _=>qW4 us.length bs.length row.length a (fB bs 4 a)) (fun _=>qR4 (encL (cI .u64) us) (encL cB3 bs) (encL (cI .i64) r1) (encL (cI .i64) r2) (encL (cI .i64) r3) (encL (cI .i64) row) r1.length r2.length r3.length) (by kernel_rfl) ?_ fun _=>?_
      ·refine SCode.loop_vc cxs_ok (n:=40) (n0:=1) 4 (by kernel_rfl) (σ:={i:Nat // i≤bs.length}) (fun i=>qX4 us.length bs.length row.length a (fB (bs.take i.1) 4 a) i.1) (fun _=>qR4 (encL (cI .u64) us) (encL cB3 bs) (encL (cI .i64) r1) (encL (cI .i64) r2) (encL (cI .i64) r3) (encL (cI .i64) row) r1.length r2.length r3.length) (fun i=>bs.length - i.1) (fun _=>Nat.le_of_ble_eq_true rfl) (fun⟨i,hi⟩=>?_) ⟨0,Nat.zero_le _⟩
       try dsimp only
       rw [ql_h4,wd_lss]
       refine ite_way (fun h0=>?_) (fun h0=>?_)
       ·have e3:xar .add .i64 (i:Int) 1=((i+1:Nat):Int):=inc_i64 h0 (by omega)
        have hm:=wf.at' bs[i] (List.getElem_mem h0)
        have xw:xwr .u64 bs[i].1=bs[i].1:=wrap_u64 (by omega) (by omega)
        by_cases k1:bs[i].1=a
        ·rw [k1] at xw
         by_cases k2:bs[i].2.1=4
         ·cases k3:bs[i].2.2 with
          | false =>
            have eT:=fB_t h0 ⟨k1,k2,k3⟩
            simp only [wd_nat,wd_asV,wd_isV,wd_ix,wd_add,wd_mul,wd_ln,Nat.zero_add,Nat.mul_one,wd_isI,wd_asI,wd_isB,wd_asB,wd_nn,cI_tlen,cB_tlen,cII_tlen,decide_true,cond_true,wd_not_t,wd_not_f,wd_and_t,wd_and_f,b3_0 h0,b3_1 h0,b3_2 h0,lb,e3,xw,k1,k2,k3]
            (refine zR ?_)
            exact⟨rfl,⟨i+1,h0⟩,by simp only; omega,[.id 0,.id 1,.id 2,.id 3,.id 4,.id 5,.id 6],by dsimp only; rw [eT]; (exact zC)⟩
          | true =>
            have eT:=fB_f (c:=4) (a:=a) h0 fun z=>by rw [k3] at z; cases z.2.2
            simp only [wd_nat,wd_asV,wd_isV,wd_ix,wd_add,wd_mul,wd_ln,Nat.zero_add,Nat.mul_one,wd_isI,wd_asI,wd_isB,wd_asB,wd_nn,cI_tlen,cB_tlen,cII_tlen,decide_true,cond_true,wd_not_t,wd_not_f,wd_and_t,wd_and_f,b3_0 h0,b3_1 h0,b3_2 h0,lb,e3,xw,k1,k2,k3]
            (refine zR ?_)
            exact⟨rfl,⟨i+1,h0⟩,by simp only; omega,[.id 0,.id 1,.id 2,.id 3,.id 4,.id 5,.id 6],by dsimp only; rw [eT]; (exact zC)⟩
         ·have eT:=fB_f (c:=4) (a:=a) h0 fun z=>k2 z.2.1
          simp only [wd_nat,wd_asV,wd_isV,wd_ix,wd_add,wd_mul,wd_ln,Nat.zero_add,Nat.mul_one,wd_isI,wd_asI,wd_isB,wd_asB,wd_nn,cI_tlen,cB_tlen,cII_tlen,decide_true,cond_true,wd_not_t,wd_not_f,wd_and_t,wd_and_f,b3_0 h0,b3_1 h0,lb,e3,xw,k1]
          (refine zR ?_)
          exact⟨rfl,⟨i+1,h0⟩,by simp only; omega,[.id 0,.id 1,.id 2,.id 3,.id 4,.id 5,.id 6],by dsimp only; rw [eT]; (exact zC)⟩
        ·have eT:=fB_f (c:=4) (a:=a) h0 fun z=>k1 z.1
         (refine zN4 (b3_0 h0) @lb @e3 @xw ?_)
         (refine zR ?_)
         exact⟨rfl,⟨i+1,h0⟩,by simp only; omega,[.id 0,.id 1,.id 2,.id 3,.id 4,.id 5,.id 6],by dsimp only; rw [eT]; (exact zC)⟩
       ·rw [List.take_of_length_le (by omega:bs.length≤i)]
        exact⟨rfl,(),[.id 0,.id 1,.id 2,.id 3,.id 4,.id 5,.id 6],by(exact zC)⟩
      try dsimp only
      refine SSp.to cxs_ok (n:=40) (g:=[]) 1 4 rfl (σ:=Unit) (fun _=>qY4 us.length bs.length row.length a (fN bs 4 a (row.take 0)) 0) (fun _=>qR4 (encL (cI .u64) us) (encL cB3 bs) (encL (cI .i64) r1) (encL (cI .i64) r2) (encL (cI .i64) r3) (encL (cI .i64) row) r1.length r2.length r3.length) (mkS_le (Nat.le_of_ble_eq_true rfl)) (by kernel_rfl) ?_ fun _=>?_
      ·simp only [fN_0]
       rw [ql_i4]
       exact⟨rfl,(),[.id 0,.id 1,.id 2,.id 3,.id 4,.id 5,.id 6],by(exact zC)⟩
      try dsimp only
      refine SSp.code_to (g:=[]) 5 rfl (σ:=Unit) (fun _=>qW4 us.length bs.length row.length a (fN bs 4 a row)) (fun _=>qR4 (encL (cI .u64) us) (encL cB3 bs) (encL (cI .i64) r1) (encL (cI .i64) r2) (encL (cI .i64) r3) (encL (cI .i64) row) r1.length r2.length r3.length) (by kernel_rfl) ?_ fun _=>?_
      ·refine SCode.loop_vc cxs_ok (n:=40) (n0:=1) 6 (by kernel_rfl) (σ:={i:Nat // i≤row.length}) (fun i=>qY4 us.length bs.length row.length a (fN bs 4 a (row.take i.1)) i.1) (fun _=>qR4 (encL (cI .u64) us) (encL cB3 bs) (encL (cI .i64) r1) (encL (cI .i64) r2) (encL (cI .i64) r3) (encL (cI .i64) row) r1.length r2.length r3.length) (fun i=>row.length - i.1) (fun _=>Nat.le_of_ble_eq_true rfl) (fun⟨i,hi⟩=>?_) ⟨0,Nat.zero_le _⟩
       try dsimp only
       rw [ql_j4,wd_lss]
       refine ite_way (fun h0=>?_) (fun h0=>?_)
       ·have e3:xar .add .i64 (i:Int) 1=((i+1:Nat):Int):=inc_i64 h0 (by omega)
        have hm:=re i h0
        have xw:xwr .u64 row[i]=row[i]:=wrap_u64 (by omega) (by omega)
        by_cases k1:row[i]=a
        ·rw [k1] at xw
         have eT:=fN_f (bs:=bs) (c:=4) h0 k1
         simp only [wd_nat,wd_asV,wd_isV,wd_ix,wd_add,wd_mul,wd_ln,Nat.zero_add,Nat.mul_one,wd_isI,wd_asI,wd_isB,wd_asB,wd_nn,cI_tlen,cB_tlen,cII_tlen,decide_true,cond_true,wd_not_t,wd_not_f,wd_and_t,wd_and_f,encIi64_nth h0,encIi64_len,e3,xw,k1]
         (refine zR ?_)
         exact⟨rfl,⟨i+1,h0⟩,by simp only; omega,[.id 0,.id 1,.id 2,.id 3,.id 4,.id 5,.id 6],by dsimp only; rw [eT]; (exact zC)⟩
        ·have eT:=fN_t (bs:=bs) (c:=4) h0 k1
         (refine zN4 (encIi64_nth h0) @encIi64_len @e3 @xw ?_)
         (refine zR ?_)
         exact⟨rfl,⟨i+1,h0⟩,by simp only; omega,[.id 0,.id 1,.id 2,.id 3,.id 4,.id 5,.id 6],by dsimp only; rw [eT]; (exact zC)⟩
       ·rw [List.take_of_length_le (by omega:row.length≤i)]
        exact⟨rfl,(),[.id 0,.id 1,.id 2,.id 3,.id 4,.id 5,.id 6],by(exact zC)⟩
      try dsimp only
      refine SSp.last cxs_ok (n:=40) (mkS_le (Nat.le_of_ble_eq_true rfl)) ?_
      rw [ql_k4]
      by_cases k:isBk bs 4 a∧a ∉ row
      ·have eT:fN bs 4 a row=true:=decide_eq_true k
       have lt:=lft_lt k.1 k.2
       have hw2:=lsW_go (ws:=us) ha k
       have hz2:∀ x∈row++[a],isBk bs 4 x:=fun x hx=>by rcases List.mem_append.1 hx with hx | hx; exact hz x hx; rw [List.mem_singleton.1 hx]; exact k.1
       obtain⟨m,rfl⟩:∃ m:Nat,a=(m:Int):=⟨a.toNat,by omega⟩
       have hm:m < us.length:=by obtain⟨b,b1,b2,_⟩:=k.1; have:=(wf.at' b b1).2; omega
       have xi:xwr .i64 (m:Int)=m:=xwr_i (by omega) (by omega)
       have nr2:=noIds_Ii64 (row++[(m:Int)])
       have L1:(row++[(m:Int)]).length=row.length+1:=by simp
       rw [eT]
       (refine zN5 @xi @encIi64_len @encIi64_push (u_nth hm) @lu ?_)
       (refine zR ?_)
       refine⟨rfl,⟨(us.getD m 0,row++[(m:Int)]),(inU_get hu m).1,(inU_get hu m).2,by rw [← hw,hw2]; rfl,by simp only [L1]; omega,hz2⟩,lt,[.id 0,.id 1,.id 2,.id 3,.id 4,.id 5,.id 8],?_⟩
       try dsimp only
       rw [← L1]
       (exact zC)
      ·have eT:fN bs 4 a row=false:=decide_eq_false k
       have hno:lsAll us=none:=lsAll_4 hb (by rw [← hw,lsW_bad ha k])
       rw [eT]
       (refine zR ?_)
       exact⟨trivial,rfl,_,_,[.id 0],.inl ⟨hno,rfl,rfl⟩,by(exact zC)⟩
     try dsimp only
     have nr:=noIds_Ii64 row
     refine SSp.last cxs_ok (n:=40) (mkS_le (Nat.le_of_ble_eq_true rfl)) ?_
     rw [ql_l4]
     exact⟨rfl,⟨row,hr⟩,[.id 0,.id 1,.id 8,.id 3,.id 4,.id 5,.id 6],by(exact zC)⟩
    try dsimp only
    have nn:=noIds_Ii64 r4
    refine SSp.last cxs_ok (n:=40) (mkS_le (Nat.le_of_ble_eq_true rfl)) ?_
    rw [ql_m4]
    refine⟨rfl,⟨.c5 r1 r2 r3 r4,h1,h2,h3,h4,trivial⟩,by simp only [OC.m]; omega,[.id 0,.id 1,.id 2,.id 3,.id 4,.id 5,.id 6],?_⟩
    dsimp only [OC.T,OC.H]
    (exact zC)
  | c5 r1 r2 r3 r4 =>
    dsimp only [OC.T,OC.H,OC.ok] at hx ⊢
    obtain⟨h1,h2,h3,h4,_⟩:=hx
    have n1:=noIds_Ii64 r1; have n2:=noIds_Ii64 r2; have n3:=noIds_Ii64 r3; have n4:=noIds_Ii64 r4
    have hA:lsAll us=some (r1,r2,r3,r4):=by rw [lsAll,hb]; simp [h1,h2,h3,h4]
    refine SSp.to cxs_ok (n:=40) (g:=[]) 2 2 rfl (σ:=Empty) (fun x=>x.elim) (fun x=>x.elim) (mkS_le (Nat.le_of_ble_eq_true rfl)) (by kernel_rfl) ?_ fun x=>x.elim
    rw [ql_d5]
    exact⟨rfl,⟨(r1,r2,r3,r4),hA⟩,ids7,by(exact zC)⟩
 try dsimp only at hA ⊢
 have m1:=noIds_Ii64 r1; have m2:=noIds_Ii64 r2; have m3:=noIds_Ii64 r3; have m4:=noIds_Ii64 r4
 refine SSp.last cxs_ok (n:=40) (mkS_le (Nat.le_of_ble_eq_true rfl)) ?_
 rw [ql_z]
 exact⟨trivial,rfl,_,rw5 us r1 r2 r3 r4,[.id 0,.id 2,.id 3,.id 4,.id 5,.id 6],.inr ⟨r1,r2,r3,r4,hA,rfl,rfl⟩,by(exact zC)⟩
end
end Go.Lev
