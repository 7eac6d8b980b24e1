/- chapter 11: Lists of the code -/
import Derived.Test.YtkbaelndiimmpaaGreatDoorCW4
import Derived.Test.YtkbaelndiimmpaaGreatDoorLc
import Derived.Test.YtkbaelndiimmpaaGreatDoorChecked
import Derived.KernelRfl
namespace Go.Lev
set_option linter.unusedSimpArgs false
set_option linter.unusedVariables false
open Go.RowKit
open Go.Proofs.Tryz (prog)
set_option maxRecDepth 100000
noncomputable section
theorem cxs_ok:CtrOk prog (ctrOf cxs):=cxl_ok ⟨blkG_ok,olkG_ok,trivial⟩
abbrev Row:=List Int
def lsAll (us:Row):Option (Row×Row×Row×Row):=(bkF us).bind fun bs=>(ls1 us bs 1).bind fun a=>(ls1 us bs 2).bind fun b=>(ls1 us bs 3).bind fun c=>(ls1 us bs 4).bind fun d=>some (a,b,c,d)
theorem lsAll_b {us:Row} (h:bkF us=none):lsAll us=none:=by rw [lsAll,h]; rfl
theorem lsAll_1 {us:Row} {bs:List Blk} (h:bkF us=some bs) (k:ls1 us bs 1=none):lsAll us=none:=by rw [lsAll,h]; simp [k]
theorem lsAll_2 {us:Row} {bs:List Blk} (h:bkF us=some bs) (k:ls1 us bs 2=none):lsAll us=none:=by rw [lsAll,h]; cases ls1 us bs 1 <;> simp [k]
theorem lsAll_3 {us:Row} {bs:List Blk} (h:bkF us=some bs) (k:ls1 us bs 3=none):lsAll us=none:=by rw [lsAll,h]; cases ls1 us bs 1 <;> cases ls1 us bs 2 <;> simp [k]
theorem lsAll_4 {us:Row} {bs:List Blk} (h:bkF us=some bs) (k:ls1 us bs 4=none):lsAll us=none:=by rw [lsAll,h]; cases ls1 us bs 1 <;> cases ls1 us bs 2 <;> cases ls1 us bs 3 <;> simp [k]
structure LJ (us:Row) (bs:List Blk) (c:Int) (r1 r2 r3 r4 d:Row):Prop where
 c1:1≤c
 c5:c≤5
 h1:1 < c→ls1 us bs 1=some r1
 h2:2 < c→ls1 us bs 2=some r2
 h3:3 < c→ls1 us bs 3=some r3
 h4:4 < c→ls1 us bs 4=some r4
 e1:c≤1→r1=[]
 e2:c≤2→r2=[]
 e3:c≤3→r3=[]
 e4:c≤4→r4=[]
 dn:∀ x∈d,∃ k,k < c∧isBk bs k x
theorem LJ.all {us:Row} {bs:List Blk} {c:Int} {r1 r2 r3 r4 d:Row} (h:bkF us=some bs) (J:LJ us bs c r1 r2 r3 r4 d) (k:¬ c≤4):lsAll us=some (r1,r2,r3,r4):=by
 rw [lsAll,h]; simp [J.h1 (by omega),J.h2 (by omega),J.h3 (by omega),J.h4 (by omega)]
theorem LJ.not {us:Row} {bs:List Blk} {e:Nat} {c:Int} {r1 r2 r3 r4 d:Row} (w:WfB bs e) (J:LJ us bs c r1 r2 r3 r4 d) {x:Int} (h:isBk bs c x):x ∉ d:=fun hx=>by
 obtain⟨k,k1,k2⟩:=J.dn x hx
 have:=isBk_uniq w h k2
 omega
theorem LJ.dn' {us:Row} {bs:List Blk} {c:Int} {r1 r2 r3 r4 d row:Row} (J:LJ us bs c r1 r2 r3 r4 d) (h:∀ x∈row,isBk bs c x):∀ x∈d++row,∃ k,k < c+1∧isBk bs k x:=fun x hx=>by
 rcases List.mem_append.1 hx with hx | hx
 ·obtain⟨k,k1,k2⟩:=J.dn x hx
  exact⟨k,by omega,k2⟩
 ·exact⟨c,by omega,h x hx⟩
theorem bkW_n {ws:List Int} {e p:Nat} {acc bs:List Blk} (h:bkW ws e p acc=some bs):bs.length≤acc.length+(e - p):=by
 by_cases c:p < e
 ·by_cases k:hdOk (ws.getD p 0)∧p+1+hdN (ws.getD p 0)≤e
  ·rw [bkW_go c k.1 k.2] at h
   have:=bkW_n h
   simp at this
   omega
  ·rw [bkW_bad c k] at h; cases h
 ·rw [bkW_end c] at h; cases h; omega
termination_by e - p
theorem bkF_n {us:Row} {bs:List Blk} (h:bkF us=some bs):bs.length≤256:=by
 unfold bkF at h
 split at h
 ·rename_i c
  have:=bkW_n h
  simp only [List.length_nil] at this
  omega
 ·cases h
theorem lft_0 (bs:List Blk):lft bs []≤bs.length:=by unfold lft; exact List.length_filter_le _ _
theorem frL_0 (n:Nat):encL (cI .i64) (List.replicate n 0)=encL (cI .i64) (frL n [] []):=by
 congr 1
 refine List.ext_getElem (by simp [frL]) fun i h1 h2=>?_
 simp [frL,clA]
theorem frL_get {n:Nat} {bs:List Blk} {d:Row} {p:Nat} (h:p < (frL n bs d).length):(frL n bs d)[p]=clA bs d (p:Int):=by simp [frL]
theorem fr_nth {n:Nat} {bs:List Blk} {d:Row} {p:Nat} (h:p < n):nthD (encL (cI .i64) (frL n bs d)) p=.int .i64 (clA bs d (p:Int)):=by
 rw [encIi64_nth (by rw [frL_len]; exact h),frL_get]
theorem fr_set {n:Nat} {bs:List Blk} {d:Row} {p:Nat} (y:Int) (h:p < n):xlay (encL (cI .i64) (frL n bs d)) p [.int .i64 y]=encL (cI .i64) ((frL n bs d).set p y):=by
 have:=encL_set (cI_len .i64) (frL n bs d) p y (by rw [frL_len]; exact h)
 rwa [Nat.mul_one] at this
abbrev rw5 (us:Row) (a b c d:Row):List LB:=[.ro (encL (cI .u64) us),.cells [.slo 2 0 a.length 0,.slo 3 0 b.length 0,.slo 4 0 c.length 0,.slo 5 0 d.length 0] (some 1),.cells (encL (cI .i64) a) (some 1),.cells (encL (cI .i64) b) (some 1),.cells (encL (cI .i64) c) (some 1),.cells (encL (cI .i64) d) (some 1)]
def lsQ (us:Row) (l:LV) (b:List LB):Prop:=(lsAll us=none∧l=.tup [.nils,.int .i64 12]∧b=[.ro (encL (cI .u64) us)])∨∃ r1 r2 r3 r4,lsAll us=some (r1,r2,r3,r4)∧l=.tup [.slo 1 0 4 0,.int .i64 0]∧b=rw5 us r1 r2 r3 r4
abbrev lsI (us f r1 r2 r3 r4:Row):List LB:=lsH (encL (cI .u64) us) (encL (cI .i64) f) r1.length r2.length r3.length r4.length (encL (cI .i64) r1) (encL (cI .i64) r2) (encL (cI .i64) r3) (encL (cI .i64) r4)
abbrev ids7:List Src:=[.id 0,.id 1,.id 2,.id 3,.id 4,.id 5,.id 6]
set_option maxHeartbeats 4000000 in
theorem ls_ok (us:Row) (hu:inU us) (hn:us.length≤100000):SFun prog 15 [.slo 0 0 us.length 0] (mkS [.ro (encL (cI .u64) us)]) fun l t=>∃ b,lsQ us l b∧t=mkS b:=by
 refine SFun.mono (SFun.pieces (Q:=lsQ us) 85 1 lsL [2,3] (by kernel_rfl) rfl rfl rfl ?_) fun l s' ⟨b0,h1,h3⟩=>⟨b0,h1,h3⟩
 have nu:=noIds_Iu64 us; have lu:=encIu64_len us
 have ok0:=okU_enc (by omega:us.length≤1000000) hu
 refine SSp.to cxs_ok (n:=40) (g:=[]) 6 6 rfl (σ:={bs:List Blk // bkF us=some bs}) (fun bs=>lsF us.length bs.1.length 0) (fun bs=>[.ro (encL (cI .u64) us),.cells (encL cB3 bs.1) (some 3),.cells (encL (cI .i64) (frL us.length [] [])) (some 1)]) (mkS_le (Nat.le_of_ble_eq_true rfl)) (by kernel_rfl) ?_ fun⟨bs,hb⟩=>?_
 ·rw [ls_a,ok0,show bkE (encL (cI .u64) us)=bkEr us by rw [bkE,decIu64_enc]; rfl,show bkN (encL (cI .u64) us)=(bkL us).length by rw [bkN,decIu64_enc]; rfl,show bkC (encL (cI .u64) us)=encL cB3 (bkL us) by rw [bkC,decIu64_enc]; rfl]
  cases hb:bkF us with
  | none =>
    rw [(bk_bad hb).2.1]
    (refine zR ?_)
    exact⟨trivial,rfl,_,_,[.id 0],.inl ⟨lsAll_b hb,rfl,rfl⟩,by(exact zC)⟩
  | some bs =>
    obtain⟨q1,q2,_⟩:=bk_good hb
    have nb:=noids_b3 bs
    have nf:=noIds_Ii64 (frL us.length [] [])
    have er:xrep us.length [.int .i64 0]=encL (cI .i64) (frL us.length [] []):=by rw [← frL_0]; exact encL_rep (f:=cI .i64) (0:Int) us.length
    have lf:(encL (cI .i64) (frL us.length [] [])).length=us.length * 1:=by rw [encIi64_len,frL_len]; omega
    rw [q1,q2]
    (refine zN1 @er ?_)
    (refine zR ?_)
    exact⟨rfl,⟨bs,rfl⟩,[.id 0,.id 1,.cap 2 0 us.length],by(exact zC)⟩
 try dsimp only
 have nb:=noids_b3 bs; have lb:=b3_n bs
 obtain⟨wf,h256⟩:=bkF_wf hb
 have bn:=bkF_n hb
 refine SSp.code_to (g:=[]) 7 rfl (σ:=Nat) (fun i=>lsF us.length bs.length i) (fun _=>[.ro (encL (cI .u64) us),.cells (encL cB3 bs) (some 3),.cells (encL (cI .i64) (frL us.length bs [])) (some 1)]) (by kernel_rfl) ?_ fun i0=>?_
 ·refine SCode.loop_vc cxs_ok (n:=40) 0 (by kernel_rfl) (σ:={i:Nat // i≤bs.length}) (fun i=>lsF us.length bs.length i.1) (fun i=>[.ro (encL (cI .u64) us),.cells (encL cB3 bs) (some 3),.cells (encL (cI .i64) (frL us.length (bs.take i.1) [])) (some 1)]) (fun i=>bs.length - i.1) (fun _=>Nat.le_of_ble_eq_true rfl) (fun⟨i,hi⟩=>?_) ⟨0,Nat.zero_le _⟩
  try dsimp only
  have nf:=noIds_Ii64 (frL us.length (bs.take i) [])
  rw [ls_b,wd_lss]
  refine ite_way (fun h0=>?_) (fun h0=>?_)
  ·have e3:xar .add .i64 (i:Int) 1=((i+1:Nat):Int):=inc_i64 h0 (by omega)
   have et:bs.take (i+1)=bs.take i++[bs[i]]:=by rw [List.take_add_one,List.getElem?_eq_getElem h0]; rfl
   have hm:=wf.at' bs[i] (List.getElem_mem h0)
   have hlt:∀ b∈bs.take i,b.1 < bs[i].1:=fun b hb=>by
    obtain⟨j,hj,rfl⟩:=List.mem_iff_getElem.1 hb
    rw [List.getElem_take]
    have:j < i:=by simp at hj; omega
    exact List.pairwise_iff_getElem.1 wf.inc j i (by omega) h0 this
   have g0:=b3_0 h0; have g1:=b3_1 h0; have g2:=b3_2' h0
   have nf2:=noIds_Ii64 (frL us.length (bs.take (i+1)) [])
   generalize hx:bs[i]=x at *
   obtain⟨p,c,l⟩:=x
   dsimp only at hm hlt g0 g1 g2
   obtain⟨m,rfl⟩:∃ m:Nat,p=(m:Int):=⟨p.toNat,by omega⟩
   have hmn:m < us.length:=by omega
   have fl:(encL (cI .i64) (frL us.length (bs.take i) [])).length=us.length:=by rw [encIi64_len,frL_len]
   cases l with
   | true =>
     have eF:=frL_live (n:=us.length) (bs:=bs.take i) (b:=((m:Int),c,true)) rfl
     rw [← et] at eF
     simp only [wd_nat,wd_asV,wd_isV,wd_ix,wd_add,wd_mul,wd_ln,Nat.zero_add,Nat.mul_one,wd_isI,wd_asI,wd_isB,wd_asB,wd_nn,cI_tlen,cB_tlen,cII_tlen,decide_true,cond_true,wd_not_t,wd_not_f,wd_and_t,wd_and_f,g0,g1,g2,lb,e3]
     (refine zR ?_)
     refine⟨rfl,⟨i+1,h0⟩,by simp only; omega,[.id 0,.id 1,.id 2],?_⟩
     try dsimp only
     rw [eF]
     (exact zC)
   | false =>
     have eF:=frL_free (n:=us.length) (p:=m) (bs:=bs.take i) (c:=c) hmn hlt
     rw [← et] at eF
     have eX:=fr_set (bs:=bs.take i) (d:=[]) c hmn
     rw [← eF] at eX
     simp only [wd_nat,wd_asV,wd_isV,wd_ix,wd_add,wd_mul,wd_ln,Nat.zero_add,Nat.mul_one,wd_isI,wd_asI,wd_isB,wd_asB,wd_nn,cI_tlen,cB_tlen,cII_tlen,decide_true,cond_true,wd_not_t,wd_not_f,wd_and_t,wd_and_f,g0,g1,g2,lb,e3,fl,eX]
     (refine zR ?_)
     exact⟨rfl,⟨i+1,h0⟩,by simp only; omega,[.id 0,.id 1,.id 2],by(exact zC)⟩
  ·have:bs.take i=bs:=List.take_of_length_le (by omega)
   rw [this] at nf ⊢
   exact⟨rfl,i,[.id 0,.id 1,.id 2],by(exact zC)⟩
 refine SSp.to cxs_ok (n:=40) (g:=[]) 2 9 rfl (σ:=Unit) (fun _=>lsO us.length 1) (fun _=>lsH (encL (cI .u64) us) (encL (cI .i64) (frL us.length bs [])) 0 0 0 0 [] [] [] []) (mkS_le (Nat.le_of_ble_eq_true rfl)) (by kernel_rfl) ?_ fun _=>?_
 ·have nf:=noIds_Ii64 (frL us.length bs [])
  rw [ls_c]
  exact⟨rfl,(),[.id 0,.id 2,.cap 3 0 4,.none,.none,.none,.none],by(exact zD)⟩
 refine SSp.code_to (g:=[]) 10 rfl (σ:={p:Row×Row×Row×Row×Row // lsAll us=some (p.1,p.2.1,p.2.2.1,p.2.2.2.1)}) (fun _=>lsO us.length 5) (fun p=>lsI us (frL us.length bs p.1.2.2.2.2) p.1.1 p.1.2.1 p.1.2.2.1 p.1.2.2.2.1) (by kernel_rfl) ?_ fun⟨⟨r1,r2,r3,r4,d⟩,hA⟩=>?_
 ·refine SCode.loop_sp 2 (by kernel_rfl) (σ:={p:Int×Row×Row×Row×Row×Row // LJ us bs p.1 p.2.1 p.2.2.1 p.2.2.2.1 p.2.2.2.2.1 p.2.2.2.2.2}) (fun p=>lsO us.length p.1.1) (fun p=>lsI us (frL us.length bs p.1.2.2.2.2.2) p.1.2.1 p.1.2.2.1 p.1.2.2.2.1 p.1.2.2.2.2.1) (fun p=>(5 - p.1.1).toNat) (fun _=>Nat.le_of_ble_eq_true rfl) (fun⟨⟨c,r1,r2,r3,r4,d⟩,J⟩=>?_) ⟨(1,[],[],[],[],[]),⟨by omega,by omega,fun h=>by omega,fun h=>by omega,fun h=>by omega,fun h=>by omega,fun _=>rfl,fun _=>rfl,fun _=>rfl,fun _=>rfl,fun x hx=>by cases hx⟩⟩
  dsimp only at J ⊢
  have nf:=noIds_Ii64 (frL us.length bs d)
  have n1:=noIds_Ii64 r1; have n2:=noIds_Ii64 r2; have n3:=noIds_Ii64 r3; have n4:=noIds_Ii64 r4
  have j1:=J.c1; have j5:=J.c5
  refine SSp.to cxs_ok (n:=40) (g:=[]) 2 2 rfl (σ:={_k:Unit // c≤4}) (fun _=>lsO us.length c) (fun _=>lsI us (frL us.length bs d) r1 r2 r3 r4) (mkS_le (Nat.le_of_ble_eq_true rfl)) (by kernel_rfl) ?_ fun⟨_,c4⟩=>?_
  ·rw [ls_d]
   by_cases c4:c≤4
   ·(refine zR ?_)
    exact⟨rfl,⟨(),c4⟩,ids7,by(exact zC)⟩
   ·have:c=5:=by omega
    subst this
    (refine zR ?_)
    exact⟨rfl,⟨(r1,r2,r3,r4,d),J.all hb (by omega)⟩,ids7,by(exact zC)⟩
  try dsimp only
  refine SSp.code_to (g:=[]) 3 rfl (σ:={p:Row×Row×Row×Row×Row // LJ us bs (c+1) p.1 p.2.1 p.2.2.1 p.2.2.2.1 p.2.2.2.2}) (fun _=>lsO us.length c) (fun p=>lsI us (frL us.length bs p.1.2.2.2.2) p.1.1 p.1.2.1 p.1.2.2.1 p.1.2.2.2.1) (by kernel_rfl) ?_ fun⟨⟨s1,s2,s3,s4,d'⟩,J'⟩=>?_
  ·refine SCode.block_sp 3 (by kernel_rfl) ?_
   have c14:c=1∨c=2∨c=3∨c=4:=by omega
   rcases c14 with rfl | rfl | rfl | rfl
   ·have e0:r1=[]:=J.e1 (by omega)
    subst e0
    have ei:xar .add .i64 0 1=((1:Nat):Int):=by kernel_rfl
    have n32:32≤us.length:=by unfold bkF at hb; split at hb; rename_i z; exact z.1; cases hb
    have st:∀ row,ls1 us bs 1=some row→LJ us bs (1+1) row r2 r3 r4 (d++row):=fun row hr=>⟨by omega,by omega,fun _=>hr,fun h=>by omega,fun h=>by omega,fun h=>by omega,fun h=>by omega,fun _=>J.e2 (by omega),fun _=>J.e3 (by omega),fun _=>J.e4 (by omega),J.dn' (lsW_cl (fun x hx=>by cases hx) hr)⟩
    refine SSp.to cxs_ok (n:=40) (g:=[]) 1 1 rfl (σ:=Unit) (fun _=>lsT us.length 1 (us.getD 1 0)) (fun _=>lsI us (frL us.length bs (d++[])) [] r2 r3 r4) (mkS_le (Nat.le_of_ble_eq_true rfl)) (by kernel_rfl) ?_ fun _=>?_
    ·simp only [List.append_nil]
     rw [ls_e]
     (refine zN3 @ei (u_nth (us:=us) (i:=1) (by omega)) @lu ?_)
     (refine zR ?_)
     exact⟨rfl,(),ids7,by(exact zC)⟩
    try dsimp only
    refine SSp.code_last (by kernel_rfl) ?_
    refine SCode.loop_vc cxs_ok (n:=40) (n0:=1) 4 (by kernel_rfl) (σ:={p:Int×Row // 0≤p.1∧p.1≤18446744073709551615∧lsW us bs 1 p.1 p.2=ls1 us bs 1∧p.2.length+lft bs p.2≤bs.length}) (fun p=>lsT us.length 1 p.1.1) (fun p=>lsI us (frL us.length bs (d++p.1.2)) p.1.2 r2 r3 r4) (fun p=>lft bs p.1.2) (fun _=>Nat.le_of_ble_eq_true rfl) (fun⟨⟨a,row⟩,a0,am,hw,hl⟩=>?_) ⟨(us.getD 1 0,[]),(inU_get hu 1).1,(inU_get hu 1).2,rfl,by have:=lft_0 bs; simpa using this⟩
    dsimp only at a0 am hw hl ⊢
    have nr:=noIds_Ii64 row
    have nf2:=noIds_Ii64 (frL us.length bs (d++row))
    rw [ls_1]
    by_cases e:a=0
    ·subst e
     have hr:ls1 us bs 1=some row:=by rw [← hw,lsW_end]
     (refine zR ?_)
     exact⟨rfl,⟨(row,r2,r3,r4,d++row),st row hr⟩,ids7,by(exact zC)⟩
    have xl:xwr .u64 (us.length:Int)=us.length:=wrap_u64 (by omega) (by omega)
    by_cases g:(us.length:Int)≤a
    ·have hno:lsAll us=none:=lsAll_1 hb (by rw [← hw,lsW_bad e fun z=>by obtain⟨b,b1,b2,_⟩:=z.1; have:=(wf.at' b b1).2; omega])
     (refine zN1 @xl ?_)
     (refine zR ?_)
     exact⟨trivial,rfl,_,_,[.id 0],.inl ⟨hno,rfl,rfl⟩,by(exact zC)⟩
    obtain⟨m,rfl⟩:∃ m:Nat,a=(m:Int):=⟨a.toNat,by omega⟩
    have hm:m < us.length:=by omega
    have fl:(encL (cI .i64) (frL us.length bs (d++row))).length=us.length:=by rw [encIi64_len,frL_len]
    by_cases k:clA bs (d++row) (m:Int)=1
    ·obtain⟨k1,k2⟩:=(clA_iff wf (by omega)).1 k
     have k3:(m:Int) ∉ row:=fun h=>k2 (List.mem_append.2 (.inr h))
     have lt:=lft_lt k1 k3
     have hw2:=lsW_go (ws:=us) e ⟨k1,k3⟩
     have xi:xwr .i64 (m:Int)=m:=xwr_i (by omega) (by omega)
     have eX:=fr_set (bs:=bs) (d:=d++row) 0 hm
     rw [frL_done hm,List.append_assoc] at eX
     have nf3:=noIds_Ii64 (frL us.length bs (d++(row++[(m:Int)])))
     have nr2:=noIds_Ii64 (row++[(m:Int)])
     have L1:(row++[(m:Int)]).length=row.length+1:=by simp
     simp only [wd_nat,wd_asV,wd_isV,wd_ix,wd_add,wd_mul,wd_ln,Nat.zero_add,Nat.mul_one,wd_isI,wd_asI,wd_isB,wd_asB,wd_nn,cI_tlen,cB_tlen,cII_tlen,decide_true,cond_true,wd_not_t,wd_not_f,wd_and_t,wd_and_f,xl,fr_nth (bs:=bs) (d:=d++row) hm,k,fl,eX,encIi64_len,encIi64_push,u_nth hm,lu,xi]
     (refine zR ?_)
     refine⟨rfl,⟨(us.getD m 0,row++[(m:Int)]),(inU_get hu m).1,(inU_get hu m).2,by rw [← hw,hw2]; rfl,by simp only [L1]; omega⟩,lt,[.id 0,.id 1,.id 2,.id 8,.id 4,.id 5,.id 6],?_⟩
     try dsimp only
     rw [← L1]
     (exact zC)
    ·have hno:lsAll us=none:=lsAll_1 hb (by rw [← hw,lsW_bad e fun z=>k ((clA_iff wf (by omega)).2 ⟨z.1,fun y=>(List.mem_append.1 y).elim (J.not wf z.1) z.2⟩)])
     simp only [wd_nat,wd_asV,wd_isV,wd_ix,wd_add,wd_mul,wd_ln,Nat.zero_add,Nat.mul_one,wd_isI,wd_asI,wd_isB,wd_asB,wd_nn,cI_tlen,cB_tlen,cII_tlen,decide_true,cond_true,wd_not_t,wd_not_f,wd_and_t,wd_and_f,xl,fr_nth (bs:=bs) (d:=d++row) hm,fl]
     (refine zR ?_)
     exact⟨trivial,rfl,_,_,[.id 0],.inl ⟨hno,rfl,rfl⟩,by(exact zC)⟩
   ·have e0:r2=[]:=J.e2 (by omega)
    subst e0
    have ei:xar .add .i64 0 2=((2:Nat):Int):=by kernel_rfl
    have n32:32≤us.length:=by unfold bkF at hb; split at hb; rename_i z; exact z.1; cases hb
    have st:∀ row,ls1 us bs 2=some row→LJ us bs (2+1) r1 row r3 r4 (d++row):=fun row hr=>⟨by omega,by omega,fun _=>J.h1 (by omega),fun _=>hr,fun h=>by omega,fun h=>by omega,fun h=>by omega,fun h=>by omega,fun _=>J.e3 (by omega),fun _=>J.e4 (by omega),J.dn' (lsW_cl (fun x hx=>by cases hx) hr)⟩
    refine SSp.to cxs_ok (n:=40) (g:=[]) 1 1 rfl (σ:=Unit) (fun _=>lsT us.length 2 (us.getD 2 0)) (fun _=>lsI us (frL us.length bs (d++[])) r1 [] r3 r4) (mkS_le (Nat.le_of_ble_eq_true rfl)) (by kernel_rfl) ?_ fun _=>?_
    ·simp only [List.append_nil]
     rw [ls_e]
     (refine zN3 @ei (u_nth (us:=us) (i:=2) (by omega)) @lu ?_)
     (refine zR ?_)
     exact⟨rfl,(),ids7,by(exact zC)⟩
    try dsimp only
    refine SSp.code_last (by kernel_rfl) ?_
    refine SCode.loop_vc cxs_ok (n:=40) (n0:=1) 4 (by kernel_rfl) (σ:={p:Int×Row // 0≤p.1∧p.1≤18446744073709551615∧lsW us bs 2 p.1 p.2=ls1 us bs 2∧p.2.length+lft bs p.2≤bs.length}) (fun p=>lsT us.length 2 p.1.1) (fun p=>lsI us (frL us.length bs (d++p.1.2)) r1 p.1.2 r3 r4) (fun p=>lft bs p.1.2) (fun _=>Nat.le_of_ble_eq_true rfl) (fun⟨⟨a,row⟩,a0,am,hw,hl⟩=>?_) ⟨(us.getD 2 0,[]),(inU_get hu 2).1,(inU_get hu 2).2,rfl,by have:=lft_0 bs; simpa using this⟩
    dsimp only at a0 am hw hl ⊢
    have nr:=noIds_Ii64 row
    have nf2:=noIds_Ii64 (frL us.length bs (d++row))
    rw [ls_2]
    by_cases e:a=0
    ·subst e
     have hr:ls1 us bs 2=some row:=by rw [← hw,lsW_end]
     (refine zR ?_)
     exact⟨rfl,⟨(r1,row,r3,r4,d++row),st row hr⟩,ids7,by(exact zC)⟩
    have xl:xwr .u64 (us.length:Int)=us.length:=wrap_u64 (by omega) (by omega)
    by_cases g:(us.length:Int)≤a
    ·have hno:lsAll us=none:=lsAll_2 hb (by rw [← hw,lsW_bad e fun z=>by obtain⟨b,b1,b2,_⟩:=z.1; have:=(wf.at' b b1).2; omega])
     (refine zN1 @xl ?_)
     (refine zR ?_)
     exact⟨trivial,rfl,_,_,[.id 0],.inl ⟨hno,rfl,rfl⟩,by(exact zC)⟩
    obtain⟨m,rfl⟩:∃ m:Nat,a=(m:Int):=⟨a.toNat,by omega⟩
    have hm:m < us.length:=by omega
    have fl:(encL (cI .i64) (frL us.length bs (d++row))).length=us.length:=by rw [encIi64_len,frL_len]
    by_cases k:clA bs (d++row) (m:Int)=2
    ·obtain⟨k1,k2⟩:=(clA_iff wf (by omega)).1 k
     have k3:(m:Int) ∉ row:=fun h=>k2 (List.mem_append.2 (.inr h))
     have lt:=lft_lt k1 k3
     have hw2:=lsW_go (ws:=us) e ⟨k1,k3⟩
     have xi:xwr .i64 (m:Int)=m:=xwr_i (by omega) (by omega)
     have eX:=fr_set (bs:=bs) (d:=d++row) 0 hm
     rw [frL_done hm,List.append_assoc] at eX
     have nf3:=noIds_Ii64 (frL us.length bs (d++(row++[(m:Int)])))
     have nr2:=noIds_Ii64 (row++[(m:Int)])
     have L1:(row++[(m:Int)]).length=row.length+1:=by simp
     simp only [wd_nat,wd_asV,wd_isV,wd_ix,wd_add,wd_mul,wd_ln,Nat.zero_add,Nat.mul_one,wd_isI,wd_asI,wd_isB,wd_asB,wd_nn,cI_tlen,cB_tlen,cII_tlen,decide_true,cond_true,wd_not_t,wd_not_f,wd_and_t,wd_and_f,xl,fr_nth (bs:=bs) (d:=d++row) hm,k,fl,eX,encIi64_len,encIi64_push,u_nth hm,lu,xi]
     (refine zR ?_)
     refine⟨rfl,⟨(us.getD m 0,row++[(m:Int)]),(inU_get hu m).1,(inU_get hu m).2,by rw [← hw,hw2]; rfl,by simp only [L1]; omega⟩,lt,[.id 0,.id 1,.id 2,.id 3,.id 8,.id 5,.id 6],?_⟩
     try dsimp only
     rw [← L1]
     (exact zC)
    ·have hno:lsAll us=none:=lsAll_2 hb (by rw [← hw,lsW_bad e fun z=>k ((clA_iff wf (by omega)).2 ⟨z.1,fun y=>(List.mem_append.1 y).elim (J.not wf z.1) z.2⟩)])
     simp only [wd_nat,wd_asV,wd_isV,wd_ix,wd_add,wd_mul,wd_ln,Nat.zero_add,Nat.mul_one,wd_isI,wd_asI,wd_isB,wd_asB,wd_nn,cI_tlen,cB_tlen,cII_tlen,decide_true,cond_true,wd_not_t,wd_not_f,wd_and_t,wd_and_f,xl,fr_nth (bs:=bs) (d:=d++row) hm,fl]
     (refine zR ?_)
     exact⟨trivial,rfl,_,_,[.id 0],.inl ⟨hno,rfl,rfl⟩,by(exact zC)⟩
   ·have e0:r3=[]:=J.e3 (by omega)
    subst e0
    have ei:xar .add .i64 0 3=((3:Nat):Int):=by kernel_rfl
    have n32:32≤us.length:=by unfold bkF at hb; split at hb; rename_i z; exact z.1; cases hb
    have st:∀ row,ls1 us bs 3=some row→LJ us bs (3+1) r1 r2 row r4 (d++row):=fun row hr=>⟨by omega,by omega,fun _=>J.h1 (by omega),fun _=>J.h2 (by omega),fun _=>hr,fun h=>by omega,fun h=>by omega,fun h=>by omega,fun h=>by omega,fun _=>J.e4 (by omega),J.dn' (lsW_cl (fun x hx=>by cases hx) hr)⟩
    refine SSp.to cxs_ok (n:=40) (g:=[]) 1 1 rfl (σ:=Unit) (fun _=>lsT us.length 3 (us.getD 3 0)) (fun _=>lsI us (frL us.length bs (d++[])) r1 r2 [] r4) (mkS_le (Nat.le_of_ble_eq_true rfl)) (by kernel_rfl) ?_ fun _=>?_
    ·simp only [List.append_nil]
     rw [ls_e]
     (refine zN3 @ei (u_nth (us:=us) (i:=3) (by omega)) @lu ?_)
     (refine zR ?_)
     exact⟨rfl,(),ids7,by(exact zC)⟩
    try dsimp only
    refine SSp.code_last (by kernel_rfl) ?_
    refine SCode.loop_vc cxs_ok (n:=40) (n0:=1) 4 (by kernel_rfl) (σ:={p:Int×Row // 0≤p.1∧p.1≤18446744073709551615∧lsW us bs 3 p.1 p.2=ls1 us bs 3∧p.2.length+lft bs p.2≤bs.length}) (fun p=>lsT us.length 3 p.1.1) (fun p=>lsI us (frL us.length bs (d++p.1.2)) r1 r2 p.1.2 r4) (fun p=>lft bs p.1.2) (fun _=>Nat.le_of_ble_eq_true rfl) (fun⟨⟨a,row⟩,a0,am,hw,hl⟩=>?_) ⟨(us.getD 3 0,[]),(inU_get hu 3).1,(inU_get hu 3).2,rfl,by have:=lft_0 bs; simpa using this⟩
    dsimp only at a0 am hw hl ⊢
    have nr:=noIds_Ii64 row
    have nf2:=noIds_Ii64 (frL us.length bs (d++row))
    rw [ls_3]
    by_cases e:a=0
    ·subst e
     have hr:ls1 us bs 3=some row:=by rw [← hw,lsW_end]
     (refine zR ?_)
     exact⟨rfl,⟨(r1,r2,row,r4,d++row),st row hr⟩,ids7,by(exact zC)⟩
    have xl:xwr .u64 (us.length:Int)=us.length:=wrap_u64 (by omega) (by omega)
    by_cases g:(us.length:Int)≤a
    ·have hno:lsAll us=none:=lsAll_3 hb (by rw [← hw,lsW_bad e fun z=>by obtain⟨b,b1,b2,_⟩:=z.1; have:=(wf.at' b b1).2; omega])
     (refine zN1 @xl ?_)
     (refine zR ?_)
     exact⟨trivial,rfl,_,_,[.id 0],.inl ⟨hno,rfl,rfl⟩,by(exact zC)⟩
    obtain⟨m,rfl⟩:∃ m:Nat,a=(m:Int):=⟨a.toNat,by omega⟩
    have hm:m < us.length:=by omega
    have fl:(encL (cI .i64) (frL us.length bs (d++row))).length=us.length:=by rw [encIi64_len,frL_len]
    by_cases k:clA bs (d++row) (m:Int)=3
    ·obtain⟨k1,k2⟩:=(clA_iff wf (by omega)).1 k
     have k3:(m:Int) ∉ row:=fun h=>k2 (List.mem_append.2 (.inr h))
     have lt:=lft_lt k1 k3
     have hw2:=lsW_go (ws:=us) e ⟨k1,k3⟩
     have xi:xwr .i64 (m:Int)=m:=xwr_i (by omega) (by omega)
     have eX:=fr_set (bs:=bs) (d:=d++row) 0 hm
     rw [frL_done hm,List.append_assoc] at eX
     have nf3:=noIds_Ii64 (frL us.length bs (d++(row++[(m:Int)])))
     have nr2:=noIds_Ii64 (row++[(m:Int)])
     have L1:(row++[(m:Int)]).length=row.length+1:=by simp
     simp only [wd_nat,wd_asV,wd_isV,wd_ix,wd_add,wd_mul,wd_ln,Nat.zero_add,Nat.mul_one,wd_isI,wd_asI,wd_isB,wd_asB,wd_nn,cI_tlen,cB_tlen,cII_tlen,decide_true,cond_true,wd_not_t,wd_not_f,wd_and_t,wd_and_f,xl,fr_nth (bs:=bs) (d:=d++row) hm,k,fl,eX,encIi64_len,encIi64_push,u_nth hm,lu,xi]
     (refine zR ?_)
     refine⟨rfl,⟨(us.getD m 0,row++[(m:Int)]),(inU_get hu m).1,(inU_get hu m).2,by rw [← hw,hw2]; rfl,by simp only [L1]; omega⟩,lt,[.id 0,.id 1,.id 2,.id 3,.id 4,.id 8,.id 6],?_⟩
     try dsimp only
     rw [← L1]
     (exact zC)
    ·have hno:lsAll us=none:=lsAll_3 hb (by rw [← hw,lsW_bad e fun z=>k ((clA_iff wf (by omega)).2 ⟨z.1,fun y=>(List.mem_append.1 y).elim (J.not wf z.1) z.2⟩)])
     simp only [wd_nat,wd_asV,wd_isV,wd_ix,wd_add,wd_mul,wd_ln,Nat.zero_add,Nat.mul_one,wd_isI,wd_asI,wd_isB,wd_asB,wd_nn,cI_tlen,cB_tlen,cII_tlen,decide_true,cond_true,wd_not_t,wd_not_f,wd_and_t,wd_and_f,xl,fr_nth (bs:=bs) (d:=d++row) hm,fl]
     (refine zR ?_)
     exact⟨trivial,rfl,_,_,[.id 0],.inl ⟨hno,rfl,rfl⟩,by(exact zC)⟩
   ·have e0:r4=[]:=J.e4 (by omega)
    subst e0
    have ei:xar .add .i64 0 4=((4:Nat):Int):=by kernel_rfl
    have n32:32≤us.length:=by unfold bkF at hb; split at hb; rename_i z; exact z.1; cases hb
    have st:∀ row,ls1 us bs 4=some row→LJ us bs (4+1) r1 r2 r3 row (d++row):=fun row hr=>⟨by omega,by omega,fun _=>J.h1 (by omega),fun _=>J.h2 (by omega),fun _=>J.h3 (by omega),fun _=>hr,fun h=>by omega,fun h=>by omega,fun h=>by omega,fun h=>by omega,J.dn' (lsW_cl (fun x hx=>by cases hx) hr)⟩
    refine SSp.to cxs_ok (n:=40) (g:=[]) 1 1 rfl (σ:=Unit) (fun _=>lsT us.length 4 (us.getD 4 0)) (fun _=>lsI us (frL us.length bs (d++[])) r1 r2 r3 []) (mkS_le (Nat.le_of_ble_eq_true rfl)) (by kernel_rfl) ?_ fun _=>?_
    ·simp only [List.append_nil]
     rw [ls_e]
     (refine zN3 @ei (u_nth (us:=us) (i:=4) (by omega)) @lu ?_)
     (refine zR ?_)
     exact⟨rfl,(),ids7,by(exact zC)⟩
    try dsimp only
    refine SSp.code_last (by kernel_rfl) ?_
    refine SCode.loop_vc cxs_ok (n:=40) (n0:=1) 4 (by kernel_rfl) (σ:={p:Int×Row // 0≤p.1∧p.1≤18446744073709551615∧lsW us bs 4 p.1 p.2=ls1 us bs 4∧p.2.length+lft bs p.2≤bs.length}) (fun p=>lsT us.length 4 p.1.1) (fun p=>lsI us (frL us.length bs (d++p.1.2)) r1 r2 r3 p.1.2) (fun p=>lft bs p.1.2) (fun _=>Nat.le_of_ble_eq_true rfl) (fun⟨⟨a,row⟩,a0,am,hw,hl⟩=>?_) ⟨(us.getD 4 0,[]),(inU_get hu 4).1,(inU_get hu 4).2,rfl,by have:=lft_0 bs; simpa using this⟩
    dsimp only at a0 am hw hl ⊢
    have nr:=noIds_Ii64 row
    have nf2:=noIds_Ii64 (frL us.length bs (d++row))
    rw [ls_4]
    by_cases e:a=0
    ·subst e
     have hr:ls1 us bs 4=some row:=by rw [← hw,lsW_end]
     (refine zR ?_)
     exact⟨rfl,⟨(r1,r2,r3,row,d++row),st row hr⟩,ids7,by(exact zC)⟩
    have xl:xwr .u64 (us.length:Int)=us.length:=wrap_u64 (by omega) (by omega)
    by_cases g:(us.length:Int)≤a
    ·have hno:lsAll us=none:=lsAll_4 hb (by rw [← hw,lsW_bad e fun z=>by obtain⟨b,b1,b2,_⟩:=z.1; have:=(wf.at' b b1).2; omega])
     (refine zN1 @xl ?_)
     (refine zR ?_)
     exact⟨trivial,rfl,_,_,[.id 0],.inl ⟨hno,rfl,rfl⟩,by(exact zC)⟩
    obtain⟨m,rfl⟩:∃ m:Nat,a=(m:Int):=⟨a.toNat,by omega⟩
    have hm:m < us.length:=by omega
    have fl:(encL (cI .i64) (frL us.length bs (d++row))).length=us.length:=by rw [encIi64_len,frL_len]
    by_cases k:clA bs (d++row) (m:Int)=4
    ·obtain⟨k1,k2⟩:=(clA_iff wf (by omega)).1 k
     have k3:(m:Int) ∉ row:=fun h=>k2 (List.mem_append.2 (.inr h))
     have lt:=lft_lt k1 k3
     have hw2:=lsW_go (ws:=us) e ⟨k1,k3⟩
     have xi:xwr .i64 (m:Int)=m:=xwr_i (by omega) (by omega)
     have eX:=fr_set (bs:=bs) (d:=d++row) 0 hm
     rw [frL_done hm,List.append_assoc] at eX
     have nf3:=noIds_Ii64 (frL us.length bs (d++(row++[(m:Int)])))
     have nr2:=noIds_Ii64 (row++[(m:Int)])
     have L1:(row++[(m:Int)]).length=row.length+1:=by simp
     simp only [wd_nat,wd_asV,wd_isV,wd_ix,wd_add,wd_mul,wd_ln,Nat.zero_add,Nat.mul_one,wd_isI,wd_asI,wd_isB,wd_asB,wd_nn,cI_tlen,cB_tlen,cII_tlen,decide_true,cond_true,wd_not_t,wd_not_f,wd_and_t,wd_and_f,xl,fr_nth (bs:=bs) (d:=d++row) hm,k,fl,eX,encIi64_len,encIi64_push,u_nth hm,lu,xi]
     (refine zR ?_)
     refine⟨rfl,⟨(us.getD m 0,row++[(m:Int)]),(inU_get hu m).1,(inU_get hu m).2,by rw [← hw,hw2]; rfl,by simp only [L1]; omega⟩,lt,[.id 0,.id 1,.id 2,.id 3,.id 4,.id 5,.id 8],?_⟩
     try dsimp only
     rw [← L1]
     (exact zC)
    ·have hno:lsAll us=none:=lsAll_4 hb (by rw [← hw,lsW_bad e fun z=>k ((clA_iff wf (by omega)).2 ⟨z.1,fun y=>(List.mem_append.1 y).elim (J.not wf z.1) z.2⟩)])
     simp only [wd_nat,wd_asV,wd_isV,wd_ix,wd_add,wd_mul,wd_ln,Nat.zero_add,Nat.mul_one,wd_isI,wd_asI,wd_isB,wd_asB,wd_nn,cI_tlen,cB_tlen,cII_tlen,decide_true,cond_true,wd_not_t,wd_not_f,wd_and_t,wd_and_f,xl,fr_nth (bs:=bs) (d:=d++row) hm,fl]
     (refine zR ?_)
     exact⟨trivial,rfl,_,_,[.id 0],.inl ⟨hno,rfl,rfl⟩,by(exact zC)⟩
  dsimp only at J' ⊢
  have m0:=noIds_Ii64 (frL us.length bs d')
  have m1:=noIds_Ii64 s1; have m2:=noIds_Ii64 s2; have m3:=noIds_Ii64 s3; have m4:=noIds_Ii64 s4
  refine SSp.last cxs_ok (n:=40) (mkS_le (Nat.le_of_ble_eq_true rfl)) ?_
  have ec:xar .add .i64 c 1=c+1:=add_i64 (by omega) (by omega)
  rw [ls_f,ec]
  exact⟨rfl,⟨(c+1,s1,s2,s3,s4,d'),J'⟩,by simp only; omega,ids7,by(exact zC)⟩
 dsimp only at hA ⊢
 have m0:=noIds_Ii64 (frL us.length bs d)
 have m1:=noIds_Ii64 r1; have m2:=noIds_Ii64 r2; have m3:=noIds_Ii64 r3; have m4:=noIds_Ii64 r4
 refine SSp.last cxs_ok (n:=40) (mkS_le (Nat.le_of_ble_eq_true rfl)) ?_
 rw [ls_z]
 exact⟨trivial,rfl,_,rw5 us r1 r2 r3 r4,[.id 0,.id 2,.id 3,.id 4,.id 5,.id 6],.inr ⟨r1,r2,r3,r4,hA,rfl,rfl⟩,by(exact zC)⟩
end
end Go.Lev
