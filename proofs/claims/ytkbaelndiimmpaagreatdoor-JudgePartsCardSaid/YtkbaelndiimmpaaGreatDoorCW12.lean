/- chapter 30: Words as a contract -/
import Derived.Test.YtkbaelndiimmpaaGreatDoorCW11
import Derived.Test.YtkbaelndiimmpaaGreatDoorLc
import Derived.Test.YtkbaelndiimmpaaGreatDoorChecked
import Derived.KernelRfl
namespace Go.Lev
set_option linter.unusedSimpArgs false
set_option linter.unusedVariables false
open Go.RowKit
open Go.Proofs.Tryz (prog)
set_option maxRecDepth 100000
noncomputable section
theorem cxwd_ok:CtrOk prog (ctrOf cxwd):=cxl_ok ⟨withinG_ok,trivial⟩
theorem inU_set {us:Row} (h:inU us) {i:Nat} {y:Int} (k:0≤y∧y≤18446744073709551615):inU (us.set i y):=fun u hu=>by
 rcases List.mem_or_eq_of_mem_set hu with hu | rfl
 ·exact h u hu
 ·exact k
theorem us_set {us:Row} {i:Nat} (y:Int) (h:i < us.length):xlay (encL (cI .u64) us) i [.int .u64 y]=encL (cI .u64) (us.set i y):=by
 have:=encL_set (cI_len .u64) us i y h
 rwa [Nat.mul_one] at this
def wdA (x:Int):Bool:=xcm .gtr (xar .and .u8 x 16) 0
def wdB (x:Int):Bool:=xcm .gtr (xar .and .u8 x 32) 0
def wdc (x:Int):Nat:=(x % 3).toNat+1
def wst (ws:List Int) (p:Nat) (x:Int):List Int :=
 (if wdA x then(ws.set p (wdc x)).set p ((wdc x:Int)+8) else if wdB x then((ws.set p (wdc x)).set (p+1) ((ws.set p (wdc x)).getD (wdc x) 0)).set (wdc x) ((p+1:Nat):Int) else ws.set p (wdc x)).set 5 ((p+1+2 ^ wdc x:Nat):Int)
theorem wst_len (ws:List Int) (p:Nat) (x:Int):(wst ws p x).length=ws.length:=by unfold wst; split <;> (try split) <;> simp
def wsR:List Int→List Int→Nat→List Int×Nat
 | [],ws,p=>(ws,p)
 | x::r,ws,p=>if p+1+2 ^ wdc x≤ws.length then wsR r (wst ws p x) (p+1+2 ^ wdc x) else(ws,p)
theorem wdc_b (x:Int):1≤wdc x∧wdc x≤3:=by unfold wdc; omega
theorem wdc_cases {x:Int} (h:0≤x):(x % 3=0∧wdc x=1)∨(x % 3=1∧wdc x=2)∨(x % 3=2∧wdc x=3):=by unfold wdc; omega
theorem inU_wst {ws:List Int} {p:Nat} {x:Int} (h:inU ws) (hp:p≤1000):inU (wst ws p x):=by
 have hb:=wdc_b x
 have h2:2 ^ wdc x≤8:=by
  have:wdc x=1∨wdc x=2∨wdc x=3:=by omega
  rcases this with e | e | e <;> rw [e] <;> omega
 have h1:inU (ws.set p (wdc x)):=inU_set h (by omega)
 unfold wst
 refine inU_set ?_ (by generalize 2 ^ wdc x=z at *; omega)
 split
 ·exact inU_set h1 (by omega)
 ·split
  ·exact inU_set (inU_set h1 (inU_get h1 _)) (by omega)
  ·exact h1
def wd0 (N:Nat):List Int:=(List.replicate N 0).set 5 14
theorem wd0_len (N:Nat):(wd0 N).length=N:=by simp [wd0]
theorem inU_wd0 (N:Nat):inU (wd0 N):=inU_set (fun u hu=>by rw [List.eq_of_mem_replicate hu]; omega) (by omega)
def wdF (N:Nat) (bs:List Int):List Int:=(wsR (bs.take 8) (wd0 N) 14).1
theorem wsR_len:∀ (bs ws:List Int) (p:Nat),(wsR bs ws p).1.length=ws.length
 | [],ws,p=>rfl
 | x::r,ws,p=>by
   rw [wsR]; split
   ·rw [wsR_len r,wst_len]
   ·rfl
theorem wdF_len (N:Nat) (bs:List Int):(wdF N bs).length=N:=by rw [wdF,wsR_len,wd0_len]
theorem inU_wsR:∀ (bs ws:List Int) (p:Nat),inU ws→ws.length≤1000→p≤1000→inU (wsR bs ws p).1
 | [],ws,p,h,_,_=>h
 | x::r,ws,p,h,hn,hp=>by
   rw [wsR]; split
   ·exact inU_wsR r _ _ (inU_wst h hp) (by rw [wst_len]; exact hn) (by omega)
   ·exact h
theorem inU_wdF {N:Nat} (bs:List Int) (h:N≤1000):inU (wdF N bs):=inU_wsR _ _ _ (inU_wd0 N) (by rw [wd0_len]; exact h) (by omega)
def wdK (n:Int):Nat:=(wthV n 32 80).toNat
theorem wdK_b (n:Int):32≤wdK n∧wdK n≤80∧wthV n 32 80=(wdK n:Int):=by have:=wthV_in (a:=n) (lo:=32) (hi:=80) (by omega); unfold wdK; omega
theorem repU (n:Nat):xrep n [.int .u64 0]=encL (cI .u64) (List.replicate n 0):=encL_rep (f:=cI .u64) (0:Int) n
abbrev wqR (bs:List Int) (N:Nat):Type:={q:List Int×Nat // q.1=wdF N bs}
set_option maxHeartbeats 4000000 in
theorem wq_loop (bs:List Int) (hb:∀ y∈bs,0≤y∧y≤255) (hm:bs.length≤9223372036854775807) (N:Nat) (hN:32≤N∧N≤80) (Q:LV→List LB→Prop) :
  SCode prog 114 (nthC wdS 7) 1 (mkTm 114 (wdT bs.length N 14 0)) (mkS (wdH (encL (cI .u8) bs) (encL (cI .u64) (wd0 N)))) (vK wdL (toK (σ:=wqR bs N×Nat) 1 114 wdL [] (fun q=>wdT bs.length N q.1.1.2 q.2) (fun q=>wdH (encL (cI .u8) bs) (encL (cI .u64) q.1.1.1)) (endK 1 [6] wdL [] Q))):=by
 have nb:=noIds_Iu8 bs; have lb:=encIu8_len bs
 refine SCode.loop_vc cxwd_ok (n:=40) 2 (by kernel_rfl) (σ:={q:Nat×List Int×Nat // q.1≤bs.length∧q.1≤8∧q.2.1.length=N∧inU q.2.1∧14≤q.2.2∧q.2.2≤N∧wdF N bs=(wsR ((bs.take 8).drop q.1) q.2.1 q.2.2).1}) (fun q=>wdT bs.length N q.1.2.2 q.1.1) (fun q=>wdH (encL (cI .u8) bs) (encL (cI .u64) q.1.2.1)) (fun q=>8 - q.1.1) (fun _=>Nat.le_of_ble_eq_true rfl) (fun⟨⟨i,ws,p⟩,h1,h2,h3,h4,h5,h6,h7⟩=>?_) ⟨(0,wd0 N,14),Nat.zero_le _,by omega,wd0_len N,inU_wd0 N,by simp only; omega,by simp only; omega,rfl⟩
 dsimp only at h1 h2 h3 h4 h5 h6 h7 ⊢
 have nw:=noIds_Iu64 ws
 rw [wq_d]
 by_cases c1:i < bs.length
 ·by_cases c2:i < 8
  ·have e3:xar .add .i64 (i:Int) 1=((i+1:Nat):Int):=inc_i64 c1 (by omega)
   have ed:(bs.take 8).drop i=bs[i]::(bs.take 8).drop (i+1):=by
    rw [List.drop_eq_getElem_cons (by simp; omega)]; simp
   have hx:=hb bs[i] (List.getElem_mem c1)
   have gx:=encIu8_nth c1
   rw [ed,wsR,h3] at h7
   generalize bs[i]=x at *
   have ep:xar .add .i64 (p:Int) 1=((p+1:Nat):Int):=by rw [add_i64 (by omega) (by omega)]; omega
   have er:xar .rem .u8 x 3=x % 3:=by
    have q1:=Int.emod_nonneg x (b:=3) (by omega)
    have q2:=Int.emod_lt_of_pos x (b:=3) (by omega)
    rw [xar_rem _ _ _ (by omega),Int.tmod_eq_emod_of_nonneg hx.1]
   rcases wdc_cases hx.1 with⟨q,k⟩ | ⟨q,k⟩ | ⟨q,k⟩
   ·have eC:xar .add .i64 (xwr .i64 (xar .rem .u8 x 3)) 1=1:=by rw [er,q]; kernel_rfl
    have eS:xsh .shl .i64 1 1=2:=by kernel_rfl
    have eU:xwr .u64 1=1:=by kernel_rfl
    have eH:xar .add .i64 1 8=9:=by kernel_rfl
    have eU2:xwr .u64 9=9:=by kernel_rfl
    have eI:xar .sub .i64 (xar .add .i64 1 1) 1=((1:Nat):Int):=by kernel_rfl
    have eP:xar .add .i64 ((p+1:Nat):Int) 2=((p+1+2:Nat):Int):=by rw [add_i64 (by omega) (by omega)]; omega
    have eW:xwr .u64 ((p+1+2:Nat):Int)=((p+1+2:Nat):Int):=wrap_u64 (by omega) (by omega)
    have eW1:xwr .u64 ((p+1:Nat):Int)=((p+1:Nat):Int):=wrap_u64 (by omega) (by omega)
    rw [k,show 2 ^ 1=2 from rfl] at h7
    by_cases c3:p+1+2≤N
    ·rw [if_pos c3] at h7
     have L0:(ws.set p (1:Int)).length=N:=by rw [List.length_set,h3]
     have s0:=us_set (us:=ws) (i:=p) (1:Int) (by omega)
     have n0:=noIds_Iu64 (ws.set p (1:Int))
     have l0:=encIu64_len (ws.set p (1:Int))
     have lw:=encIu64_len ws
     have hI:=inU_wst (x:=x) h4 (show p≤1000 by omega)
     have hL:=wst_len ws p x
     have nwst:=noIds_Iu64 (wst ws p x)
     cases fA:xcm .gtr (xar .and .u8 x 16) 0 with
     | true =>
       have eR:wst ws p x=((ws.set p (1:Int)).set p (9:Int)).set 5 ((p+1+2:Nat):Int):=by
        rw [wst,show wdA x=true from fA,if_pos rfl,k]; rfl
       have s1:=us_set (us:=ws.set p (1:Int)) (i:=p) (9:Int) (by omega)
       have l1:=encIu64_len ((ws.set p (1:Int)).set p (9:Int))
       have L1:((ws.set p (1:Int)).set p (9:Int)).length=N:=by rw [List.length_set,L0]
       have s2:=us_set (us:=(ws.set p (1:Int)).set p (9:Int)) (i:=5) ((p+1+2:Nat):Int) (by omega)
       rw [← eR] at s2
       simp only [wd_nat,wd_ix,wd_mul,wd_add,Nat.zero_add,Nat.mul_one,gx,wd_asI,wd_isI,decide_true,cond_true,lb,eC,eU,eS,ep,eP,e3,fA,s0,lw,h3,eH,eU2,s1,l0,L0,eW,l1,L1,s2,wd_ln]
       (refine zR ?_)
       exact⟨rfl,⟨(i+1,wst ws p x,p+1+2),by simp only; omega,by simp only; omega,by simp only; omega,hI,by simp only; omega,by simp only; omega,h7⟩,by simp only; omega,[.id 0,.id 1],by(exact zC)⟩
     | false =>
       cases fB:xcm .gtr (xar .and .u8 x 32) 0 with
       | true =>
         have eR:wst ws p x=(((ws.set p (1:Int)).set (p+1) ((ws.set p (1:Int)).getD 1 0)).set 1 ((p+1:Nat):Int)).set 5 ((p+1+2:Nat):Int):=by
          rw [wst,show wdA x=false from fA,if_neg (by simp),show wdB x=true from fB,if_pos rfl,k]; rfl
         have g1:=u_nth (us:=ws.set p (1:Int)) (i:=1) (by omega)
         have s1:=us_set (us:=ws.set p (1:Int)) (i:=p+1) ((ws.set p (1:Int)).getD 1 0) (by omega)
         have l1:=encIu64_len ((ws.set p (1:Int)).set (p+1) ((ws.set p (1:Int)).getD 1 0))
         have L1:((ws.set p (1:Int)).set (p+1) ((ws.set p (1:Int)).getD 1 0)).length=N:=by rw [List.length_set,L0]
         have s2:=us_set (us:=(ws.set p (1:Int)).set (p+1) ((ws.set p (1:Int)).getD 1 0)) (i:=1) ((p+1:Nat):Int) (by omega)
         have l2:=encIu64_len (((ws.set p (1:Int)).set (p+1) ((ws.set p (1:Int)).getD 1 0)).set 1 ((p+1:Nat):Int))
         have L2:(((ws.set p (1:Int)).set (p+1) ((ws.set p (1:Int)).getD 1 0)).set 1 ((p+1:Nat):Int)).length=N:=by rw [List.length_set,L1]
         have s3:=us_set (us:=((ws.set p (1:Int)).set (p+1) ((ws.set p (1:Int)).getD 1 0)).set 1 ((p+1:Nat):Int)) (i:=5) ((p+1+2:Nat):Int) (by omega)
         rw [← eR] at s3
         simp only [wd_nat,wd_ix,wd_mul,wd_add,Nat.zero_add,Nat.mul_one,gx,wd_asI,wd_isI,decide_true,cond_true,lb,eC,eU,eS,ep,eP,e3,fA,fB,cond_false,s0,lw,h3,eI,g1,s1,s2,eW,eW1,l0,L0,l1,L1,l2,L2,s3,wd_ln]
         (refine zR ?_)
         exact⟨rfl,⟨(i+1,wst ws p x,p+1+2),by simp only; omega,by simp only; omega,by simp only; omega,hI,by simp only; omega,by simp only; omega,h7⟩,by simp only; omega,[.id 0,.id 1],by(exact zC)⟩
       | false =>
         have eR:wst ws p x=(ws.set p (1:Int)).set 5 ((p+1+2:Nat):Int):=by
          rw [wst,show wdA x=false from fA,if_neg (by simp),show wdB x=false from fB,if_neg (by simp),k]; rfl
         have s1:=us_set (us:=ws.set p (1:Int)) (i:=5) ((p+1+2:Nat):Int) (by omega)
         rw [← eR] at s1
         simp only [wd_nat,wd_ix,wd_mul,wd_add,Nat.zero_add,Nat.mul_one,gx,wd_asI,wd_isI,decide_true,cond_true,lb,eC,eU,eS,ep,eP,e3,fA,fB,cond_false,s0,lw,h3,eW,l0,L0,s1,wd_ln]
         (refine zR ?_)
         exact⟨rfl,⟨(i+1,wst ws p x,p+1+2),by simp only; omega,by simp only; omega,by simp only; omega,hI,by simp only; omega,by simp only; omega,h7⟩,by simp only; omega,[.id 0,.id 1],by(exact zC)⟩
    ·rw [if_neg c3] at h7
     simp only [wd_nat,wd_ix,wd_mul,wd_add,Nat.zero_add,Nat.mul_one,gx,wd_asI,wd_isI,decide_true,cond_true,lb,eC,eU,eS,ep,eP,wd_ln]
     (refine zR ?_)
     exact⟨rfl,(⟨(ws,p),h7.symm⟩,i),[.id 0,.id 1],by(exact zC)⟩
   ·have eC:xar .add .i64 (xwr .i64 (xar .rem .u8 x 3)) 1=2:=by rw [er,q]; kernel_rfl
    have eS:xsh .shl .i64 1 2=4:=by kernel_rfl
    have eU:xwr .u64 2=2:=by kernel_rfl
    have eH:xar .add .i64 2 8=10:=by kernel_rfl
    have eU2:xwr .u64 10=10:=by kernel_rfl
    have eI:xar .sub .i64 (xar .add .i64 1 2) 1=((2:Nat):Int):=by kernel_rfl
    have eP:xar .add .i64 ((p+1:Nat):Int) 4=((p+1+4:Nat):Int):=by rw [add_i64 (by omega) (by omega)]; omega
    have eW:xwr .u64 ((p+1+4:Nat):Int)=((p+1+4:Nat):Int):=wrap_u64 (by omega) (by omega)
    have eW1:xwr .u64 ((p+1:Nat):Int)=((p+1:Nat):Int):=wrap_u64 (by omega) (by omega)
    rw [k,show 2 ^ 2=4 from rfl] at h7
    by_cases c3:p+1+4≤N
    ·rw [if_pos c3] at h7
     have L0:(ws.set p (2:Int)).length=N:=by rw [List.length_set,h3]
     have s0:=us_set (us:=ws) (i:=p) (2:Int) (by omega)
     have n0:=noIds_Iu64 (ws.set p (2:Int))
     have l0:=encIu64_len (ws.set p (2:Int))
     have lw:=encIu64_len ws
     have hI:=inU_wst (x:=x) h4 (show p≤1000 by omega)
     have hL:=wst_len ws p x
     have nwst:=noIds_Iu64 (wst ws p x)
     cases fA:xcm .gtr (xar .and .u8 x 16) 0 with
     | true =>
       have eR:wst ws p x=((ws.set p (2:Int)).set p (10:Int)).set 5 ((p+1+4:Nat):Int):=by
        rw [wst,show wdA x=true from fA,if_pos rfl,k]; rfl
       have s1:=us_set (us:=ws.set p (2:Int)) (i:=p) (10:Int) (by omega)
       have l1:=encIu64_len ((ws.set p (2:Int)).set p (10:Int))
       have L1:((ws.set p (2:Int)).set p (10:Int)).length=N:=by rw [List.length_set,L0]
       have s2:=us_set (us:=(ws.set p (2:Int)).set p (10:Int)) (i:=5) ((p+1+4:Nat):Int) (by omega)
       rw [← eR] at s2
       simp only [wd_nat,wd_ix,wd_mul,wd_add,Nat.zero_add,Nat.mul_one,gx,wd_asI,wd_isI,decide_true,cond_true,lb,eC,eU,eS,ep,eP,e3,fA,s0,lw,h3,eH,eU2,s1,l0,L0,eW,l1,L1,s2,wd_ln]
       (refine zR ?_)
       exact⟨rfl,⟨(i+1,wst ws p x,p+1+4),by simp only; omega,by simp only; omega,by simp only; omega,hI,by simp only; omega,by simp only; omega,h7⟩,by simp only; omega,[.id 0,.id 1],by(exact zC)⟩
     | false =>
       cases fB:xcm .gtr (xar .and .u8 x 32) 0 with
       | true =>
         have eR:wst ws p x=(((ws.set p (2:Int)).set (p+1) ((ws.set p (2:Int)).getD 2 0)).set 2 ((p+1:Nat):Int)).set 5 ((p+1+4:Nat):Int):=by
          rw [wst,show wdA x=false from fA,if_neg (by simp),show wdB x=true from fB,if_pos rfl,k]; rfl
         have g1:=u_nth (us:=ws.set p (2:Int)) (i:=2) (by omega)
         have s1:=us_set (us:=ws.set p (2:Int)) (i:=p+1) ((ws.set p (2:Int)).getD 2 0) (by omega)
         have l1:=encIu64_len ((ws.set p (2:Int)).set (p+1) ((ws.set p (2:Int)).getD 2 0))
         have L1:((ws.set p (2:Int)).set (p+1) ((ws.set p (2:Int)).getD 2 0)).length=N:=by rw [List.length_set,L0]
         have s2:=us_set (us:=(ws.set p (2:Int)).set (p+1) ((ws.set p (2:Int)).getD 2 0)) (i:=2) ((p+1:Nat):Int) (by omega)
         have l2:=encIu64_len (((ws.set p (2:Int)).set (p+1) ((ws.set p (2:Int)).getD 2 0)).set 2 ((p+1:Nat):Int))
         have L2:(((ws.set p (2:Int)).set (p+1) ((ws.set p (2:Int)).getD 2 0)).set 2 ((p+1:Nat):Int)).length=N:=by rw [List.length_set,L1]
         have s3:=us_set (us:=((ws.set p (2:Int)).set (p+1) ((ws.set p (2:Int)).getD 2 0)).set 2 ((p+1:Nat):Int)) (i:=5) ((p+1+4:Nat):Int) (by omega)
         rw [← eR] at s3
         simp only [wd_nat,wd_ix,wd_mul,wd_add,Nat.zero_add,Nat.mul_one,gx,wd_asI,wd_isI,decide_true,cond_true,lb,eC,eU,eS,ep,eP,e3,fA,fB,cond_false,s0,lw,h3,eI,g1,s1,s2,eW,eW1,l0,L0,l1,L1,l2,L2,s3,wd_ln]
         (refine zR ?_)
         exact⟨rfl,⟨(i+1,wst ws p x,p+1+4),by simp only; omega,by simp only; omega,by simp only; omega,hI,by simp only; omega,by simp only; omega,h7⟩,by simp only; omega,[.id 0,.id 1],by(exact zC)⟩
       | false =>
         have eR:wst ws p x=(ws.set p (2:Int)).set 5 ((p+1+4:Nat):Int):=by
          rw [wst,show wdA x=false from fA,if_neg (by simp),show wdB x=false from fB,if_neg (by simp),k]; rfl
         have s1:=us_set (us:=ws.set p (2:Int)) (i:=5) ((p+1+4:Nat):Int) (by omega)
         rw [← eR] at s1
         simp only [wd_nat,wd_ix,wd_mul,wd_add,Nat.zero_add,Nat.mul_one,gx,wd_asI,wd_isI,decide_true,cond_true,lb,eC,eU,eS,ep,eP,e3,fA,fB,cond_false,s0,lw,h3,eW,l0,L0,s1,wd_ln]
         (refine zR ?_)
         exact⟨rfl,⟨(i+1,wst ws p x,p+1+4),by simp only; omega,by simp only; omega,by simp only; omega,hI,by simp only; omega,by simp only; omega,h7⟩,by simp only; omega,[.id 0,.id 1],by(exact zC)⟩
    ·rw [if_neg c3] at h7
     simp only [wd_nat,wd_ix,wd_mul,wd_add,Nat.zero_add,Nat.mul_one,gx,wd_asI,wd_isI,decide_true,cond_true,lb,eC,eU,eS,ep,eP,wd_ln]
     (refine zR ?_)
     exact⟨rfl,(⟨(ws,p),h7.symm⟩,i),[.id 0,.id 1],by(exact zC)⟩
   ·have eC:xar .add .i64 (xwr .i64 (xar .rem .u8 x 3)) 1=3:=by rw [er,q]; kernel_rfl
    have eS:xsh .shl .i64 1 3=8:=by kernel_rfl
    have eU:xwr .u64 3=3:=by kernel_rfl
    have eH:xar .add .i64 3 8=11:=by kernel_rfl
    have eU2:xwr .u64 11=11:=by kernel_rfl
    have eI:xar .sub .i64 (xar .add .i64 1 3) 1=((3:Nat):Int):=by kernel_rfl
    have eP:xar .add .i64 ((p+1:Nat):Int) 8=((p+1+8:Nat):Int):=by rw [add_i64 (by omega) (by omega)]; omega
    have eW:xwr .u64 ((p+1+8:Nat):Int)=((p+1+8:Nat):Int):=wrap_u64 (by omega) (by omega)
    have eW1:xwr .u64 ((p+1:Nat):Int)=((p+1:Nat):Int):=wrap_u64 (by omega) (by omega)
    rw [k,show 2 ^ 3=8 from rfl] at h7
    by_cases c3:p+1+8≤N
    ·rw [if_pos c3] at h7
     have L0:(ws.set p (3:Int)).length=N:=by rw [List.length_set,h3]
     have s0:=us_set (us:=ws) (i:=p) (3:Int) (by omega)
     have n0:=noIds_Iu64 (ws.set p (3:Int))
     have l0:=encIu64_len (ws.set p (3:Int))
     have lw:=encIu64_len ws
     have hI:=inU_wst (x:=x) h4 (show p≤1000 by omega)
     have hL:=wst_len ws p x
     have nwst:=noIds_Iu64 (wst ws p x)
     cases fA:xcm .gtr (xar .and .u8 x 16) 0 with
     | true =>
       have eR:wst ws p x=((ws.set p (3:Int)).set p (11:Int)).set 5 ((p+1+8:Nat):Int):=by
        rw [wst,show wdA x=true from fA,if_pos rfl,k]; rfl
       have s1:=us_set (us:=ws.set p (3:Int)) (i:=p) (11:Int) (by omega)
       have l1:=encIu64_len ((ws.set p (3:Int)).set p (11:Int))
       have L1:((ws.set p (3:Int)).set p (11:Int)).length=N:=by rw [List.length_set,L0]
       have s2:=us_set (us:=(ws.set p (3:Int)).set p (11:Int)) (i:=5) ((p+1+8:Nat):Int) (by omega)
       rw [← eR] at s2
       simp only [wd_nat,wd_ix,wd_mul,wd_add,Nat.zero_add,Nat.mul_one,gx,wd_asI,wd_isI,decide_true,cond_true,lb,eC,eU,eS,ep,eP,e3,fA,s0,lw,h3,eH,eU2,s1,l0,L0,eW,l1,L1,s2,wd_ln]
       (refine zR ?_)
       exact⟨rfl,⟨(i+1,wst ws p x,p+1+8),by simp only; omega,by simp only; omega,by simp only; omega,hI,by simp only; omega,by simp only; omega,h7⟩,by simp only; omega,[.id 0,.id 1],by(exact zC)⟩
     | false =>
       cases fB:xcm .gtr (xar .and .u8 x 32) 0 with
       | true =>
         have eR:wst ws p x=(((ws.set p (3:Int)).set (p+1) ((ws.set p (3:Int)).getD 3 0)).set 3 ((p+1:Nat):Int)).set 5 ((p+1+8:Nat):Int):=by
          rw [wst,show wdA x=false from fA,if_neg (by simp),show wdB x=true from fB,if_pos rfl,k]; rfl
         have g1:=u_nth (us:=ws.set p (3:Int)) (i:=3) (by omega)
         have s1:=us_set (us:=ws.set p (3:Int)) (i:=p+1) ((ws.set p (3:Int)).getD 3 0) (by omega)
         have l1:=encIu64_len ((ws.set p (3:Int)).set (p+1) ((ws.set p (3:Int)).getD 3 0))
         have L1:((ws.set p (3:Int)).set (p+1) ((ws.set p (3:Int)).getD 3 0)).length=N:=by rw [List.length_set,L0]
         have s2:=us_set (us:=(ws.set p (3:Int)).set (p+1) ((ws.set p (3:Int)).getD 3 0)) (i:=3) ((p+1:Nat):Int) (by omega)
         have l2:=encIu64_len (((ws.set p (3:Int)).set (p+1) ((ws.set p (3:Int)).getD 3 0)).set 3 ((p+1:Nat):Int))
         have L2:(((ws.set p (3:Int)).set (p+1) ((ws.set p (3:Int)).getD 3 0)).set 3 ((p+1:Nat):Int)).length=N:=by rw [List.length_set,L1]
         have s3:=us_set (us:=((ws.set p (3:Int)).set (p+1) ((ws.set p (3:Int)).getD 3 0)).set 3 ((p+1:Nat):Int)) (i:=5) ((p+1+8:Nat):Int) (by omega)
         rw [← eR] at s3
         simp only [wd_nat,wd_ix,wd_mul,wd_add,Nat.zero_add,Nat.mul_one,gx,wd_asI,wd_isI,decide_true,cond_true,lb,eC,eU,eS,ep,eP,e3,fA,fB,cond_false,s0,lw,h3,eI,g1,s1,s2,eW,eW1,l0,L0,l1,L1,l2,L2,s3,wd_ln]
         (refine zR ?_)
         exact⟨rfl,⟨(i+1,wst ws p x,p+1+8),by simp only; omega,by simp only; omega,by simp only; omega,hI,by simp only; omega,by simp only; omega,h7⟩,by simp only; omega,[.id 0,.id 1],by(exact zC)⟩
       | false =>
         have eR:wst ws p x=(ws.set p (3:Int)).set 5 ((p+1+8:Nat):Int):=by
          rw [wst,show wdA x=false from fA,if_neg (by simp),show wdB x=false from fB,if_neg (by simp),k]; rfl
         have s1:=us_set (us:=ws.set p (3:Int)) (i:=5) ((p+1+8:Nat):Int) (by omega)
         rw [← eR] at s1
         simp only [wd_nat,wd_ix,wd_mul,wd_add,Nat.zero_add,Nat.mul_one,gx,wd_asI,wd_isI,decide_true,cond_true,lb,eC,eU,eS,ep,eP,e3,fA,fB,cond_false,s0,lw,h3,eW,l0,L0,s1,wd_ln]
         (refine zR ?_)
         exact⟨rfl,⟨(i+1,wst ws p x,p+1+8),by simp only; omega,by simp only; omega,by simp only; omega,hI,by simp only; omega,by simp only; omega,h7⟩,by simp only; omega,[.id 0,.id 1],by(exact zC)⟩
    ·rw [if_neg c3] at h7
     simp only [wd_nat,wd_ix,wd_mul,wd_add,Nat.zero_add,Nat.mul_one,gx,wd_asI,wd_isI,decide_true,cond_true,lb,eC,eU,eS,ep,eP,wd_ln]
     (refine zR ?_)
     exact⟨rfl,(⟨(ws,p),h7.symm⟩,i),[.id 0,.id 1],by(exact zC)⟩
  ·have e:(bs.take 8).drop i=[]:=List.drop_eq_nil_of_le (by simp; omega)
   rw [e] at h7
   (refine zR ?_)
   exact⟨rfl,(⟨(ws,p),h7.symm⟩,i),[.id 0,.id 1],by(exact zC)⟩
 ·have e:(bs.take 8).drop i=[]:=List.drop_eq_nil_of_le (by simp; omega)
  rw [e] at h7
  (refine zR ?_)
  exact⟨rfl,(⟨(ws,p),h7.symm⟩,i),[.id 0,.id 1],by(exact zC)⟩
theorem wq_ok (n:Int) (bs:List Int) (hb:∀ y∈bs,0≤y∧y≤255) (hm:bs.length≤9223372036854775807):SFun prog 6 [.int .i64 n,.nils,.slo 0 0 bs.length 0] (mkS [.ro (encL (cI .u8) bs)]) fun l t=>l=.slo 1 0 (wdK n) 0∧t=mkS [.ro (encL (cI .u8) bs),.cells (encL (cI .u64) (wdF (wdK n) bs)) (some 1)]:=by
 refine SFun.mono (SFun.pieces (Q:=fun l b=>l=.slo 1 0 (wdK n) 0∧b=[.ro (encL (cI .u8) bs),.cells (encL (cI .u64) (wdF (wdK n) bs)) (some 1)]) 114 1 wdL [6] (by kernel_rfl) rfl rfl rfl ?_) fun l s' ⟨b0,⟨h1,h2⟩,h3⟩=>⟨h1,by rw [h3,h2]⟩
 have nb:=noIds_Iu8 bs; have lb:=encIu8_len bs
 obtain⟨N1,N2,eN⟩:=wdK_b n
 generalize wdK n=N at *
 have n0:=noIds_Iu64 (wd0 N)
 refine SSp.to cxwd_ok (n:=40) (g:=[]) 4 4 rfl (σ:=Unit) (fun _=>wdT0 bs.length N 0) (fun _=>wdH (encL (cI .u8) bs) (encL (cI .u64) (wd0 N))) (mkS_le (Nat.le_of_ble_eq_true rfl)) (by kernel_rfl) ?_ fun _=>?_
 ·have s0:=us_set (us:=List.replicate N 0) (i:=5) 14 (by simp; omega)
  have l0:(encL (cI .u64) (List.replicate N (0:Int))).length=N:=by rw [encIu64_len,List.length_replicate]
  have l1:(encL (cI .u64) (wd0 N)).length=N * 1:=by rw [encIu64_len,wd0_len,Nat.mul_one]
  rw [show(List.replicate N (0:Int)).set 5 14=wd0 N from rfl] at s0
  rw [wq_a]
  simp only [eN,wd_nat,repU,s0,wd_ln,l0,cond_true]
  (refine zR ?_)
  exact⟨rfl,(),[.id 0,.cap 1 0 N],by(exact zC)⟩
 try dsimp only
 refine SSp.code_to (g:=[]) 5 rfl (σ:=Unit) (fun _=>wdT0 bs.length N 0) (fun _=>wdH (encL (cI .u8) bs) (encL (cI .u64) (wd0 N))) (by kernel_rfl) ?_ fun _=>?_
 ·refine SCode.loop_vc cxwd_ok (n:=40) 0 (by kernel_rfl) (σ:=Unit) (fun _=>wdT0 bs.length N 0) (fun _=>wdH (encL (cI .u8) bs) (encL (cI .u64) (wd0 N))) (fun _=>0) (fun _=>Nat.le_of_ble_eq_true rfl) (fun _=>?_) ()
  rw [wq_b]
  exact⟨rfl,(),[.id 0,.id 1],by(exact zC)⟩
 try dsimp only
 refine SSp.to cxwd_ok (n:=40) (g:=[]) 2 7 rfl (σ:=Unit) (fun _=>wdT bs.length N 14 0) (fun _=>wdH (encL (cI .u8) bs) (encL (cI .u64) (wd0 N))) (mkS_le (Nat.le_of_ble_eq_true rfl)) (by kernel_rfl) ?_ fun _=>?_
 ·rw [wq_c]
  exact⟨rfl,(),[.id 0,.id 1],by(exact zC)⟩
 try dsimp only
 refine SSp.code_to (g:=[]) 8 rfl (σ:=wqR bs N×Nat) (fun q=>wdT bs.length N q.1.1.2 q.2) (fun q=>wdH (encL (cI .u8) bs) (encL (cI .u64) q.1.1.1)) (by kernel_rfl) (wq_loop bs hb hm N ⟨N1,N2⟩ _) fun⟨⟨⟨ws,p⟩,hq⟩,i⟩=>?_
 dsimp only at hq ⊢
 subst hq
 have nf:=noIds_Iu64 (wdF N bs)
 refine SSp.last cxwd_ok (n:=40) (mkS_le (Nat.le_of_ble_eq_true rfl)) ?_
 rw [wq_z]
 exact⟨trivial,rfl,_,_,[.id 0,.id 1],⟨rfl,rfl⟩,by(exact zC)⟩
def okB8 (bx:List LV) (m:Nat):Bool:=@decide (∃ bs:List Int,bx=encL (cI .u8) bs∧m=bs.length∧m≤9223372036854775807∧∀ y∈bs,0≤y∧y≤255) (Classical.propDecidable _)
theorem okB8_iff {bx:List LV} {m:Nat}:okB8 bx m=true↔∃ bs:List Int,bx=encL (cI .u8) bs∧m=bs.length∧m≤9223372036854775807∧∀ y∈bs,0≤y∧y≤255:=by simp only [okB8,decide_eq_true_eq]
def wdN (n:Int):Nat:=wdK n
def wdC (n:Int) (bx:List LV):List LV:=encL (cI .u64) (wdF (wdK n) (decIu8 bx))
theorem wq_cc (n:Int) (m:Nat) (bx:List LV) (k1:okB8 bx m=true):SFun prog 6 [.int .i64 n,.nils,.slo 0 0 m 0] (mkS [.ro bx]) fun l t=>l=.slo 1 0 (wdN n) 0∧t=mkS [.ro bx,.cells (wdC n bx) (some 1)]:=by
 obtain⟨bs,rfl,rfl,h,hb⟩:=okB8_iff.1 k1
 rw [wdC,decIu8_enc]
 exact wq_ok n bs hb h
theorem okB8_no {bx:List LV} {m:Nat} (k1:okB8 bx m=true):noIds bx=true:=by obtain⟨bs,rfl,_⟩:=okB8_iff.1 k1; exact noIds_Iu8 _
def wdsG:Gc:=fun args s=>match args,s.g with
 | [.int .i64 n,.nils,.slo b 0 m 0],[]=>(match s.h.get b with
   | some (.ro bx)=>(match s.lay [b] [.ro bx] [.cells (wdC n bx) (some 1)] with
     | some s'=>some ([okB8 bx m],.slo s.n 0 (wdN n) 0,s')
     | none=>none)
   | _=>none)
 | _,_=>none
theorem wdsG_ok:GOk prog 6 wdsG:=by
 intro args s bs l s' hg hb hfr
 unfold wdsG at hg
 split at hg
 ·rename_i n b m hgl
  split at hg
  ·rename_i bx hb0
   split at hg
   ·rename_i s1 hs1
    simp only [Option.some.injEq,Prod.mk.injEq] at hg
    obtain⟨rfl,rfl,rfl⟩:=hg
    simp only [allT_cons] at hb
    obtain⟨k1,_⟩:=hb
    have no:noIds bx=true:=okB8_no k1
    refine SFun.lay (bs:=[.ro bx]) (args0:=[.int .i64 n,.nils,.slo 0 0 m 0]) (bs':=[.ro bx,.cells (wdC n bx) (some 1)]) (v0:=.slo 1 0 (wdN n) 0) hfr hs1 (by simp)
     ⟨⟨there hfr hb0,_,hb0,lb_ro (by(exact zId)),fun κ hκ=>lb_ro (by(exact zId))⟩,trivial⟩ (by(exact zTl)) ?_
     fun κ h1 h2=>⟨⟨lb_ro (by(exact zId)),lb_same (noIds_Iu64 _),trivial⟩,lw_slo (h2 0 (by simp))⟩
    rw [hgl]; exact(wq_cc n m bx k1)
   ·cases hg
  ·cases hg
 ·cases hg
end
end Go.Lev
