/- HistoryHeap (P29.2): for any draws and any words the law returns true; what was there stays as it was. -/
import Derived.Test.YtagmiaajpkpmjaaCJ15
import Derived.Test.YtagmiaajpkpmjaaLc
import Derived.Test.YtagmiaajpkpmjaaChecked
import Derived.KernelRfl
namespace Go.Lev
set_option linter.unusedSimpArgs false
set_option linter.unusedVariables false
open Go.RowKit
open Go.Proofs.Try (prog)
set_option maxRecDepth 100000
noncomputable section
theorem cut1 {l:List LV} {i:Nat} {x:LV} (h:i < l.length) (e:nthD l i=x):(l.drop i).take 1=[x]:=by
 refine List.ext_getElem? fun j=>?_
 rw [List.getElem?_take]
 match j with
 | 0 =>
   rw [if_pos (by omega),List.getElem?_drop]
   unfold nthD at e
   rw [nth_eq] at e
   simp only [Nat.add_zero]
   rw [List.getElem?_eq_getElem h] at e ⊢
   simp only at e
   rw [e]; rfl
 | j+1=>rw [if_neg (by omega)]; simp
theorem hw0_id {h:List Int} (hl:32≤h.length∧h.length≤256) (h0:h.getD 0 0=0):hw0 h=h:=by
 have e:clN h.length=h.length:=by unfold clN; omega
 refine List.ext_getElem? fun i=>?_
 unfold hw0
 rw [List.getElem?_map,e]
 by_cases c:i < h.length
 ·rw [List.getElem?_range c,List.getElem?_eq_getElem c]
  simp only [Option.map_some]
  by_cases z:i=0
  ·subst z
   rw [if_pos rfl]
   rw [List.getD_eq_getElem?_getD,List.getElem?_eq_getElem c] at h0
   simp only [Option.getD_some] at h0
   rw [h0]
  ·rw [if_neg z,List.getD_eq_getElem?_getD,List.getElem?_eq_getElem c]; rfl
 ·rw [List.getElem?_eq_none (by simpa using c),List.getElem?_eq_none (by omega)]; rfl
theorem hw0_z (xs:List Int):(hw0 xs).getD 0 0=0:=by
 have hc:=clN_le xs.length
 unfold hw0
 rw [List.getD_eq_getElem?_getD,List.getElem?_map,List.getElem?_range (by omega)]; rfl
theorem apN_z:∀ (c:List (Int×Int)) (l:List Int),(apN l c).getD 0 0=l.getD 0 0
 | [],l=>rfl
 | x::r,l=>by
   rw [show apN l (x::r)=apN (ap1 l x) r from rfl,apN_z r]
   unfold ap1
   split
   ·rw [List.getD_eq_getElem?_getD,List.getElem?_set_ne (by omega),← List.getD_eq_getElem?_getD]
   ·rfl
theorem hpX_z (F:World→Prop) (ax:List LV) (os:List Nat) (xs:List Int):∀ j,(hpX F ax os xs j).getD 0 0=0
 | 0=>hw0_z xs
 | j+1=>by
   rw [hpX,bhP]
   split
   ·rw [apN_z,hw0_z]
   ·exact hpX_z F ax os xs j
theorem whin:allIn [4] wL=true:=by kernel_rfl
set_option maxHeartbeats 8000000 in
theorem hh_rest (ats:List AtV) (h20:ats.length≤20) (dx:List LV) (nd:noIds dx=true) (xs:List Int) (hx:xs.length≤100) (F:World→Prop) (hC:∀ x∈ats,okVs F x.c x.cs) (hB:∀ x∈ats,∀ y∈x.cs,1≤y.1∧y.1≤5) :
  SW prog 105 4 (wS.drop 6) (mkTm 105 (wT0 xs.length ats.length)) (mkS [.ro dx,.ro (encL (cI .u64) xs),.ro (encL atC ats),.dead,.dead,.dead] (factG F)):=by
 have kA:okAt (encL atC ats) ats.length=true:=okAt_iff.2 ⟨ats,rfl,rfl,h20⟩
 have kH:okH F (encL atC ats) ats.length=true:=okH_iff.2 ⟨ats,⟨rfl,rfl,h20⟩,fun x hx=>okV_iff.2 ⟨_,hC x hx⟩⟩
 have kW:okIu64 (encL (cI .u64) xs) xs.length=true:=okIu64_enc (by omega)
 have nw:=noIds_Iu64 xs
 have na:=noids_aC ats; have la:=atC_n ats
 have ga:=fun {p:Nat} (h:p < ats.length)=>at_at h
 have hcs:=fun {p:Nat} {P:AtV} (e:ats[p]? = some P)=>hC P (List.mem_of_getElem? e)
 have hbs:=fun {p:Nat} {P:AtV} (e:ats[p]? = some P)=>hB P (List.mem_of_getElem? e)
 have eO:orW (encL atC ats) ats.length=encL nI (srt (ltC (encL atC ats)) ats.length ats.length):=rfl
 have pl:=srt_pl (lt:=ltC (encL atC ats)) (n:=ats.length) ats.length (Nat.le_refl _)
 have e0:hpW F (encL atC ats) (encL (cI .u64) xs) ats.length 0=encL (cI .u64) (hpX F (encL atC ats) (srt (ltC (encL atC ats)) ats.length ats.length) xs 0):=by rw [hpW,decIu64_enc]; rfl
 have eM:hpW F (encL atC ats) (encL (cI .u64) xs) ats.length (ats.length:Int)=encL (cI .u64) (hpX F (encL atC ats) (srt (ltC (encL atC ats)) ats.length ats.length) xs ats.length):=by rw [hpW,decIu64_enc,Int.toNat_natCast]
 generalize encL atC ats=ax at *
 generalize ats.length=m at *
 generalize srt (ltC ax) m m=os at *
 have no:=noids_nI os; have lo:=nI_n os; have ol:=pl.l
 have hl:=hpX_len F ax os xs
 have hz:=hpX_z F ax os xs
 have hc:=clN_le xs.length
 have nh:=fun j=>noIds_Iu64 (hpX F ax os xs j)
 have lh:=fun j=>encIu64_len (hpX F ax os xs j)
 have z0:xle m m=true:=t_le (Nat.le_refl _)
 have nm:=nh m
 refine SW.to cxq2_ok (n:=60) (n0:=0) (g:=factG F) 6 12 rfl whin (by omega) (σ:=Unit) (fun _=>wT m (clN xs.length) 0) (fun _=>wH ax (encL nI os) (encL (cI .u64) (hpX F ax os xs m)) (encL (cI .u64) (hpX F ax os xs 0))) (mkS_le (Nat.zero_le _)) ?_ fun _=>?_
 ·have y0:xcm .neq ((m:Nat):Int) ((m:Nat):Int)=false:=f_neq rfl
  have y1:xcm .neq ((clN xs.length:Nat):Int) ((clN xs.length:Nat):Int)=false:=f_neq rfl
  have y2:xcm .lss ((clN xs.length:Nat):Int) 32=false:=f_lss (by omega)
  have y3:xcm .leq 0 (Int.ofNat m)=true:=t_leq (Int.natCast_nonneg m)
  have y4:xcm .leq 0 ((m:Nat):Int)=true:=t_leq (by omega)
  have y5:xcm .leq ((m:Nat):Int) (Int.ofNat m)=true:=t_leq (Int.le_refl _)
  have z1:xle (clN xs.length) (clN xs.length)=true:=t_le (Nat.le_refl _)
  have z2:xle (clN xs.length * 8) 140737488355328=true:=t_le (by omega)
  have z3:xle (clN xs.length) 140737488355328=true:=t_le (by omega)
  have n0:=nh 0
  have l0:=lh 0
  have cX:xcut (encL (cI .u64) (hpX F ax os xs 0)) 0 (clN xs.length)=encL (cI .u64) (hpX F ax os xs 0):=xcut_all (by rw [lh,hl]; exact Nat.le_refl _)
  rw [lw_b]
  simp only [kA,kW,kH,y0,y1,y2,y3,y4,y5,e0,eM,lh,hl,cX,wd_mul,wd_add,wd_ln,Nat.zero_add,Nat.mul_one,z1,z2,z3,cond_true,cond_false]
  rw [eO]
  exact⟨rfl,(),[.id 2,.id 6,.id 8,.id 9],by(exact zC)⟩
 try dsimp only
 refine SW.code_to (g:=factG F) (n0:=0) 13 rfl whin (by omega) (σ:=Unit) (fun _=>wT m (clN xs.length) m) (fun _=>wH ax (encL nI os) (encL (cI .u64) (hpX F ax os xs m)) (encL (cI .u64) (hpX F ax os xs m))) (by kernel_rfl) (mkS_le (Nat.zero_le _)) ?_ fun _=>?_
 ·refine SCode.loop_sp 0 (by kernel_rfl) (σ:={i:Nat // i≤m}) (fun i=>wT m (clN xs.length) i.1) (fun i=>wH ax (encL nI os) (encL (cI .u64) (hpX F ax os xs m)) (encL (cI .u64) (hpX F ax os xs i.1))) (fun i=>m - i.1) (fun _=>Nat.zero_le _) (fun⟨i,hi⟩=>?_) ⟨0,Nat.zero_le _⟩
  dsimp only
  have n1:=nh i
  have n2:=nh (i+1)
  refine SSp.to cxq2_ok (n:=60) (g:=factG F) 2 2 rfl (σ:={_u:Unit // i < m}) (fun _=>wT m (clN xs.length) i) (fun _=>wH ax (encL nI os) (encL (cI .u64) (hpX F ax os xs m)) (encL (cI .u64) (hpX F ax os xs i))) (mkS_le (Nat.zero_le _)) (by kernel_rfl) ?_ fun⟨_,h0⟩=>?_
  ·rw [lw_c]
   by_cases h0:i < m
   ·have y0:xcm .lss ((i:Nat):Int) ((m:Nat):Int)=true:=t_lss (by omega)
    simp only [y0,cond_true]
    exact⟨rfl,⟨(),h0⟩,[.id 0,.id 1,.id 2,.id 3],by(exact zC)⟩
   ·obtain rfl:i=m:=by omega
    have y0:xcm .lss ((i:Nat):Int) ((i:Nat):Int)=false:=f_lss (by omega)
    simp only [y0,cond_false]
    exact⟨rfl,(),[.id 0,.id 1,.id 2,.id 3],by(exact zC)⟩
  try dsimp only
  refine SSp.code_to (g:=factG F) 3 rfl (σ:=Unit) (fun _=>wT m (clN xs.length) i) (fun _=>wH ax (encL nI os) (encL (cI .u64) (hpX F ax os xs m)) (encL (cI .u64) (hpX F ax os xs (i+1)))) (by kernel_rfl) ?_ fun _=>?_
  ·refine SCode.block_sp 1 (by kernel_rfl) ?_
   have b0:=pl.b i h0
   have w0:nthD (encL nI os) i=.int .i64 (os.getD i 0:Nat):=nI_0 (by omega)
   have eX:hpX F ax os xs (i+1)=bhP F ax (hpX F ax os xs i) (os.getD i 0):=rfl
   generalize hp:os.getD i 0=p at *
   obtain⟨P,eP,p0,p1,p2,p3,p4,p5,p6,p7,p8,p9,p10,p11,p12,p13⟩:=ga b0
   obtain⟨hs,hF,hm⟩:=hcs eP
   have hb:=hbs eP
   have eC:csF F P.c=P.cs:=csF_eq ⟨hs,hF,hm⟩
   have eB:bhP F ax (hpX F ax os xs i) p=if P.k=2 then apN (hpX F ax os xs i) P.cs else hpX F ax os xs i:=by
    show(if asI (nthD ax (p * 14+1+1+1+1))=2 then apN (hw0 (hpX F ax os xs i)) (csF F (asV (nthD ax (p * 14+1+1+1+1+1+1+1+1+1+1+1)))) else hpX F ax os xs i)=_
    rw [p4,p11,hw0_id (by rw [hl]; exact hc) (hz i)]
    show(if P.k=2 then apN (hpX F ax os xs i) (csF F P.c) else hpX F ax os xs i)=_
    rw [eC]
   have hS0:isS (.str [])=true:=rfl
   have hS1:asS (.str [])=[]:=rfl
   refine SSp.to cxq2_ok (n:=60) (g:=factG F) 4 4 rfl (σ:=Unit) (fun _=>wT2 m (clN xs.length) i 0) (fun _=>wH2 ax (encL nI os) (encL (cI .u64) (hpX F ax os xs m)) (encL (cI .u64) (hpX F ax os xs i)) P.k P.b P.e P.s P.r P.c) (mkS_le (Nat.zero_le _)) (by kernel_rfl) ?_ fun _=>?_
   ·have y2:xcm .lss ((p:Nat):Int) 0=false:=f_lss (by omega)
    have y3:xcm .geq ((p:Nat):Int) ((m:Nat):Int)=false:=f_geq (by omega)
    have y1:xle (i+1) m=true:=t_le (by omega)
    have z2:xle (p+1) m=true:=t_le (by omega)
    have z4:xle (p * 14+14) (m * 14)=true:=t_le (by omega)
    rw [lw_d]
    simp only [y1,y2,y3,z2,z4,w0,lo,ol,la,hq_i,hq_b,hq_s,hq_v,wd_nat,wd_nn,wd_ix,wd_mul,wd_add,wd_ln,Nat.zero_add,Nat.mul_one,wd_asI,wd_isI,wd_asB,wd_isB,wd_asV,wd_isV,decide_true,cond_true,cond_false,p0,p1,p2,p3,p4,p5,p6,p7,p8,p9,p10,p11,p12,p13,hS0,hS1]
    exact⟨rfl,(),[.id 0,.id 1,.id 2,.id 3,.id 4],by(exact zC)⟩
   try dsimp only
   obtain⟨W1,hW1⟩:=hs
   have ev:=vlen_row (hF W1 hW1)
   refine SSp.code_last (by kernel_rfl) ?_
   refine SCode.loop_vc cxq2_ok (n:=60) (n0:=0) 2 (by kernel_rfl) (σ:={k:Nat // k≤P.cs.length∧(k=0∨P.k=2)}) (fun k=>wT2 m (clN xs.length) i k.1) (fun k=>wH2 ax (encL nI os) (encL (cI .u64) (hpX F ax os xs m)) (encL (cI .u64) (apN (hpX F ax os xs i) (P.cs.take k.1))) P.k P.b P.e P.s P.r P.c) (fun k=>P.cs.length - k.1) (fun _=>Nat.zero_le _) (fun⟨k,hk⟩=>?_) ⟨0,Nat.zero_le _,.inl rfl⟩
   dsimp only at hk ⊢
   have nk:=noIds_Iu64 (apN (hpX F ax os xs i) (P.cs.take k))
   have lk:=encIu64_len (apN (hpX F ax os xs i) (P.cs.take k))
   have ll:(apN (hpX F ax os xs i) (P.cs.take k)).length=clN xs.length:=by rw [apN_len,hl]
   rw [lw_e]
   by_cases g1:P.k=2
   ·have t1:xcm .eql P.k 2=true:=t_eql g1
    rw [if_pos g1] at eB
    by_cases c0:k < P.cs.length
    ·have t2:xcm .lss ((k:Nat):Int) ((P.cs.length:Nat):Int)=true:=t_lss (by omega)
     have q0:(P.cs.length) * 2=(encL cell P.cs).length:=(cell_n _).symm
     obtain⟨k1,k2⟩:=vrow_eq ⟨W1,hW1⟩ hF (can_c P.cs) (k:=k * 2) (m:=1) (by omega) (by omega)
     obtain⟨k3,k4⟩:=vrow_eq ⟨W1,hW1⟩ hF (can_c P.cs) (k:=k * 2+1) (m:=1) (by omega) (by omega)
     rw [cut1 (by omega) (cell_0 c0)] at k2
     rw [cut1 (by omega) (cell_1 c0)] at k4
     have kx:=vidx_row (hF W1 hW1) c0
     have hy:=hb P.cs[k] (List.getElem_mem c0)
     have w1:nthD [LV.int .i64 P.cs[k].1] 0=.int .i64 P.cs[k].1:=rfl
     have w2:nthD [LV.int .u64 P.cs[k].2] 0=.int .u64 P.cs[k].2:=rfl
     have w3:xln [LV.int .i64 P.cs[k].1]=1:=rfl
     have w4:xln [LV.int .u64 P.cs[k].2]=1:=rfl
     have w5:xle 1 1=true:=rfl
     have e1:xar .add .i64 (k:Int) 1=((k+1:Nat):Int):=inc_i64 c0 (by omega)
     have t3:xnn P.cs[k].1=true:=by obtain⟨q,hq⟩:∃ q:Nat,P.cs[k].1=(q:Int):=⟨P.cs[k].1.toNat,by omega⟩; rw [hq,wd_nn]
     have t4:xle (P.cs[k].1.toNat+1) (clN xs.length)=true:=t_le (by omega)
     have s1:=set_I (apN (hpX F ax os xs i) (P.cs.take k)) P.cs[k].1.toNat P.cs[k].2 (by rw [ll]; omega)
     have eT:=apN_take (hpX F ax os xs i) P.cs c0
     have e:ap1 (apN (hpX F ax os xs i) (P.cs.take k)) P.cs[k]=(apN (hpX F ax os xs i) (P.cs.take k)).set P.cs[k].1.toNat P.cs[k].2:=by rw [ap1,ll,if_pos ⟨hy.1,by omega⟩]
     have nk2:=noIds_Iu64 ((apN (hpX F ax os xs i) (P.cs.take k)).set P.cs[k].1.toNat P.cs[k].2)
     simp only [t1,t2,t3,t4,ev,kx,k1,k2,k3,k4,w1,w2,w3,w4,w5,e1,lk,ll,s1,hq_i,wd_nat,show xnat P.cs[k].1=P.cs[k].1.toNat from rfl,wd_ix,wd_mul,wd_add,wd_ln,Nat.zero_add,Nat.mul_one,wd_asI,wd_isI,decide_true,cond_true]
     exact⟨rfl,⟨k+1,c0,.inr g1⟩,by dsimp only; omega,[.id 0,.id 1,.id 2,.id 3,.id 4],by dsimp only; rw [eT,e]; (exact zC)⟩
    ·have t2:xcm .lss ((k:Nat):Int) ((P.cs.length:Nat):Int)=false:=f_lss (by omega)
     have ek:P.cs.take k=P.cs:=List.take_of_length_le (by omega)
     rw [ek] at nk ⊢
     simp only [t1,t2,ev,cond_true,cond_false]
     exact⟨rfl,(),[.id 0,.id 1,.id 2,.id 3],by dsimp only; rw [eX,eB]; (exact zC)⟩
   ·have t1:xcm .eql P.k 2=false:=f_eql g1
    rw [if_neg g1] at eB
    obtain rfl:k=0:=by omega
    simp only [t1,cond_false]
    exact⟨rfl,(),[.id 0,.id 1,.id 2,.id 3],by dsimp only; rw [eX,eB]; (exact zC)⟩
  try dsimp only
  have e3:xar .add .i64 (i:Int) 1=((i+1:Nat):Int):=inc_i64 h0 (by omega)
  refine SSp.last cxq2_ok (n:=60) (mkS_le (Nat.zero_le _)) ?_
  rw [lw_f,e3]
  exact⟨rfl,⟨i+1,h0⟩,by dsimp only; omega,[.id 0,.id 1,.id 2,.id 3],by(exact zC)⟩
 try dsimp only
 refine SW.last cxq2_ok (n:=60) (n0:=0) (g:=factG F) whin (by omega) (mkS_le (Nat.zero_le _)) ?_
 have kI:okIu64 (encL (cI .u64) (hpX F ax os xs m)) (clN xs.length)=true:=by rw [← hl m]; exact okIu64_enc (by rw [hl]; omega)
 rw [lw_z]
 simp only [kI,sameIu64_self,cond_true]
 exact⟨trivial,rfl,.bool true,[],[],rfl,by(exact zC)⟩
theorem hh_sw (ds:List DrV) (F:World→Prop) (hs:∃ W,F W) (hF:∀ W,F W→fDr ds W) (hu:∀ x∈ds,∀ y∈x.cs,0≤y.2) (n:Nat) (en:ds.length=n) (xs:List Int) (w:Nat) (ew:xs.length=w) :
  SW prog 105 4 (wS.drop 0) (tm0 [.slo 0 0 n 0,.slo 1 0 w 0]) (mkS [.ro (encL drC ds),.ro (encL (cI .u64) xs)] (factG F)):=by
 subst ew
 have nd:=noids_dr ds
 have nw:=noIds_Iu64 xs
 by_cases h0:n=0
 ·subst h0
  have k1:okN0 (encL drC ds)=true:=nd
  have k2:xle 0 0=true:=rfl
  refine SW.to cxl0_ok (n:=60) (n0:=2) (g:=factG F) 6 6 rfl whin (by omega) (σ:={_u:Unit // xs.length≤100}) (fun _=>wT0 xs.length 0) (fun _=>[.ro (encL drC ds),.ro (encL (cI .u64) xs),.cells [] (some 14),.dead,.dead,.dead]) (mkS_le (Nat.le_of_ble_eq_true rfl)) ?_ fun⟨_,hx⟩=>?_
  ·rw [lw_0]
   by_cases hx:xs.length≤100
   ·have y0:xcm .gtr ((xs.length:Nat):Int) 100=false:=f_gtr (by omega)
    simp only [k1,k2,y0,cond_true,cond_false]
    exact⟨rfl,⟨(),hx⟩,[.id 0,.id 1,.id 2,.id 3,.id 4,.id 5],by(exact zC)⟩
   ·have y0:xcm .gtr ((xs.length:Nat):Int) 100=true:=t_gtr (by omega)
    simp only [y0,cond_true]
    exact⟨trivial,rfl,.bool true,[.ro _,.ro _],[.id 0,.id 1],rfl,by(exact zC)⟩
  try dsimp only
  refine SW.freeze0 (g':=factG (fun _=>True)) (fun W w _ _=>Gl_fact.2 trivial) ?_
  exact hh_rest [] (by simp) (encL drC ds) nd xs hx _ (fun x hx=>by cases hx) (fun x hx=>by cases hx)
 ·have k1:okDr F (encL drC ds) n=true:=okDr_iff.2 ⟨ds,rfl,en.symm,by omega,hs,hF,hu⟩
  refine SW.to cxl1_ok (n:=60) (n0:=2) (g:=factG F) 6 6 rfl whin (by omega) (σ:={_u:Unit // xs.length≤100}) (fun _=>wT0 xs.length (m20 n)) (fun _=>[.ro (encL drC ds),.ro (encL (cI .u64) xs),.obj atF [.int .i64 (.ofNat (m20 n))] 3,.dead]) (mkS_le (Nat.le_of_ble_eq_true rfl)) ?_ fun⟨_,hx⟩=>?_
  ·rw [lw_1]
   by_cases hx:xs.length≤100
   ·have y0:xcm .gtr ((xs.length:Nat):Int) 100=false:=f_gtr (by omega)
    simp only [k1,y0,cond_true,cond_false]
    exact⟨rfl,⟨(),hx⟩,[.id 0,.id 1,.id 2,.id 3],⟨by kernel_rfl,by((repeat refine okTms_cons (by(first | exact lw_any | exact lw_int | exact lw_bool | exact lw_ptr rfl | exact lw_slo rfl | exact lw_nilp | exact lw_nils | exact lw_str | exact lw_slo_nils | exact lw_slo_sle | exact lw_sl rfl | exact lw_unb | exact lw_gptr | exact lw_noid rfl | exact lw_cap rfl (Nat.le_refl _) | exact lw_cap rfl (by omega) | assumption | exact lw_tup (by((repeat refine lws_cons (by(first | exact lw_any | exact lw_int | exact lw_bool | exact lw_ptr rfl | exact lw_slo rfl | exact lw_nilp | exact lw_nils | exact lw_str | exact lw_slo_nils | exact lw_slo_sle | exact lw_sl rfl | exact lw_unb | exact lw_gptr | exact lw_noid rfl | exact lw_cap rfl (Nat.le_refl _) | exact lw_cap rfl (by omega) | assumption)) ?_); exact lws_nil)))) ?_); exact okTms_nil),okBlks_cons (lb_ro nd) (okBlks_cons (lb_ro nw) (okBlks_cons (lb_obj rfl) (okBlks_cons lb_dead okBlks_nil)))⟩⟩
   ·have y0:xcm .gtr ((xs.length:Nat):Int) 100=true:=t_gtr (by omega)
    simp only [y0,cond_true]
    exact⟨trivial,rfl,.bool true,[.ro _,.ro _],[.id 0,.id 1],rfl,by(exact zC)⟩
  try dsimp only
  refine SW.unpack atK_ok 2 (cs:=[.int .i64 (.ofNat (m20 n))]) (γ:=3) rfl fun⟨⟨q,ats⟩,hS,h1⟩ e=>?_
  have em:ats.length=m20 n:=by
   have e' : [LV.int .i64 (ats.length:Int)]=[.int .i64 (.ofNat (m20 n))]:=e
   injection e' with e1 _
   injection e1 with _ e2
   exact Int.ofNat.inj e2
  refine SW.freeze (o:=4) (γ:=5) (q:=q) (g':=factG q.F) rfl (fun W w _ _ h=>Gl_fact.2 h) fun hq=>?_
  have hm:ats.length≤20:=by rw [em]; unfold m20; omega
  have eF:(([LB.ro (encL drC ds),.ro (encL (cI .u64) xs),.obj atF [.int .i64 (.ofNat (m20 n))] 3,.dead].set 2 (.cells (encL atC ats) (some 14)))++[stB q 5,.dead]).map fzB=[.ro (encL drC ds),.ro (encL (cI .u64) xs),.ro (encL atC ats),.dead,.dead,.dead]:=by
   obtain⟨F',e',h'⟩:=q
   cases e' <;> rfl
  rw [← em]
  have key:=hh_rest ats hm (encL drC ds) nd xs hx q.F (fun x hx=>⟨hq,fun W hW=>hS.c W hW x hx,Nat.le_trans (hS.b x hx).1 (by omega)⟩) (fun x hx y hy=>⟨((hS.b x hx).2 y hy).1,((hS.b x hx).2 y hy).2.1⟩)
  rw [← eF] at key
  exact key
theorem el_ce {H:Type} {enc:TypeId×Value→H} {W:World} (cs:List Value) (n:Nat) (x:DataW H×List MemPlace) (hl:cs.length=2) (hx:DataW.trod enc prog W 0 (fun _=>true) true n 39 cs=some x) :
  ∃ y:Int×Int,0≤y.2∧∀ (j:Nat) l,(cell y)[j]? = some l→l.plain=true∧∃ u,cs[j]? = some u∧VR noRen l u:=by
 have hf:=fl_ok 8 (l:=[(0,.int .i64),(1,.int .u64)]) (by kernel_rfl) hx
 obtain⟨_,e0,z0,rfl,_⟩:=hf (0,.int .i64) (by simp)
 obtain⟨_,e1,z1,rfl,b1⟩:=hf (1,.int .u64) (by simp)
 refine⟨(z0,z1),b1.1,fun i l hi=>?_⟩
 match i with
 | 0=>simp [cII] at hi; subst hi; exact⟨rfl,_,e0,by simp only [VR]⟩
 | 1=>simp [cII] at hi; subst hi; exact⟨rfl,_,e1,by simp only [VR]⟩
 | i+2=>simp [cII] at hi
theorem heap_any {H:Type} {enc:TypeId×Value→H} {W:World} {a a2:Option Addr} {len cap len2 cap2:Nat} {d d2:DataW H} {ps ps2:List MemPlace} (h:DataW.Trod enc prog W 0 (fun _=>true) true 22 (.slice a len cap) d ps) (h2:DataW.Trod enc prog W 0 (fun _=>true) true 36 (.slice a2 len2 cap2) d2 ps2) :
  Calls prog 4 #[.slice a len cap,.slice a2 len2 cap2] W fun e W'=>e=.returned (.bool true)∧Below W.heap.size W W':=by
 obtain⟨ds,e1,n1,q1,r1⟩:=row_arg (f:=drC) (ok:=fun x:DrV=>(RowArg W x.r x.rs.length (encL cell x.rs)∧RowArg W x.c x.cs.length (encL cell x.cs))∧∀ y∈x.cs,0≤y.2) drC_len (by omega) Go.Proofs.Try.underlying22 (by kernel_rfl) h fun cs n x hl hx=>by
  have hf:=fsl_ok 4 (l:=[(4,31),(5,31)]) (by kernel_rfl) hx
  obtain⟨v4,y4,n4,e4,hv4⟩:=hf (4,31) (by simp)
  obtain⟨v5,y5,n5,e5,hv5⟩:=hf (5,31) (by simp)
  obtain⟨rs,_,_,j3,j4⟩:=row_in (f:=cell) (ok:=fun y:Int×Int=>0≤y.2) cell_len (by omega) Go.Proofs.Try.underlying31 (by kernel_rfl) hv4 el_ce
  obtain⟨cs',_,k2,k3,k4⟩:=row_in (f:=cell) (ok:=fun y:Int×Int=>0≤y.2) cell_len (by omega) Go.Proofs.Try.underlying31 (by kernel_rfl) hv5 el_ce
  have hg:=fl3_ok 4 (l:=[(0,.int .i64),(1,.int .i64),(2,.int .i64),(3,.int .u64)]) (by kernel_rfl) hx
  obtain⟨_,e0,z0,rfl,_⟩:=hg (0,.int .i64) (by simp)
  obtain⟨_,e1,z1,rfl,_⟩:=hg (1,.int .i64) (by simp)
  obtain⟨_,e2,z2,rfl,_⟩:=hg (2,.int .i64) (by simp)
  obtain⟨_,e3,z3,rfl,_⟩:=hg (3,.int .u64) (by simp)
  refine⟨⟨z0,z1,z2,z3,v4,v5,rs,cs'⟩,⟨⟨j3,k3⟩,k2⟩,fun i l hi=>?_⟩
  match i with
  | 0=>simp at hi; subst hi; exact⟨rfl,_,e0,by simp only [VR]⟩
  | 1=>simp at hi; subst hi; exact⟨rfl,_,e1,by simp only [VR]⟩
  | 2=>simp at hi; subst hi; exact⟨rfl,_,e2,by simp only [VR]⟩
  | 3=>simp at hi; subst hi; exact⟨rfl,_,e3,by simp only [VR]⟩
  | 4=>simp at hi; subst hi; exact⟨rfl,_,e4,lv_val j4⟩
  | 5=>simp at hi; subst hi; exact⟨rfl,_,e5,lv_val k4⟩
  | i+6=>simp at hi
 obtain⟨xs,f1,m1,_,r2⟩:=row_arg (f:=cI .u64) (ok:=fun y:Int=>IntKind.u64.min≤y∧y≤IntKind.u64.max) (cI_len .u64) (by omega) Go.Proofs.Try.underlying36 (by kernel_rfl) h2 (el_int Go.Proofs.Try.underlying30)
 have hh:fDr ds W:=fun x hx=>(q1 x hx).1
 refine SW.law (rows:=[(.slice a len cap,len,encL drC ds),(.slice a2 len2 cap2,len2,encL (cI .u64) xs)]) (g:=factG (fDr ds)) (us:=[.slice a len cap,.slice a2 len2 cap2]) (args:=[.slo 0 0 len 0,.slo 1 0 len2 0]) 105 4 (by kernel_rfl) ⟨r1,r2,trivial⟩ (Gl_fact.2 hh) rfl (by omega) (fun r h=>?_) (hh_sw ds (fDr ds) ⟨W,hh⟩ (fun W h=>h) (fun x hx=>(q1 x hx).2) len e1 xs len2 f1)
 simp only [VRs]
 exact⟨_,_,rfl,h 0 _ _ _ rfl,_,_,rfl,h 1 _ _ _ rfl,rfl⟩
end
end Go.Lev
