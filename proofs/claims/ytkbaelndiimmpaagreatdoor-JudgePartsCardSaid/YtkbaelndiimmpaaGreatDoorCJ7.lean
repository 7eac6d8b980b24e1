/- JudgeParts (P30.2): for any heap near a parted one and any blocks that rest the law returns true; what was there stays as it was. Condition: the listed package-level variables hold what the program's text lays. -/
import Derived.Test.YtkbaelndiimmpaaGreatDoorCJ6
import Derived.Test.YtkbaelndiimmpaaGreatDoorLc
import Derived.Test.YtkbaelndiimmpaaGreatDoorChecked
import Derived.KernelRfl
import Derived.Test.YtkbaelndiimmpaaGreatDoorLc
import Derived.Test.YtkbaelndiimmpaaGreatDoorLc
import Derived.Test.YtkbaelndiimmpaaGreatDoorRows
namespace Go.Lev
set_option linter.unusedSimpArgs false
set_option linter.unusedVariables false
open Go.RowKit
open Go.Proofs.Tryz (prog)
set_option maxRecDepth 100000
noncomputable section
theorem runs30:isTrue (lrun prog 20000 5 gtab)=true:=by kernel_rfl
theorem Gl.up {W w:World} {g:Glb} (h:Gl W g) (hb:Below W.heap.size W w) (hf:∀ x∈g,x.2.length≠1):Gl w g:=fun x hx=>by
 rcases h x hx with⟨F,e,_⟩ | ⟨c,e,f,h1,h2⟩
 ·exact absurd (by rw [e]; rfl) (hf x hx)
 ·refine .inr ⟨c,e,f,?_,h2⟩
  have:x.1 < W.heap.size:=(Array.getElem?_eq_some_iff.1 h1).1
  rw [hb.block _ this]; exact h1
theorem gtab_one:∀ x∈gtab,x.2.length≠1:=fun x hx=>by
 rcases List.mem_singleton.1 hx with rfl
 show formsL.length≠1
 intro h
 have e:Nat.beq formsL.length 1=false:=by kernel_rfl
 rw [h] at e; cases e
theorem Gl_tail {W:World} {x:Nat×List LV} {g:Glb} (h:Gl W (x::g)):Gl W g:=fun y hy=>h y (by simp [hy])
theorem runGt2_ok:GOk prog 5 runGt2:=by
 intro args s bs l s' hg hb hfr
 unfold runGt2 at hg
 split at hg
 ·rename_i F g0 F0 hgl
  cases hc:(Nat.beq g0 0 && eqbs F0 formsL) with
  | false=>rw [hc] at hg; cases hg
  | true =>
    rw [hc] at hg
    simp only [cond_true,Option.some.injEq,Prod.mk.injEq] at hg
    obtain⟨rfl,rfl,rfl⟩:=hg
    simp only [Bool.and_eq_true] at hc
    obtain⟨c1,c2⟩:=hc
    have e:s.g=(0,[.fact F])::gtab:=by rw [hgl,Nat.eq_of_beq_eq_true c1,eqbs_eq c2]; rfl
    refine SFun.still fun W0 r w us hI hu=>?_
    have hgl2:=hI.gl
    rw [e] at hgl2
    simp only [VRs] at hu
    subst hu
    refine(run_true_of (P:=prog) (f:=5) (g:=gtab) runs30 w (Gl.up (Gl_tail hgl2) hI.below gtab_one)).mono fun e w' h=>?_
    exact⟨_,h.1,by simp only [VR],h.2⟩
 ·cases hg
theorem cxk_ok:CtrOk prog (ctrOf cxk):=cxl_ok ⟨runGt2_ok,wrapG_ok wdsG_ok,trivial⟩
theorem cxt_ok:CtrOk prog (ctrOf cxt):=cxl_ok ⟨ptG_ok,ptG_ok2,trivial⟩
theorem byte_all:(List.range 256).all (fun b=>decide (xsh .shl .i64 1 (xwr .u64 (xar .add .u8 (xar .rem .u8 (b:Int) 3) 1))=((2 ^ wdc (b:Int):Nat):Int)) && xnn (xwr .u64 (xar .add .u8 (xar .rem .u8 (b:Int) 3) 1)) && (xcm .eql (xar .and .u8 (b:Int) 48) 0 == decide (wdQ (b:Int)=2)))=true:=by kernel_rfl
theorem byte_at {b:Int} (h1:0≤b) (h2:b≤255):xsh .shl .i64 1 (xwr .u64 (xar .add .u8 (xar .rem .u8 b 3) 1))=((2 ^ wdc b:Nat):Int)∧xnn (xwr .u64 (xar .add .u8 (xar .rem .u8 b 3) 1))=true∧xcm .eql (xar .and .u8 b 48) 0=decide (wdQ b=2):=by
 have:=List.all_eq_true.1 byte_all b.toNat (List.mem_range.2 (by omega))
 rw [show((b.toNat:Nat):Int)=b by omega] at this
 simp only [Bool.and_eq_true,decide_eq_true_eq,beq_iff_eq] at this
 exact⟨this.1.1,this.1.2,this.2⟩
theorem wdc_pow (b:Int):2≤2 ^ wdc b∧2 ^ wdc b≤8:=by
 have:wdc b=1∨wdc b=2∨wdc b=3:=by unfold wdc; omega
 rcases this with h | h | h <;> rw [h] <;> omega
theorem can_u8 (xs:List Int):(encL (cI .u8) xs).all lvCan=true:=by
 induction xs with
 | nil=>rfl
 | cons x r ih=>rw [encL,List.all_append,ih]; rfl
theorem u8_cut {xs:List Int} {j:Nat} (h:j < xs.length):((encL (cI .u8) xs).drop (j * 1)).take 1=[.int .u8 xs[j]]:=by
 have l:=encIu8_len xs
 refine List.ext_getElem? fun i=>?_
 rw [List.getElem?_take]
 match i with
 | 0 =>
   rw [if_pos (by omega),List.getElem?_drop]
   have:=encIu8_nth h
   unfold nthD at this
   rw [nth_eq] at this
   simp only [Nat.add_zero,Nat.mul_one]
   rw [List.getElem?_eq_getElem (by omega)] at this ⊢
   simp only at this
   rw [this]; rfl
 | i+1=>rw [if_neg (by omega)]; simp
theorem val_push (vs:List Value) (v:Value):xcat (xcut (encL valC vs) 0 vs.length) [.val v]=encL valC (vs++[v]):=by
 rw [xcut_all (by rw [val_len]; omega),encL_append]; rfl
theorem wr_u (x:Int):0≤xwr .u64 x∧xwr .u64 x≤18446744073709551615:=by
 show 0≤lwrap .u64 x∧lwrap .u64 x≤18446744073709551615
 rw [lwrap_eq,show IntKind.u64.wrap x=x % 18446744073709551616 by simp [IntKind.wrap,IntKind.bits,IntKind.signed]]
 omega
theorem remNj (x y:Nat) (hx:x≤1000) (hy:0 < y) (hy2:y≤1000):xar .rem .i64 (x:Int) (y:Int)=((x % y:Nat):Int):=by
 rw [xar_rem _ _ _ (by omega),Int.tmod_eq_emod_of_nonneg (by omega)]; rfl
abbrev HB:Type:=Value×List Int
def fHB (hs:List HB):World→Prop:=fun W=>∀ x∈hs,RowArg W x.1 x.2.length (encL (cI .u8) x.2)
structure StQ (q:SQ) (vg:Value) (gs:List (Int×Int)) (rs:List RR):Prop where
 g:∀ W,q.F W→RowArg W vg gs.length (encL cell gs)
 r:∀ W,q.F W→∀ x∈rs,RowArg W x.1 x.2.length (encL cell x.2)
 u:∀ W w:World,Below W.heap.size W w→q.F W→q.F w
theorem hin10:allIn [10] kL=true:=by kernel_rfl
set_option maxHeartbeats 8000000 in
theorem parts_sw (n tu v:Int) (bs:List Int) (m:Nat) (em:bs.length=m) (hm:m≤9223372036854775807) (hb:∀ y∈bs,0≤y∧y≤255) (ht:0≤tu∧tu≤255) (hs:List HB) (k:Nat) (ek:hs.length=k) (hW:∃ W,fHB hs W) :
  SW prog 166 10 (kS.drop 0) (tm0 [.int .i64 n,.slo 0 0 m 0,.slo 1 0 k 0,.int .u8 tu,.int .u8 v]) (mkS [.ro (encL (cI .u8) bs),.ro (encL valC (hs.map (·.1)))] (gl2 (fHB hs))):=by
 subst em
 subst ek
 have nb:=noIds_Iu8 bs; have lb:=encIu8_len bs
 have nx:=noids_val (hs.map (·.1)); have lx:=val_len (hs.map (·.1))
 have k1:okB8 (encL (cI .u8) bs) bs.length=true:=okB8_iff.2 ⟨bs,rfl,rfl,hm,hb⟩
 have eN:wdN n=wdK n:=rfl
 have eC:wdC n (encL (cI .u8) bs)=encL (cI .u64) (wdF (wdK n) bs):=by rw [wdC,decIu8_enc]
 obtain⟨N1,N2,_⟩:=wdK_b n
 have hL:=wdF_len (wdK n) bs
 have hU:=inU_wdF (N:=wdK n) bs (by omega)
 have h5:=wdF5 (N:=wdK n) bs N1
 have hE:=wdE_le (N:=wdK n) bs N1
 have hG:=fun {v:Value} {rs:List RR} h=>draw_good (N:=wdK n) bs N1 N2 (v:=v) (rs:=rs) h
 generalize wdK n=N at *
 generalize wdE N bs=e at *
 generalize hgl:gdC (bs.take 8) 14 0 e=good at *
 generalize wdF N bs=ws at *
 have nw:=noIds_Iu64 ws; have lw:=encIu64_len ws
 have w5:=u_nth (us:=ws) (i:=5) (by omega)
 rw [h5] at w5
 have eW:xwr .i64 (e:Int)=(e:Int):=wrap_i64 (by omega) (by omega)
 have hvn:∀ {i:Nat} (h:i < hs.length),nthD (encL valC (hs.map (·.1))) i=.val hs[i].1:=fun {i} h=>by rw [val_nth (by simpa using h)]; simp
 have hvl:(hs.map (·.1)).length=hs.length:=by simp
 rw [hvl] at lx
 obtain⟨W1,hW1⟩:=hW
 have evl:∀ {i:Nat} (h:i < hs.length),xvl hs[i].1=hs[i].2.length:=fun {i} h=>vlen_row (hW1 hs[i] (List.getElem_mem h))
 generalize encL valC (hs.map (·.1))=rx at *
 refine SW.to cxk_ok (n:=60) (n0:=2) (g:=gl2 (fHB hs)) 9 9 rfl hin10 (by omega) (σ:={_u:Unit // hs.length≤5}) (fun _=>kT0 bs.length hs.length N 0 tu v 14 0) (fun _=>kH0 (encL (cI .u8) bs) rx (encL (cI .u64) ws) []) (mkS_le (Nat.le_of_ble_eq_true rfl)) ?_ fun⟨_,hk⟩=>?_
 ·rw [kq_a]
  by_cases c:hs.length≤5
  ·simp only [k1,eN,eC,cond_true]
   (refine zR ?_)
   exact⟨rfl,⟨(),c⟩,[.id 0,.id 1,.id 2,.none,.none,.none],by(exact zC)⟩
  ·(refine zR ?_)
   exact⟨trivial,rfl,.bool true,[.ro _,.ro _],[.id 0,.id 1],rfl,by(exact zC)⟩
 try dsimp only
 refine SW.code_to (g:=gl2 (fHB hs)) (n0:=2) 10 rfl hin10 (by omega) (σ:=Nat×Nat) (fun q=>kT0 bs.length hs.length N good.length tu v q.1 q.2) (fun _=>kH0 (encL (cI .u8) bs) rx (encL (cI .u64) ws) (encL cell good)) (by kernel_rfl) (mkS_le (Nat.le_of_ble_eq_true rfl)) ?_ fun⟨p,i⟩=>?_
 ·refine SCode.loop_vc cxk_ok (n:=60) (n0:=2) 0 (by kernel_rfl) (σ:={q:Nat×Nat×List (Int×Int) // q.1≤bs.length∧q.1≤8∧q.2.1≤14+9 * q.1∧q.2.2.length≤q.1∧q.2.2++gdC ((bs.take 8).drop q.1) q.2.1 q.1 e=good}) (fun q=>kT0 bs.length hs.length N q.1.2.2.length tu v q.1.2.1 q.1.1) (fun q=>kH0 (encL (cI .u8) bs) rx (encL (cI .u64) ws) (encL cell q.1.2.2)) (fun q=>8 - q.1.1) (fun _=>Nat.le_of_ble_eq_true rfl) (fun⟨⟨i,p,gs⟩,q1,q2,q3,q4,q5⟩=>?_) ⟨(0,14,[]),Nat.zero_le _,Nat.zero_le _,Nat.le_refl _,Nat.le_refl _,by simpa using hgl⟩
  dsimp only at q1 q2 q3 q4 q5 ⊢
  have ng:=noids_c gs; have lg:=cell_n gs
  have stop:gdC ((bs.take 8).drop i) p i e=[]→gs=good:=fun h=>by rw [h,List.append_nil] at q5; exact q5
  rw [kq_b]
  by_cases c1:i < bs.length
  ·by_cases c2:i < 8
   ·have ed:(bs.take 8).drop i=bs[i]::(bs.take 8).drop (i+1):=by
     rw [List.drop_eq_getElem_cons (by simp; omega)]; simp
    have hx:=hb bs[i] (List.getElem_mem c1)
    have gx:=encIu8_nth c1
    obtain⟨b1,b2,b3⟩:=byte_at hx.1 hx.2
    have pw:=wdc_pow bs[i]
    rw [ed,gdC] at q5 stop
    generalize bs[i]=x at *
    by_cases c3:p < e
    ·rw [if_pos c3] at q5
     have e3:xar .add .i64 (i:Int) 1=((i+1:Nat):Int):=inc_i64 c1 (by omega)
     have ep:xar .add .i64 (p:Int) 1=((p+1:Nat):Int):=by rw [add_i64 (by omega) (by omega)]; omega
     have eq:xar .add .i64 ((p+1:Nat):Int) ((2 ^ wdc x:Nat):Int)=((p+1+2 ^ wdc x:Nat):Int):=by rw [add_i64 (by omega) (by omega)]; omega
     have ei:xwr .u64 (i:Int)=(i:Int):=wrap_u64 (by omega) (by omega)
     by_cases c4:wdQ x=2
     ·rw [if_pos c4,← List.append_assoc] at q5
      rw [decide_eq_true c4] at b3
      have lg1:(gs++[(((p+1:Nat):Int),(i:Int))]).length=gs.length+1:=by simp
      have ng1:=noids_c (gs++[(((p+1:Nat):Int),(i:Int))])
      have pg:=cell_push gs ((p+1:Nat):Int) (i:Int)
      have xl:xle 6 N=true:=t_le (by omega)
      simp only [xl,w5,eW,gx,b1,b2,b3,e3,ep,eq,ei,pg,lg,lb,lw,hL,wd_nat,wd_ix,wd_mul,wd_add,wd_ln,Nat.zero_add,Nat.mul_one,wd_asI,wd_isI,decide_true,cond_true]
      (refine zR ?_)
      exact⟨rfl,⟨(i+1,p+1+2 ^ wdc x,gs++[(((p+1:Nat):Int),(i:Int))]),c1,c2,by dsimp only; omega,by dsimp only; rw [lg1]; omega,q5⟩,by simp only; omega,[.id 0,.id 1,.id 2,.id 7,.none,.none],by dsimp only; rw [lg1]; (exact zC)⟩
     ·rw [if_neg c4,List.nil_append] at q5
      rw [decide_eq_false c4] at b3
      have xl:xle 6 N=true:=t_le (by omega)
      simp only [xl,w5,eW,gx,b1,b2,b3,e3,ep,eq,lg,lb,lw,hL,wd_nat,wd_ix,wd_mul,wd_add,wd_ln,Nat.zero_add,Nat.mul_one,wd_asI,wd_isI,decide_true,cond_true,cond_false]
      (refine zR ?_)
      exact⟨rfl,⟨(i+1,p+1+2 ^ wdc x,gs),c1,c2,by dsimp only; omega,by dsimp only; omega,q5⟩,by simp only; omega,[.id 0,.id 1,.id 2,.id 3,.none,.none],by(exact zC)⟩
    ·rw [if_neg c3] at stop
     obtain rfl:=stop rfl
     have xl:xle 6 N=true:=t_le (by omega)
     simp only [xl,w5,eW,lw,hL,wd_ln,wd_asI,wd_isI,decide_true,cond_true]
     (refine zR ?_)
     exact⟨rfl,(p,i),[.id 0,.id 1,.id 2,.id 3,.none,.none],by(exact zC)⟩
   ·obtain rfl:=stop (by rw [List.drop_eq_nil_of_le (by simp; omega)]; rfl)
    (refine zR ?_)
    exact⟨rfl,(p,i),[.id 0,.id 1,.id 2,.id 3,.none,.none],by(exact zC)⟩
  ·obtain rfl:=stop (by rw [List.drop_eq_nil_of_le (by simp; omega)]; rfl)
   (refine zR ?_)
   exact⟨rfl,(p,i),[.id 0,.id 1,.id 2,.id 3,.none,.none],by(exact zC)⟩
 dsimp only
 have hgn:good.length≤8:=by
  have:∀ (l:List Int) (p i e:Nat),(gdC l p i e).length≤l.length:=fun l=>by
   induction l with
   | nil=>intro p i e; simp [gdC]
   | cons x r ih =>
     intro p i e
     rw [gdC]
     split
     ·have:=ih (p+1+2 ^ wdc x) (i+1) e
      rw [List.length_append,List.length_cons]
      split <;> simp <;> omega
     ·simp
  have h2:=this (bs.take 8) 14 0 e
  rw [hgl] at h2
  simp at h2; omega
 refine SW.absorb 12 3 4 (γ:=5) (n:=good.length) (cs:=encL cell good) (op:=some 2) (q:=stNil) (by omega) rfl rfl rfl (noids_c good) (fun h=>by rw [List.length_eq_zero_iff.1 h]; rfl) fun vg q1 hq1=>?_
 have S1:StQ q1 vg good []:=by
  refine⟨fun W h=>?_,fun W h x hx=>(by cases hx),fun W w hB h=>?_⟩
  ·rw [hq1] at h; exact h.2
  ·rw [hq1] at h ⊢; exact⟨h.1,h.2.up hB⟩
 clear hq1
 change SW _ _ _ _ (mkTm 166 ((12,.val vg)::kT0 bs.length hs.length N good.length tu v p i)) (mkS (kH1 (encL (cI .u8) bs) rx (encL (cI .u64) ws) (stB q1 7)) _)
 refine SW.to cxk_ok (n:=60) (n0:=2) (g:=gl2 (fHB hs)) 2 12 rfl hin10 (by omega) (σ:=Unit) (fun _=>kT2 hs.length N tu v vg 0) (fun _=>kH2 (encL (cI .u8) bs) rx (encL (cI .u64) ws) [] (stB q1 5)) (mkS_le (Nat.le_of_ble_eq_true rfl)) ?_ fun _=>?_
 ·rw [kq_c]
  obtain⟨F',e',h'⟩:=q1
  cases e' <;> exact⟨rfl,(),[.id 0,.id 1,.id 2,.none,.id 6,.id 7],by(exact zC)⟩
 try dsimp only
 refine SW.code_to (g:=gl2 (fHB hs)) (n0:=2) 13 rfl hin10 (by omega) (σ:={q:SQ×List RR // StQ q.1 vg good q.2∧q.2.length=hs.length∧∀ x∈q.2,x.2.length≤6}) (fun _=>kT2 hs.length N tu v vg hs.length) (fun q=>kH2 (encL (cI .u8) bs) rx (encL (cI .u64) ws) (encL valC (q.1.2.map (·.1))) (stB q.1.1 5)) (by kernel_rfl) (mkS_le (Nat.le_of_ble_eq_true rfl)) ?_ fun⟨⟨q,rs⟩,hS,hR,h6⟩=>?_
 ·refine SCode.loop_sp 2 (by kernel_rfl) (σ:={q:SQ×List RR // StQ q.1 vg good q.2∧q.2.length≤hs.length∧∀ x∈q.2,x.2.length≤6}) (fun q=>kT2 hs.length N tu v vg q.1.2.length) (fun q=>kH2 (encL (cI .u8) bs) rx (encL (cI .u64) ws) (encL valC (q.1.2.map (·.1))) (stB q.1.1 5)) (fun q=>hs.length - q.1.2.length) (fun _=>Nat.le_of_ble_eq_true rfl) (fun⟨⟨q,rs⟩,hS,hR,h6⟩=>?_) ⟨(q1,[]),S1,Nat.zero_le _,fun x hx=>by cases hx⟩
  dsimp only at hS hR h6 ⊢
  have nv:=noids_val (rs.map (·.1)); have lv:=val_len (rs.map (·.1))
  have vpush:=val_push (rs.map (·.1))
  have ml:(rs.map (fun x:RR=>x.1)).length=rs.length:=by simp
  rw [ml] at lv vpush
  refine SSp.to cxk_ok (n:=60) (g:=gl2 (fHB hs)) 2 2 rfl (σ:={_u:Unit // rs.length < hs.length}) (fun _=>kT2 hs.length N tu v vg rs.length) (fun _=>kH2 (encL (cI .u8) bs) rx (encL (cI .u64) ws) (encL valC (rs.map (·.1))) (stB q 5)) (mkS_le (Nat.le_of_ble_eq_true rfl)) (by kernel_rfl) ?_ fun⟨_,h0⟩=>?_
  ·rw [kq_d,wd_lss]
   refine ite_way (fun h0=>?_) (fun h0=>?_)
   ·obtain⟨F',e',h'⟩:=q
    cases e' <;> exact⟨rfl,⟨(),h0⟩,[.id 0,.id 1,.id 2,.id 3,.id 4,.id 5],by(exact zC)⟩
   ·have ei:rs.length=hs.length:=by omega
    refine⟨rfl,⟨(q,rs),hS,by omega,h6⟩,[.id 0,.id 1,.id 2,.id 3,.id 4,.id 5],?_⟩
    dsimp only
    rw [ei]
    obtain⟨F',e',h'⟩:=q
    cases e' <;> (exact zC)
  try dsimp only
  have hv:=hvn h0
  have ev:=evl h0
  have hrow:=fun W (hW:fHB hs W)=>hW hs[rs.length] (List.getElem_mem h0)
  refine SSp.code_to (g:=gl2 (fHB hs)) 3 rfl (σ:={q:SQ×Value×List (Int×Int) // StQ q.1 vg good (rs++[(q.2.1,q.2.2)])∧q.2.2.length≤6}) (fun _=>[(2,.slo 1 0 hs.length 0),(3,.int .u8 tu),(4,.int .u8 v),(11,.slo 2 0 N 0),(12,.val vg),(15,.slo 3 0 (rs.length+1) 0),(16,.int .i64 rs.length)]) (fun q=>kH2 (encL (cI .u8) bs) rx (encL (cI .u64) ws) (encL valC ((rs++[(q.1.2.1,q.1.2.2)]).map (·.1))) (stB q.1.1 5)) (by kernel_rfl) ?_ fun⟨⟨q',vr,xs⟩,hS',h6'⟩=>?_
  ·refine SCode.block_sp 3 (by kernel_rfl) ?_
   refine SSp.to cxk_ok (n:=60) (g:=gl2 (fHB hs)) 2 2 rfl (σ:=Unit) (fun _=>kT3 hs.length N tu v vg rs.length 0) (fun _=>kH3 (encL (cI .u8) bs) rx (encL (cI .u64) ws) (encL valC (rs.map (·.1))) [] (stB q 5)) (mkS_le (Nat.le_of_ble_eq_true rfl)) (by kernel_rfl) ?_ fun _=>?_
   ·rw [kq_e]
    obtain⟨F',e',h'⟩:=q
    cases e' <;> exact⟨rfl,(),[.id 0,.id 1,.id 2,.id 3,.id 4,.id 5,.none],by(exact zC)⟩
   try dsimp only
   refine SSp.code_to (g:=gl2 (fHB hs)) 3 rfl (σ:={xs:List (Int×Int) // xs.length≤6}) (fun xs=>kT3 hs.length N tu v vg rs.length xs.1.length) (fun xs=>kH3 (encL (cI .u8) bs) rx (encL (cI .u64) ws) (encL valC (rs.map (·.1))) (encL cell xs.1) (stB q 5)) (by kernel_rfl) ?_ fun⟨xs,hx6⟩=>?_
   ·refine SCode.loop_vc cxk_ok (n:=60) (n0:=2) 4 (by kernel_rfl) (σ:={xs:List (Int×Int) // xs.length≤6}) (fun xs=>kT3 hs.length N tu v vg rs.length xs.1.length) (fun xs=>kH3 (encL (cI .u8) bs) rx (encL (cI .u64) ws) (encL valC (rs.map (·.1))) (encL cell xs.1) (stB q 5)) (fun xs=>6 - xs.1.length) (fun _=>Nat.le_of_ble_eq_true rfl) (fun⟨xs,hx6⟩=>?_) ⟨[],Nat.zero_le _⟩
    dsimp only
    have nc:=noids_c xs; have lc:=cell_n xs
    obtain⟨j,hj⟩:∃ j,j=xs.length:=⟨_,rfl⟩
    rw [← hj] at hx6 lc ⊢
    have y1:xle (rs.length+1) hs.length=true:=t_le (by omega)
    rw [kq_f]
    simp only [y1,wd_nat,wd_ix,wd_mul,wd_add,wd_ln,Nat.zero_add,Nat.mul_one,hv,wd_asV,wd_isV,ev,lx,cond_true]
    by_cases g0:j < hs[rs.length].2.length
    ·by_cases g1:j < 6
     ·obtain⟨k1,k2⟩:=vrow_eq ⟨W1,hW1⟩ hrow (can_u8 hs[rs.length].2) (k:=j * 1) (m:=1) (by rw [encIu8_len]; omega) (by omega)
      rw [u8_cut g0] at k2
      rw [Nat.mul_one] at k1 k2
      have kx:=vidx_row (hrow W1 hW1) g0
      have z0:nthD [LV.int .u8 hs[rs.length].2[j]] 0=.int .u8 hs[rs.length].2[j]:=rfl
      have z2:xln [LV.int .u8 hs[rs.length].2[j]]=1:=rfl
      have e3:xar .add .i64 (j:Int) 1=((j+1:Nat):Int):=by rw [add_i64 (by omega) (by omega)]; omega
      have pg:=cell_push xs (xar .rem .i64 (xwr .i64 hs[rs.length].2[j]) 60) 0
      rw [← hj] at pg
      have lx1:(xs++[(xar .rem .i64 (xwr .i64 hs[rs.length].2[j]) 60,(0:Int))]).length=j+1:=by simp [hj]
      have nx1:=noids_c (xs++[(xar .rem .i64 (xwr .i64 hs[rs.length].2[j]) 60,(0:Int))])
      have y2:xcm .lss ((j:Nat):Int) ((hs[rs.length].2.length:Nat):Int)=true:=t_lss (by omega)
      have y3:xcm .lss ((j:Nat):Int) 6=true:=t_lss (by omega)
      have y4:xle (j+1) 1000000=true:=t_le (by omega)
      have y5:xle (j * 2) (j * 2)=true:=t_le (by omega)
      have y6:xle 1 1=true:=rfl
      simp only [y2,y3,y4,y5,y6,kx,k1,k2,z0,z2,e3,pg,lc,wd_ln,wd_asI,wd_isI,decide_true,cond_true]
      refine⟨rfl,⟨xs++[(xar .rem .i64 (xwr .i64 hs[rs.length].2[j]) 60,0)],by rw [lx1]; omega⟩,by simp only [lx1]; omega,[.id 0,.id 1,.id 2,.id 3,.id 4,.id 5,.id 8],?_⟩
      dsimp only
      rw [lx1]
      obtain⟨F',e',h'⟩:=q
      cases e' <;> (exact zC)
     ·have y2:xcm .lss ((j:Nat):Int) ((hs[rs.length].2.length:Nat):Int)=true:=t_lss (by omega)
      have y3:xcm .lss ((j:Nat):Int) 6=false:=f_lss (by omega)
      simp only [y2,y3,cond_true,cond_false]
      refine⟨rfl,⟨xs,by omega⟩,[.id 0,.id 1,.id 2,.id 3,.id 4,.id 5,.id 6],?_⟩
      dsimp only
      rw [← hj]
      obtain⟨F',e',h'⟩:=q
      cases e' <;> (exact zC)
    ·have y2:xcm .lss ((j:Nat):Int) ((hs[rs.length].2.length:Nat):Int)=false:=f_lss (by omega)
     simp only [y2,cond_false]
     refine⟨rfl,⟨xs,by omega⟩,[.id 0,.id 1,.id 2,.id 3,.id 4,.id 5,.id 6],?_⟩
     dsimp only
     rw [← hj]
     obtain⟨F',e',h'⟩:=q
     cases e' <;> (exact zC)
   dsimp only at hx6 ⊢
   refine SSp.absorb 17 6 4 (γ:=5) (n:=xs.length) (cs:=encL cell xs) (op:=some 2) (q:=q) (by kernel_rfl) (Nat.le_of_ble_eq_true rfl) (by omega) rfl rfl rfl (noids_c xs) (fun h=>by rw [List.length_eq_zero_iff.1 h]; rfl) fun vr q2 hq2=>?_
   have S2:StQ q2 vg good (rs++[(vr,xs)]):=by
    refine⟨fun W h=>?_,fun W h x hx=>?_,fun W w hB h=>?_⟩
    ·rw [hq2] at h; exact hS.g W h.1
    ·rw [hq2] at h
     rcases List.mem_append.1 hx with hx | hx
     ·exact hS.r W h.1 x hx
     ·rw [List.mem_singleton.1 hx]; exact h.2
    ·rw [hq2] at h ⊢; exact⟨hS.u W w hB h.1,h.2.up hB⟩
   clear hq2
   change SSp _ _ _ _ (mkTm 166 ((17,.val vr)::kT3 hs.length N tu v vg rs.length xs.length)) (mkS (kH4 (encL (cI .u8) bs) rx (encL (cI .u64) ws) (encL valC (rs.map (·.1))) (stB q2 8)) _) _
   refine zE cxk_ok ?_
   rw [kq_g]
   have y1:xle (rs.length+1) 1000000=true:=t_le (by omega)
   have y2:xle rs.length rs.length=true:=t_le (by omega)
   have nv2:=noids_val ((rs.map (·.1))++[vr])
   simp only [y1,y2,wd_nat,wd_mul,wd_add,wd_ln,Nat.zero_add,Nat.mul_one,lv,vpush,cond_true]
   refine⟨rfl,⟨(q2,vr,xs),S2,hx6⟩,[.id 0,.id 1,.id 2,.id 10,.id 7,.id 8],?_⟩
   dsimp only
   rw [List.map_append]
   obtain⟨F',e',h'⟩:=q2
   cases e' <;> (exact zC)
  dsimp only at hS' h6' ⊢
  refine zE cxk_ok ?_
  have e3:xar .add .i64 (rs.length:Int) 1=((rs.length+1:Nat):Int):=inc_i64 h0 (by omega)
  rw [kq_h,e3]
  have lr:(rs++[(vr,xs)]).length=rs.length+1:=by simp
  have nv2:=noids_val ((rs++[(vr,xs)]).map (·.1))
  refine⟨rfl,⟨(q',rs++[(vr,xs)]),hS',by dsimp only; omega,fun x hx=>?_⟩,by dsimp only; omega,[.id 0,.id 1,.id 2,.id 3,.id 4,.id 5],?_⟩
  ·rcases List.mem_append.1 hx with hx | hx
   ·exact h6 x hx
   ·rw [List.mem_singleton.1 hx]; exact h6'
  ·dsimp only
   rw [lr]
   obtain⟨F',e',h'⟩:=q'
   cases e' <;> (exact zC)
 dsimp only at hS hR h6 ⊢
 refine SW.freeze (o:=4) (γ:=5) (q:=q) (g':=factG q.F) rfl (fun W w _ _ h=>Gl_fact.2 h) fun hq=>?_
 have eF:(kH2 (encL (cI .u8) bs) rx (encL (cI .u64) ws) (encL valC (rs.map (·.1))) (stB q 5)).map fzB=kH5 (encL (cI .u8) bs) rx (encL (cI .u64) ws) (encL valC (rs.map (·.1))):=by
  obtain⟨F',e',h'⟩:=q
  cases e' <;> rfl
 rw [eF]
 have nv:=noids_val (rs.map (·.1)); have lv:=val_len (rs.map (·.1))
 have ml:(rs.map (fun x:RR=>x.1)).length=rs.length:=by simp
 rw [ml,hR] at lv
 clear hvn evl
 generalize hs.length=k at *
 generalize hFq:q.F=F at *
 have hSr:=hS.r; have hSg:=hS.g; have hSu:=hS.u
 rw [hFq] at hSr hSg hSu
 clear hS eF
 have okA:okRs F [.val vg] 1 [(vg,good)]:=⟨rfl,rfl,by omega,fun x hx=>by rw [List.mem_singleton.1 hx]; exact Nat.le_trans hgn (by omega),hq,hSu,fun W h x hx=>by rw [List.mem_singleton.1 hx]; exact hSg W h⟩
 have okB:okRs F (encL valC (rs.map (·.1))) k rs:=⟨rfl,hR.symm,by omega,fun x hx=>Nat.le_trans (h6 x hx) (by omega),hq,hSu,hSr⟩
 have okC:okRs F (encL valC (vg::rs.map (·.1))) (k+1) ((vg,good)::rs):=by
  refine⟨rfl,by simp [hR],by omega,fun x hx=>?_,hq,hSu,fun W h x hx=>?_⟩
  ·rcases List.mem_cons.1 hx with rfl | hx
   ·exact Nat.le_trans hgn (by omega)
   ·exact Nat.le_trans (h6 x hx) (by omega)
  ·rcases List.mem_cons.1 hx with rfl | hx
   ·exact hSg W h
   ·exact hSr W h x hx
 have kA:=okR_iff.2 ⟨_,okA⟩; have kB:=okR_iff.2 ⟨_,okB⟩; have kC:=okR_iff.2 ⟨_,okC⟩
 have eT:ptW F (encL (cI .u64) ws) [.val vg] 1=true:=by
  unfold ptW
  rw [decIu64_enc,rs_uniq (rsF_ok kA) okA]
  exact hG (v:=vg) (by simp [flat])
 obtain⟨T,rfl⟩:∃ T:Nat,tu=(T:Int):=⟨tu.toNat,by omega⟩
 have eT2:xwr .i64 (T:Int)=(T:Int):=wrap_i64 (by omega) (by omega)
 have eJ:=remNj T N (by omega) (by omega) (by omega)
 have hj:=Nat.mod_lt T (show 0 < N by omega)
 generalize T % N=j at *
 have hxU:inU (ws.set j (xwr .u64 (xar .rem .u8 v 40))):=inU_set hU (wr_u _)
 have hxL:(ws.set j (xwr .u64 (xar .rem .u8 v 40))).length=N:=by rw [List.length_set,hL]
 have sX:=us_set (us:=ws) (i:=j) (xwr .u64 (xar .rem .u8 v 40)) (by omega)
 have cutE:xcut (encL (cI .u64) ws) 0 N=encL (cI .u64) ws:=xcut_all (by rw [lw,hL]; omega)
 have cutV:xcut (encL valC (rs.map (·.1))) 0 k=encL valC (rs.map (·.1)):=xcut_all (by rw [lv]; omega)
 have catV:xcat [LV.val vg] (encL valC (rs.map (·.1)))=encL valC (vg::rs.map (·.1)):=rfl
 have nxs:=noIds_Iu64 (ws.set j (xwr .u64 (xar .rem .u8 v 40)))
 have nvc:=noids_val (vg::rs.map (·.1))
 have o1:okU (encL (cI .u64) ws) N=true:=okU_iff.2 ⟨ws,rfl,hL.symm,by omega,hU⟩
 have o2:okU (encL (cI .u64) (ws.set j (xwr .u64 (xar .rem .u8 v 40)))) N=true:=okU_iff.2 ⟨_,rfl,hxL.symm,by omega,hxU⟩
 have z1:xle N 100000=true:=t_le (by omega)
 have z2:xle k k=true:=t_le (by omega)
 have z3:xle (1+k) 1000000=true:=t_le (by omega)
 have z4:xle N N=true:=t_le (by omega)
 have z5:xle (N * 8) 140737488355328=true:=t_le (by omega)
 have z6:xle N 140737488355328=true:=t_le (by omega)
 have z7:xcm .neq (N:Int) 0=true:=t_neq (by omega)
 have z8:xle (j+1) N=true:=t_le (by omega)
 refine SW.to cxt_ok (n:=60) (n0:=0) (g:=factG F) 5 18 rfl hin10 (by omega) (σ:=Unit) (fun _=>kT6 k N vg) (fun _=>kH6 (encL (cI .u64) ws) (encL valC (rs.map (·.1))) (encL valC (vg::rs.map (·.1))) (encL (cI .u64) (ws.set j (xwr .u64 (xar .rem .u8 v 40))))) (mkS_le (Nat.zero_le _)) ?_ fun _=>?_
 ·rw [kq_i]
  simp only [z1,z2,z3,z4,z5,z6,z7,z8,o1,kA,eT,eT2,eJ,wd_nat,wd_nni,wd_ix,wd_mul,wd_add,wd_ln,Nat.zero_add,Nat.mul_one,lv,lw,hL,cutE,cutV,catV,sX,wd_not_t,cond_true,cond_false]
  (refine zR ?_)
  exact⟨rfl,(),[.id 2,.id 3,.id 8,.id 10],by rw [Nat.add_comm 1 k]; (exact zC)⟩
 try dsimp only
 refine SW.last cxt_ok (n:=60) (n0:=0) (g:=factG F) hin10 (by omega) (mkS_le (Nat.zero_le _)) ?_
 rw [kq_z]
 simp only [o1,o2,z1,kA,kB,kC,bq_self,cond_true]
 exact⟨trivial,rfl,.bool true,[],[],rfl,by(exact zC)⟩
theorem parts_any {H:Type} {enc:TypeId×Value→H} {W:World} {a1 a2:Option Addr} {len1 cap1 len2 cap2:Nat} {d1 d2:DataW H} {p1 p2:List MemPlace} (hg:Gl W gtab) (n tu v:Int) (ht:0≤tu∧tu≤255)
  (h1:DataW.Trod enc prog W 0 (fun _=>true) true 22 (.slice a1 len1 cap1) d1 p1) (h2:DataW.Trod enc prog W 0 (fun _=>true) true 34 (.slice a2 len2 cap2) d2 p2) :
  Calls prog 4 #[.int .i64 n,.slice a1 len1 cap1,.slice a2 len2 cap2,.int .u8 tu,.int .u8 v] W fun e W'=>e=.returned (.bool true)∧Below W.heap.size W W':=by
 obtain⟨bs,e1,n1,q1,r1⟩:=row_arg (f:=cI .u8) (ok:=fun y:Int=>IntKind.u8.min≤y∧y≤IntKind.u8.max) (cI_len .u8) (by omega) Go.Proofs.Tryz.underlying22 (by kernel_rfl) h1 (el_int Go.Proofs.Tryz.underlying5)
 obtain⟨vs,e2,n2,q2,r2⟩:=row_arg (f:=valC) (ok:=fun v:Value=>∃ qs:List Int,RowArg W v qs.length (encL (cI .u8) qs)) valC_len (by omega) Go.Proofs.Tryz.underlying34 (by kernel_rfl) h2 fun cs n x hl hx=>by
  match cs,hl with
  | [u],_ =>
    obtain⟨qs,k1,_,k3,k4⟩:=row_in (f:=cI .u8) (ok:=fun _=>True) (cI_len .u8) (by omega) Go.Proofs.Tryz.underlying22 (by kernel_rfl) hx fun cs n x hl hx=>by
     obtain⟨y,_,z⟩:=el_int Go.Proofs.Tryz.underlying5 cs n x hl hx
     exact⟨y,trivial,z⟩
    refine⟨u,⟨qs,k3⟩,fun i l hi=>?_⟩
    match i with
    | 0=>simp at hi; subst hi; exact⟨rfl,_,rfl,lv_val k4⟩
    | i+1=>simp at hi
 obtain⟨hs,eh,hh⟩:∃ hs:List HB,hs.map (·.1)=vs∧∀ x∈hs,RowArg W x.1 x.2.length (encL (cI .u8) x.2):=by
  clear r2 e2
  induction vs with
  | nil=>exact⟨[],rfl,fun x hx=>by cases hx⟩
  | cons u r ih =>
    obtain⟨hs,k1,k2⟩:=ih fun y hy=>q2 y (by simp [hy])
    obtain⟨qs,k3⟩:=q2 u (by simp)
    exact⟨(u,qs)::hs,by simp [k1],fun x hx=>by
     rcases List.mem_cons.1 hx with rfl | hx
     ·exact k3
     ·exact k2 x hx⟩
 subst eh
 have hg2:Gl W (gl2 (fHB hs)):=fun x hx=>by
  rcases List.mem_cons.1 hx with rfl | hx
  ·exact .inl ⟨_,rfl,hh⟩
  ·exact hg x hx
 refine SW.law (rows:=[(.slice a1 len1 cap1,len1,encL (cI .u8) bs),(.slice a2 len2 cap2,len2,encL valC (hs.map fun x:HB=>x.1))]) (g:=gl2 (fHB hs)) (us:=[.int .i64 n,.slice a1 len1 cap1,.slice a2 len2 cap2,.int .u8 tu,.int .u8 v]) (args:=[.int .i64 n,.slo 0 0 len1 0,.slo 1 0 len2 0,.int .u8 tu,.int .u8 v]) 166 10 (by kernel_rfl) ⟨r1,r2,trivial⟩ hg2 rfl (by omega) (fun r h=>?_) (parts_sw n tu v bs len1 e1 n1 (fun y hy=>q1 y hy) ht hs len2 (by rw [← e2]; simp) ⟨W,hh⟩)
 simp only [VRs,VR]
 exact⟨_,_,rfl,rfl,_,_,rfl,h 0 _ _ _ rfl,_,_,rfl,h 1 _ _ _ rfl,_,_,rfl,rfl,_,_,rfl,rfl,rfl⟩
end
end Go.Lev
