/- chapter 29: Heap as a contract -/
import Derived.Test.YtagmiaajpkpmjaaCJ13
import Derived.Test.YtagmiaajpkpmjaaLc
import Derived.Test.YtagmiaajpkpmjaaChecked
import Derived.KernelRfl
namespace Go.Lev
set_option linter.unusedSimpArgs false
set_option linter.unusedVariables false
open Go.RowKit
open Go.Proofs.Try (prog)
set_option maxRecDepth 100000
noncomputable section
def bhP (F:World→Prop) (ax:List LV) (h:List Int) (p:Nat):List Int:=if asI (nthD ax (p * 14+4))=2 then apN (hw0 h) (csF F (asV (nthD ax (p * 14+11)))) else h
def hpX (F:World→Prop) (ax:List LV) (os:List Nat) (xs:List Int):Nat→List Int
 | 0=>hw0 xs
 | j+1=>bhP F ax (hpX F ax os xs j) (os.getD j 0)
theorem clN_clN (n:Nat):clN (clN n)=clN n:=by unfold clN; omega
theorem hpX_len (F:World→Prop) (ax:List LV) (os:List Nat) (xs:List Int):∀ j,(hpX F ax os xs j).length=clN xs.length
 | 0=>hw0_len xs
 | j+1=>by
   rw [hpX,bhP]
   split
   ·rw [apN_len,hw0_len,hpX_len F ax os xs j,clN_clN]
   ·exact hpX_len F ax os xs j
set_option maxHeartbeats 8000000 in
theorem hp_ok (xs:List Int) (hx:xs.length≤9223372036854775807) (ats:List AtV) (h20:ats.length≤20) (F:World→Prop) (hV:∀ x∈ats,okV F x.c=true) (k:Nat) (hk:k≤ats.length) :
  SFun prog 9 [.slo 0 0 xs.length 0,.slo 1 0 ats.length 0,.int .i64 k] (mkS [.ro (encL (cI .u64) xs),.ro (encL atC ats)] (factG F)) fun l s=>l=.slo 2 0 (clN xs.length) 0∧s=mkS [.ro (encL (cI .u64) xs),.ro (encL atC ats),.cells (encL (cI .u64) (hpX F (encL atC ats) (srt (ltC (encL atC ats)) ats.length ats.length) xs k)) (some 1)] (factG F):=by
 refine SFun.mono (SFun.pieces (Q:=fun l b=>l=.slo 2 0 (clN xs.length) 0∧b=[.ro (encL (cI .u64) xs),.ro (encL atC ats),.cells (encL (cI .u64) (hpX F (encL atC ats) (srt (ltC (encL atC ats)) ats.length ats.length) xs k)) (some 1)]) 33 2 hL [6] (by kernel_rfl) rfl rfl rfl ?_) fun l s' ⟨b0,⟨h1,h2⟩,h3⟩=>⟨h1,by rw [h3,h2]⟩
 have kA:okAt (encL atC ats) ats.length=true:=okAt_iff.2 ⟨ats,rfl,rfl,h20⟩
 have kW:okIu64 (encL (cI .u64) xs) xs.length=true:=okIu64_enc hx
 have nw:=noIds_Iu64 xs
 have na:=noids_aC ats; have la:=atC_n ats
 have ga:=fun {p:Nat} (h:p < ats.length)=>at_at h
 have hv:=fun {p:Nat} {P:AtV} (e:ats[p]? = some P)=>hV P (List.mem_of_getElem? e)
 have eO:orW (encL atC ats) ats.length=encL nI (srt (ltC (encL atC ats)) ats.length ats.length):=rfl
 have pl:=srt_pl (lt:=ltC (encL atC ats)) (n:=ats.length) ats.length (Nat.le_refl _)
 have eH:hwC (encL (cI .u64) xs)=encL (cI .u64) (hw0 xs):=by rw [hwC,decIu64_enc]
 generalize encL atC ats=ax at *
 generalize ats.length=m at *
 generalize srt (ltC ax) m m=os at *
 have no:=noids_nI os; have lo:=nI_n os; have ol:=pl.l
 have hl:=hpX_len F ax os xs
 have hc:=clN_le xs.length
 have nh:=fun j=>noIds_Iu64 (hpX F ax os xs j)
 refine SSp.to cxh1_ok (n:=60) (g:=factG F) 3 3 rfl (σ:=Unit) (fun _=>hT (clN xs.length) m k 0) (fun _=>hH (encL (cI .u64) xs) ax (encL (cI .u64) (hpX F ax os xs 0)) (encL nI os)) (mkS_le (Nat.le_of_ble_eq_true rfl)) (by kernel_rfl) ?_ fun _=>?_
 ·have e1:xmn (xmx (k:Int) 0) (m:Int)=((k:Nat):Int):=by simp only [xmn,xmx]; split <;> split <;> omega
  have z1:xle k m=true:=t_le hk
  have nh0:=nh 0
  rw [hp_a]
  simp only [kW,kA,e1,wd_nn,wd_nat,z1,cond_true]
  rw [eH,eO]
  exact⟨rfl,(),[.id 0,.id 1,.id 2,.id 3],by(exact zC)⟩
 try dsimp only
 refine SSp.code_to (g:=factG F) 4 rfl (σ:=Unit) (fun _=>hT (clN xs.length) m k k) (fun _=>hH (encL (cI .u64) xs) ax (encL (cI .u64) (hpX F ax os xs k)) (encL nI os)) (by kernel_rfl) ?_ fun _=>?_
 ·refine SCode.loop_vc cxh2_ok (n:=60) (n0:=2) 0 (by kernel_rfl) (σ:={j:Nat // j≤k}) (fun j=>hT (clN xs.length) m k j.1) (fun j=>hH (encL (cI .u64) xs) ax (encL (cI .u64) (hpX F ax os xs j.1)) (encL nI os)) (fun j=>k - j.1) (fun _=>Nat.le_of_ble_eq_true rfl) (fun⟨j,hj⟩=>?_) ⟨0,Nat.zero_le _⟩
  dsimp only
  have n1:=nh j
  have n2:=nh (j+1)
  have l1:=hl j
  rw [hp_b]
  by_cases h0:j < k
  ·have y0:xcm .lss ((j:Nat):Int) ((k:Nat):Int)=true:=t_lss (by omega)
   have y1:xle (j+1) k=true:=t_le (by omega)
   have y2:xle (j+1) m=true:=t_le (by omega)
   have e1:xar .add .i64 (j:Int) 1=((j+1:Nat):Int):=inc_i64 h0 (by omega)
   have w0:nthD (encL nI os) j=.int .i64 (os.getD j 0:Nat):=nI_0 (by omega)
   have b0:=pl.b j (by omega)
   have eX:hpX F ax os xs (j+1)=bhP F ax (hpX F ax os xs j) (os.getD j 0):=rfl
   generalize hp:os.getD j 0=p at *
   obtain⟨P,eP,p0,p1,p2,p3,p4,p5,p6,p7,p8,p9,p10,p11,p12,p13⟩:=ga b0
   have kv:=hv eP
   have z2:xle (p+1) m=true:=t_le (by omega)
   have z4:xle (p * 14+14) (m * 14)=true:=t_le (by omega)
   have hS0:isS (.str [])=true:=rfl
   have hS1:asS (.str [])=[]:=rfl
   have kI:okIu64 (encL (cI .u64) (hpX F ax os xs j)) (clN xs.length)=true:=by rw [← l1]; exact okIu64_enc (by rw [l1]; omega)
   have eV:apV F P.c (encL (cI .u64) (hpX F ax os xs j))=encL (cI .u64) (apN (hw0 (hpX F ax os xs j)) (csF F P.c)):=by rw [apV,decIu64_enc]
   have eB:bhP F ax (hpX F ax os xs j) p=if P.k=2 then apN (hw0 (hpX F ax os xs j)) (csF F P.c) else hpX F ax os xs j:=by
    show(if asI (nthD ax (p * 14+1+1+1+1))=2 then apN (hw0 (hpX F ax os xs j)) (csF F (asV (nthD ax (p * 14+1+1+1+1+1+1+1+1+1+1+1)))) else hpX F ax os xs j)=_
    rw [p4,p11]; rfl
   have ecl:=clN_clN xs.length
   simp only [y0,y1,y2,e1,z2,z4,w0,lo,ol,la,hq_i,hq_b,hq_s,hq_v,wd_nat,wd_nn,wd_ix,wd_mul,wd_add,wd_ln,Nat.zero_add,Nat.mul_one,wd_asI,wd_isI,wd_asB,wd_isB,wd_asV,wd_isV,decide_true,cond_true,cond_false,p0,p1,p2,p3,p4,p5,p6,p7,p8,p9,p10,p11,p12,p13,hS0,hS1,kI,kv,eV,ecl]
   by_cases g1:P.k=2
   ·have t1:xcm .neq P.k 2=false:=f_neq g1
    rw [if_pos g1] at eB
    rw [eX,eB] at n2
    simp only [t1,cond_false]
    exact⟨rfl,⟨j+1,h0⟩,by dsimp only; omega,[.id 0,.id 1,.id 5,.id 3],by dsimp only; rw [eX,eB]; (exact zC)⟩
   ·have t1:xcm .neq P.k 2=true:=t_neq g1
    rw [if_neg g1] at eB
    simp only [t1,cond_true]
    exact⟨rfl,⟨j+1,h0⟩,by dsimp only; omega,[.id 0,.id 1,.id 2,.id 3],by dsimp only; rw [eX,eB]; (exact zC)⟩
  ·obtain rfl:j=k:=by omega
   have y0:xcm .lss ((j:Nat):Int) ((j:Nat):Int)=false:=f_lss (by omega)
   simp only [y0,cond_false]
   exact⟨rfl,(),[.id 0,.id 1,.id 2,.id 3],by(exact zC)⟩
 try dsimp only
 have n1:=nh k
 refine zE cxh2_ok ?_
 rw [hp_z]
 exact⟨trivial,rfl,_,_,[.id 0,.id 1,.id 2],⟨rfl,rfl⟩,by(exact zC)⟩
def okHs (F:World→Prop) (c:List LV) (n:Nat) (ats:List AtV):Prop:=okAts c n ats∧∀ x∈ats,okV F x.c=true
def okH (F:World→Prop) (c:List LV) (n:Nat):Bool:=@decide (∃ ats,okHs F c n ats) (Classical.propDecidable _)
def hpW (F:World→Prop) (c ws:List LV) (n:Nat) (z:Int):List LV:=encL (cI .u64) (hpX F c (srt (ltC c) n n) (decIu64 ws) z.toNat)
theorem okH_iff {F:World→Prop} {c:List LV} {n:Nat}:okH F c n=true↔∃ ats,okHs F c n ats:=by simp only [okH,decide_eq_true_eq]
theorem hp_c (n m:Nat) (z:Int) (ws c:List LV) (F:World→Prop) (k1:okIu64 ws n=true) (k2:okH F c m=true) (k3:xcm .leq 0 z=true) (k4:xcm .leq z (.ofNat m)=true) :
  SFun prog 9 [.slo 0 0 n 0,.slo 1 0 m 0,.int .i64 z] (mkS [.ro ws,.ro c] (factG F)) fun l s=>l=.slo 2 0 (clN n) 0∧s=mkS [.ro ws,.ro c,.cells (hpW F c ws m z) (some 1)] (factG F):=by
 obtain⟨xs,rfl,rfl,hx⟩:=okIu64_iff.1 k1
 obtain⟨ats,⟨rfl,rfl,h20⟩,hV⟩:=okH_iff.1 k2
 rw [xcm_leq,decide_eq_true_eq] at k3 k4
 obtain⟨k,rfl⟩:∃ k:Nat,z=k:=⟨z.toNat,by omega⟩
 have hk:k≤ats.length:=Int.ofNat_le.1 k4
 rw [hpW,decIu64_enc,Int.toNat_natCast]
 exact hp_ok xs hx ats h20 F hV k hk
theorem okH_nd {F:World→Prop} {c:List LV} {n:Nat} (h:okH F c n=true):noIds c=true:=by
 obtain⟨ats,⟨rfl,_⟩,_⟩:=okH_iff.1 h
 exact noids_aC ats
def hpG:Gc:=fun args s=>match args,s.g with
 | [.slo w 0 n 0,.slo a 0 m 0,.int .i64 z],[(0,[.fact F])]=>(match s.h.get w with
   | some (.ro ws)=>(match s.h.get a with
     | some (.ro c)=>cond (nodupB [w,a]) (match s.lay [w,a] [.ro ws,.ro c] [.cells (hpW F c ws m z) (some 1)] with
       | some s'=>some ([okIu64 ws n,okH F c m,xcm .leq 0 z,xcm .leq z (.ofNat m)],.slo s.n 0 (clN n) 0,s')
       | none=>none) none
     | _=>none)
   | _=>none)
 | _,_=>none
theorem hpG_ok:GOk prog 9 hpG:=by
 intro args s bs l s' hg hb hfr
 unfold hpG at hg
 split at hg
 ·rename_i w n a m z F hgl
  split at hg
  ·rename_i ws hb0
   split at hg
   ·rename_i c hb1
    cases hbc:nodupB [w,a] with
    | false=>rw [hbc] at hg; cases hg
    | true =>
      rw [hbc] at hg
      simp only [cond_true] at hg
      split at hg
      ·rename_i s1 hs1
       simp only [Option.some.injEq,Prod.mk.injEq] at hg
       obtain⟨rfl,rfl,rfl⟩:=hg
       simp only [allT_cons] at hb
       obtain⟨k1,k2,k3,k4,_⟩:=hb
       have nw:noIds ws=true:=okIu_nd k1
       have nc:noIds c=true:=okH_nd k2
       refine SFun.lay (bs:=[.ro ws,.ro c]) (args0:=[.slo 0 0 n 0,.slo 1 0 m 0,.int .i64 z]) (bs':=[.ro ws,.ro c,.cells (hpW F c ws m z) (some 1)]) (v0:=.slo 2 0 (clN n) 0) hfr hs1 (nodupB_nd hbc)
        ⟨⟨there hfr hb0,_,hb0,lb_ro (by(exact zId)),fun κ hκ=>lb_ro (by(exact zId))⟩,⟨there hfr hb1,_,hb1,lb_ro (by(exact zId)),fun κ hκ=>lb_ro (by(exact zId))⟩,trivial⟩ (by(exact zTl)) ?_
        fun κ h1 h2=>⟨⟨lb_ro (by(exact zId)),lb_ro (by(exact zId)),lb_same (noIds_Iu64 _),trivial⟩,lw_slo (h2 0 (by simp))⟩
       rw [hgl]; exact(hp_c n m z ws c F k1 k2 k3 k4)
      ·cases hg
   ·cases hg
  ·cases hg
 ·cases hg
end
end Go.Lev
