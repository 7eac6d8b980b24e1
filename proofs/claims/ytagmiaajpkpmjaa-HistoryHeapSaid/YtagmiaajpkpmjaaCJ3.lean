/- chapter 29: attempts out of draws: a row that the program has built, its rows given away -/
import Derived.Test.YtagmiaajpkpmjaaCJ2
import Derived.Test.YtagmiaajpkpmjaaLc
import Derived.Test.YtagmiaajpkpmjaaChecked
import Derived.KernelRfl
namespace Go.Lev
set_option linter.unusedSimpArgs false
set_option linter.unusedVariables false
open Go.RowKit
open Go.Proofs.Try (prog)
set_option maxRecDepth 100000
noncomputable section
abbrev cell:Int×Int→List LV:=cII .i64 .u64
theorem cell_len (x:Int×Int):(cell x).length=2:=rfl
theorem cell_0 {xs:List (Int×Int)} {i:Nat} (h:i < xs.length):nthD (encL cell xs) (i * 2)=.int .i64 xs[i].1:=encL_nth cell_len (j:=0) h (by omega)
theorem cell_1 {xs:List (Int×Int)} {i:Nat} (h:i < xs.length):nthD (encL cell xs) (i * 2+1)=.int .u64 xs[i].2:=encL_nth cell_len (j:=1) h (by omega)
theorem cell_n (xs:List (Int×Int)):(encL cell xs).length=xs.length * 2:=encL_length cell_len xs
theorem cell_push (xs:List (Int×Int)) (a z:Int):xcat (xcut (encL cell xs) 0 (xs.length * 2)) [.int .i64 a,.int .u64 z]=encL cell (xs++[(a,z)]):=by
 rw [xcut_all (by rw [cell_n]; omega),encL_append]; rfl
theorem noids_c (xs:List (Int×Int)):noIds (encL cell xs)=true:=noIds_encL (fun _=>rfl) xs
theorem can_c (xs:List (Int×Int)):(encL cell xs).all lvCan=true:=by
 induction xs with
 | nil=>rfl
 | cons x r ih=>rw [encL,List.all_append,ih]; rfl
theorem cell_cut {xs:List (Int×Int)} {j:Nat} (h:j < xs.length):((encL cell xs).drop (j * 2)).take 2=[.int .i64 xs[j].1,.int .u64 xs[j].2]:=by
 have l:=cell_n xs
 refine List.ext_getElem? fun i=>?_
 rw [List.getElem?_take]
 match i with
 | 0 =>
   rw [if_pos (by omega),List.getElem?_drop]
   have:=cell_0 h
   unfold nthD at this
   rw [nth_eq] at this
   simp only [Nat.add_zero]
   rw [List.getElem?_eq_getElem (by omega)] at this ⊢
   simp only at this
   rw [this]; rfl
 | 1 =>
   rw [if_pos (by omega),List.getElem?_drop]
   have:=cell_1 h
   unfold nthD at this
   rw [nth_eq] at this
   rw [List.getElem?_eq_getElem (by omega)] at this ⊢
   simp only at this
   rw [this]; rfl
 | i+2=>rw [if_neg (by omega)]; simp
structure DrV where
 k:Int
 b:Int
 e:Int
 s:Int
 r:Value
 c:Value
 rs:List (Int×Int)
 cs:List (Int×Int)
abbrev drC (x:DrV):List LV:=[.int .i64 x.k,.int .i64 x.b,.int .i64 x.e,.int .u64 x.s,.val x.r,.val x.c]
theorem drC_len (x:DrV):(drC x).length=6:=rfl
theorem dr_0 {ds:List DrV} {i:Nat} (h:i < ds.length):nthD (encL drC ds) (i * 6)=.int .i64 ds[i].k:=encL_nth drC_len (j:=0) h (by omega)
theorem dr_1 {ds:List DrV} {i:Nat} (h:i < ds.length):nthD (encL drC ds) (i * 6+1)=.int .i64 ds[i].b:=encL_nth drC_len (j:=1) h (by omega)
theorem dr_2 {ds:List DrV} {i:Nat} (h:i < ds.length):nthD (encL drC ds) (i * 6+2)=.int .i64 ds[i].e:=encL_nth drC_len (j:=2) h (by omega)
theorem dr_3 {ds:List DrV} {i:Nat} (h:i < ds.length):nthD (encL drC ds) (i * 6+3)=.int .u64 ds[i].s:=encL_nth drC_len (j:=3) h (by omega)
theorem dr_4 {ds:List DrV} {i:Nat} (h:i < ds.length):nthD (encL drC ds) (i * 6+4)=.val ds[i].r:=encL_nth drC_len (j:=4) h (by omega)
theorem dr_5 {ds:List DrV} {i:Nat} (h:i < ds.length):nthD (encL drC ds) (i * 6+5)=.val ds[i].c:=encL_nth drC_len (j:=5) h (by omega)
theorem dr_n (ds:List DrV):(encL drC ds).length=ds.length * 6:=encL_length drC_len ds
theorem noids_dr (ds:List DrV):noIds (encL drC ds)=true:=noIds_encL (fun _=>rfl) ds
def fDr (ds:List DrV):World→Prop:=fun W=>∀ x∈ds,RowArg W x.r x.rs.length (encL cell x.rs)∧RowArg W x.c x.cs.length (encL cell x.cs)
structure AtV where
 k:Int
 b:Int
 e:Int
 s:Int
 r:Value
 c:Value
 cs:List (Int×Int)
abbrev atN (x:AtV):List LV:=aC x.k x.b x.e x.s (.val x.r) (.val x.c)
abbrev atC (x:AtV):List LV:=[.int .i64 0,.int .i64 0,.int .i64 0,.bool false,.int .i64 x.k,.int .i64 0,.int .u64 0,.int .u64 x.s,.int .i64 x.b,.int .i64 x.e,.val x.r,.val x.c,.val (.slice none 0 0),.str []]
theorem atN_len (x:AtV):(atN x).length=14:=rfl
theorem atC_len (x:AtV):(atC x).length=14:=rfl
theorem atN_n (ats:List AtV):(encL atN ats).length=ats.length * 14:=encL_length atN_len ats
theorem noids_aN (ats:List AtV):noIds (encL atN ats)=true:=noIds_encL (fun _=>rfl) ats
theorem noids_aC (ats:List AtV):noIds (encL atC ats)=true:=noIds_encL (fun _=>rfl) ats
theorem at_push (ats:List AtV) (x:AtV):xcat (xcut (encL atN ats) 0 (ats.length * 14)) (atN x)=encL atN (ats++[x]):=by
 rw [xcut_all (by rw [atN_n]; omega),encL_append]; rfl
theorem at_tell {ρ : Srcs}:∀ ats:List AtV,LVWs ρ (encL atC ats) (encL atN ats)
 | []=>lws_nil
 | x::r=>lws_cons (lw_noid rfl) (lws_cons (lw_noid rfl) (lws_cons (lw_noid rfl) (lws_cons (lw_noid rfl) (lws_cons (lw_noid rfl) (lws_cons (lw_noid rfl) (lws_cons (lw_noid rfl) (lws_cons (lw_noid rfl) (lws_cons (lw_noid rfl) (lws_cons (lw_noid rfl) (lws_cons (lw_noid rfl) (lws_cons (lw_noid rfl) (lws_cons lw_vn (lws_cons (lw_noid rfl) (at_tell r))))))))))))))
structure StA (q:SQ) (ats:List AtV):Prop where
 c:∀ W,q.F W→∀ x∈ats,RowArg W x.c x.cs.length (encL cell x.cs)
 u:∀ W w:World,Below W.heap.size W w→q.F W→q.F w
 b:∀ x∈ats,x.cs.length≤4∧∀ y∈x.cs,1≤y.1∧y.1≤5∧0≤y.2∧y.2≤1
def gdC (y:Int×Int):Prop:=1≤y.1∧y.1≤5∧0≤y.2∧y.2≤1
theorem rem2 {x:Int} (h1:0≤x):0≤xar .rem .u64 x 2∧xar .rem .u64 x 2≤1:=by
 rw [xar_rem _ _ _ (by omega),Int.tmod_eq_emod_of_nonneg h1]; omega
set_option maxHeartbeats 8000000 in
theorem at_ok (ds:List DrV) (F:World→Prop) (hs:∃ W,F W) (hF:∀ W,F W→fDr ds W) (hu:∀ x∈ds,∀ y∈x.cs,0≤y.2) :
  SFun prog 6 [.slo 0 0 ds.length 0,.bool false] (mkS [.ro (encL drC ds)] (factG F)) fun l s=>∃ (q:SQ) (ats:List AtV),StA q ats∧ats.length=min ds.length 20∧l=.slo 1 0 ats.length 0∧s=mkS [.ro (encL drC ds),.cells (encL atC ats) (some 14),stB q 3,.dead] (factG F):=by
 refine SFun.mono (SFun.pieces (Q:=fun l b=>∃ (q:SQ) (ats:List AtV),StA q ats∧ats.length=min ds.length 20∧l=.slo 1 0 ats.length 0∧b=[.ro (encL drC ds),.cells (encL atC ats) (some 14),stB q 3,.dead]) 140 1 dL [4] (by kernel_rfl) rfl rfl rfl ?_) fun l s' ⟨b0,⟨q,ats,h1,h2,h3,h4⟩,h5⟩=>⟨q,ats,h1,h2,h3,by rw [h5,h4]⟩
 have nd:=noids_dr ds; have ld:=dr_n ds
 have g0:=fun {i:Nat} (h:i < ds.length)=>dr_0 h
 have g1:=fun {i:Nat} (h:i < ds.length)=>dr_1 h
 have g2:=fun {i:Nat} (h:i < ds.length)=>dr_2 h
 have g3:=fun {i:Nat} (h:i < ds.length)=>dr_3 h
 have g4:=fun {i:Nat} (h:i < ds.length)=>dr_4 h
 have g5:=fun {i:Nat} (h:i < ds.length)=>dr_5 h
 generalize encL drC ds=dx at *
 obtain⟨W1,hW1⟩:=hs
 refine SSp.to cxd_ok (n:=60) (g:=factG F) 3 3 rfl (σ:=Unit) (fun _=>dT0 ds.length 0) (fun _=>dH0 dx [] (stB stNil 3)) (mkS_le (Nat.le_of_ble_eq_true rfl)) (by kernel_rfl) ?_ fun _=>?_
 ·rw [at_0]; exact⟨rfl,(),[.id 0,.none,.none,.none],by(exact zC)⟩
 try dsimp only
 refine SSp.code_to (g:=factG F) 4 rfl (σ:={p:SQ×List AtV // StA p.1 p.2∧p.2.length=min ds.length 20}) (fun p=>dT0 ds.length p.1.2.length) (fun p=>dH0 dx (encL atN p.1.2) (stB p.1.1 3)) (by kernel_rfl) ?_ fun⟨⟨q,ats⟩,hS,hR⟩=>?_
 ·refine SCode.loop_sp 0 (by kernel_rfl) (σ:={p:SQ×List AtV // StA p.1 p.2∧p.2.length≤min ds.length 20}) (fun p=>dT0 ds.length p.1.2.length) (fun p=>dH0 dx (encL atN p.1.2) (stB p.1.1 3)) (fun p=>20 - p.1.2.length) (fun _=>Nat.le_of_ble_eq_true rfl) (fun⟨⟨q,ats⟩,hS,hR⟩=>?_) ⟨(stNil,[]),⟨fun W h x hx=>(by cases hx),fun W w hB h=>h,fun x hx=>(by cases hx)⟩,Nat.zero_le _⟩
  dsimp only at hS hR ⊢
  have na:=noids_aN ats; have la:=atN_n ats
  have apush:=at_push ats
  refine SSp.to cxd_ok (n:=60) (g:=factG F) 2 2 rfl (σ:={_u:Unit // ats.length < ds.length∧ats.length < 20}) (fun _=>dT0 ds.length ats.length) (fun _=>dH0 dx (encL atN ats) (stB q 3)) (mkS_le (Nat.le_of_ble_eq_true rfl)) (by kernel_rfl) ?_ fun⟨_,h0,h1⟩=>?_
  ·rw [at_a]
   by_cases h0:ats.length < ds.length
   ·have y0:xcm .lss ((ats.length:Nat):Int) ((ds.length:Nat):Int)=true:=t_lss (by omega)
    by_cases h1:ats.length < 20
    ·have y1:xcm .lss ((ats.length:Nat):Int) 20=true:=t_lss (by omega)
     simp only [y0,y1,cond_true]
     obtain⟨F',e',h'⟩:=q
     cases e' <;> exact⟨rfl,⟨(),h0,h1⟩,[.id 0,.id 1,.id 2,.id 3],by(exact zC)⟩
    ·have y1:xcm .lss ((ats.length:Nat):Int) 20=false:=f_lss (by omega)
     simp only [y0,y1,cond_true,cond_false]
     refine⟨rfl,⟨(q,ats),hS,by dsimp only; omega⟩,[.id 0,.id 1,.id 2,.id 3],?_⟩
     dsimp only
     obtain⟨F',e',h'⟩:=q
     cases e' <;> (exact zC)
   ·have y0:xcm .lss ((ats.length:Nat):Int) ((ds.length:Nat):Int)=false:=f_lss (by omega)
    simp only [y0,cond_false]
    refine⟨rfl,⟨(q,ats),hS,by dsimp only; omega⟩,[.id 0,.id 1,.id 2,.id 3],?_⟩
    dsimp only
    obtain⟨F',e',h'⟩:=q
    cases e' <;> (exact zC)
  try dsimp only
  have v0:=g0 h0; have v1:=g1 h0; have v2:=g2 h0; have v3:=g3 h0; have v4:=g4 h0; have v5:=g5 h0
  have rowR:=fun W (hW:F W)=>(hF W hW ds[ats.length] (List.getElem_mem h0)).1
  have rowC:=fun W (hW:F W)=>(hF W hW ds[ats.length] (List.getElem_mem h0)).2
  have evR:=vlen_row (rowR W1 hW1)
  have evC:=vlen_row (rowC W1 hW1)
  have hux:=hu ds[ats.length] (List.getElem_mem h0)
  clear g0 g1 g2 g3 g4 g5
  generalize ds[ats.length]=D at *
  have x0:xle (ats.length+1) ds.length=true:=t_le (by omega)
  have x1:xle (ats.length * 6+1) (ds.length * 6)=true:=t_le (by omega)
  have x2:xle (ats.length * 6+1+1) (ds.length * 6)=true:=t_le (by omega)
  have x3:xle (ats.length * 6+2+1) (ds.length * 6)=true:=t_le (by omega)
  have x4:xle (ats.length * 6+3+1) (ds.length * 6)=true:=t_le (by omega)
  have x5:xle (ats.length * 6+4+1) (ds.length * 6)=true:=t_le (by omega)
  have x6:xle (ats.length * 6+5+1) (ds.length * 6)=true:=t_le (by omega)
  refine SSp.code_to (g:=factG F) 3 rfl (σ:={p:SQ×AtV // StA p.1 (ats++[p.2])}) (fun _=>[(0,.slo 0 0 ds.length 0),(1,.bool false),(5,.slo 1 0 (ats.length+1) 0),(6,.int .i64 ats.length)]) (fun p=>dH0 dx (encL atN (ats++[p.1.2])) (stB p.1.1 3)) (by kernel_rfl) ?_ fun⟨⟨q',x⟩,hS'⟩=>?_
  ·refine SCode.block_sp 1 (by kernel_rfl) ?_
   obtain⟨k,hk⟩:∃ k,k=wthV D.k 0 6:=⟨_,rfl⟩
   obtain⟨b,hb⟩:∃ k,k=wthV D.b 0 12:=⟨_,rfl⟩
   obtain⟨e,he⟩:∃ k,k=wthV D.e 0 14:=⟨_,rfl⟩
   obtain⟨s,hs⟩:∃ k,k=xar .rem .u64 D.s 4:=⟨_,rfl⟩
   refine SSp.to cxd_ok (n:=60) (g:=factG F) 4 4 rfl (σ:=Unit) (fun _=>dT1 ds.length ats.length 0) (fun _=>dH1 dx (encL atN ats) (stB q 3) k b e s 0 0 [] []) (mkS_le (Nat.le_of_ble_eq_true rfl)) (by kernel_rfl) ?_ fun _=>?_
   ·rw [at_b]
    simp only [x0,x1,x2,x3,x4,v0,v1,v2,v3,ld,hq_i,wd_nat,wd_ix,wd_mul,wd_add,wd_ln,Nat.zero_add,wd_asI,wd_isI,decide_true,cond_true]
    subst hk hb he hs
    obtain⟨F',e',h'⟩:=q
    cases e' <;> exact⟨rfl,(),[.id 0,.id 1,.id 2,.id 3,.id 4,.none,.none],by(exact zC)⟩
   try dsimp only
   refine SSp.code_to (g:=factG F) 5 rfl (σ:={xs:List (Int×Int) // xs.length≤4}) (fun xs=>dT1 ds.length ats.length xs.1.length) (fun xs=>dH1 dx (encL atN ats) (stB q 3) k b e s xs.1.length 0 (encL cell xs.1) []) (by kernel_rfl) ?_ fun⟨xs,hx4⟩=>?_
   ·refine SCode.loop_vc cxd_ok (n:=60) (n0:=1) 2 (by kernel_rfl) (σ:={xs:List (Int×Int) // xs.length≤4}) (fun xs=>dT1 ds.length ats.length xs.1.length) (fun xs=>dH1 dx (encL atN ats) (stB q 3) k b e s xs.1.length 0 (encL cell xs.1) []) (fun xs=>4 - xs.1.length) (fun _=>Nat.le_of_ble_eq_true rfl) (fun⟨xs,hx4⟩=>?_) ⟨[],Nat.zero_le _⟩
    dsimp only at hx4 ⊢
    have nc:=noids_c xs; have lc:=cell_n xs
    obtain⟨j,hj⟩:∃ j,j=xs.length:=⟨_,rfl⟩
    rw [← hj] at lc ⊢
    rw [at_c]
    simp only [x0,x5,v4,ld,evR,wd_nat,wd_ix,wd_mul,wd_add,wd_ln,Nat.zero_add,wd_asV,wd_isV,cond_true]
    by_cases c0:j < D.rs.length
    ·have y2:xcm .lss ((j:Nat):Int) ((D.rs.length:Nat):Int)=true:=t_lss (by omega)
     by_cases c1:j < 4
     ·have y3:xcm .lss ((j:Nat):Int) 4=true:=t_lss (by omega)
      obtain⟨k1,k2⟩:=vrow_eq ⟨W1,hW1⟩ rowR (can_c D.rs) (k:=j * 2) (m:=2) (by rw [cell_n]; omega) (by omega)
      rw [cell_cut c0] at k2
      have kx:=vidx_row (rowR W1 hW1) c0
      have w0:nthD [LV.int .i64 D.rs[j].1,LV.int .u64 D.rs[j].2] 0=.int .i64 D.rs[j].1:=rfl
      have w1:nthD [LV.int .i64 D.rs[j].1,LV.int .u64 D.rs[j].2] 1=.int .u64 D.rs[j].2:=rfl
      have w2:xln [LV.int .i64 D.rs[j].1,LV.int .u64 D.rs[j].2]=2:=rfl
      have e3:xar .add .i64 (j:Int) 1=((j+1:Nat):Int):=inc_i64 c1 (by omega)
      have y4:xle (j+1) 1000000=true:=t_le (by omega)
      have y5:xle (j * 2) (j * 2)=true:=t_le (by omega)
      have y6:xle 2 2=true:=rfl
      simp only [y2,y3,y4,y5,y6,kx,k1,k2,w0,w1,w2,e3,hq_i,lc,wd_ln,wd_asI,wd_isI,decide_true,cond_true]
      obtain⟨A,hA⟩:∃ k,k=wthV D.rs[j].1 1 5:=⟨_,rfl⟩
      obtain⟨B,hB⟩:∃ k,k=xar .rem .u64 D.rs[j].2 2:=⟨_,rfl⟩
      have pg:=cell_push xs A B
      rw [← hj] at pg
      have lx1:(xs++[(A,B)]).length=j+1:=by simp [hj]
      have nx1:=noids_c (xs++[(A,B)])
      refine⟨rfl,⟨xs++[(A,B)],by rw [lx1]; omega⟩,by simp only [lx1]; omega,[.id 0,.id 1,.id 2,.id 3,.id 4,.id 9,.id 6],?_⟩
      dsimp only
      rw [lx1,← pg]
      rw [← pg] at nx1
      subst hA hB
      obtain⟨F',e',h'⟩:=q
      cases e' <;> (exact zC)
     ·have y3:xcm .lss ((j:Nat):Int) 4=false:=f_lss (by omega)
      simp only [y2,y3,cond_true,cond_false]
      refine⟨rfl,⟨xs,hx4⟩,[.id 0,.id 1,.id 2,.id 3,.id 4,.id 5,.id 6],?_⟩
      dsimp only
      rw [← hj]
      obtain⟨F',e',h'⟩:=q
      cases e' <;> (exact zC)
    ·have y2:xcm .lss ((j:Nat):Int) ((D.rs.length:Nat):Int)=false:=f_lss (by omega)
     simp only [y2,cond_false]
     refine⟨rfl,⟨xs,hx4⟩,[.id 0,.id 1,.id 2,.id 3,.id 4,.id 5,.id 6],?_⟩
     dsimp only
     rw [← hj]
     obtain⟨F',e',h'⟩:=q
     cases e' <;> (exact zC)
   dsimp only at hx4 ⊢
   have nx:=noids_c xs
   refine SSp.to cxd_ok (n:=60) (g:=factG F) 1 6 rfl (σ:=Unit) (fun _=>dT2 ds.length ats.length 0) (fun _=>dH1 dx (encL atN ats) (stB q 3) k b e s xs.length 0 (encL cell xs) []) (mkS_le (Nat.le_of_ble_eq_true rfl)) (by kernel_rfl) ?_ fun _=>?_
   ·rw [at_d]
    obtain⟨F',e',h'⟩:=q
    cases e' <;> exact⟨rfl,(),[.id 0,.id 1,.id 2,.id 3,.id 4,.id 5,.id 6],by(exact zC)⟩
   try dsimp only
   refine SSp.code_to (g:=factG F) 7 rfl (σ:={ys:List (Int×Int) // ys.length≤4∧∀ y∈ys,gdC y}) (fun ys=>dT2 ds.length ats.length ys.1.length) (fun ys=>dH1 dx (encL atN ats) (stB q 3) k b e s xs.length ys.1.length (encL cell xs) (encL cell ys.1)) (by kernel_rfl) ?_ fun⟨ys,hy4,hyb⟩=>?_
   ·refine SCode.loop_vc cxd_ok (n:=60) (n0:=1) 4 (by kernel_rfl) (σ:={ys:List (Int×Int) // ys.length≤4∧∀ y∈ys,gdC y}) (fun ys=>dT2 ds.length ats.length ys.1.length) (fun ys=>dH1 dx (encL atN ats) (stB q 3) k b e s xs.length ys.1.length (encL cell xs) (encL cell ys.1)) (fun ys=>4 - ys.1.length) (fun _=>Nat.le_of_ble_eq_true rfl) (fun⟨ys,hyy⟩=>?_) ⟨[],Nat.zero_le _,fun y hy=>(by cases hy)⟩
    dsimp only at hyy ⊢
    have nc:=noids_c ys; have lc:=cell_n ys
    obtain⟨j,hj⟩:∃ j,j=ys.length:=⟨_,rfl⟩
    rw [← hj] at lc ⊢
    rw [at_e]
    simp only [x0,x6,v5,ld,evC,wd_nat,wd_ix,wd_mul,wd_add,wd_ln,Nat.zero_add,wd_asV,wd_isV,cond_true]
    by_cases c0:j < D.cs.length
    ·have y2:xcm .lss ((j:Nat):Int) ((D.cs.length:Nat):Int)=true:=t_lss (by omega)
     by_cases c1:j < 4
     ·have y3:xcm .lss ((j:Nat):Int) 4=true:=t_lss (by omega)
      obtain⟨k1,k2⟩:=vrow_eq ⟨W1,hW1⟩ rowC (can_c D.cs) (k:=j * 2) (m:=2) (by rw [cell_n]; omega) (by omega)
      rw [cell_cut c0] at k2
      have kx:=vidx_row (rowC W1 hW1) c0
      have w0:nthD [LV.int .i64 D.cs[j].1,LV.int .u64 D.cs[j].2] 0=.int .i64 D.cs[j].1:=rfl
      have w1:nthD [LV.int .i64 D.cs[j].1,LV.int .u64 D.cs[j].2] 1=.int .u64 D.cs[j].2:=rfl
      have w2:xln [LV.int .i64 D.cs[j].1,LV.int .u64 D.cs[j].2]=2:=rfl
      have e3:xar .add .i64 (j:Int) 1=((j+1:Nat):Int):=inc_i64 c1 (by omega)
      have y4:xle (j+1) 1000000=true:=t_le (by omega)
      have y5:xle (j * 2) (j * 2)=true:=t_le (by omega)
      have y6:xle 2 2=true:=rfl
      simp only [y2,y3,y4,y5,y6,kx,k1,k2,w0,w1,w2,e3,hq_i,lc,wd_ln,wd_asI,wd_isI,decide_true,cond_true]
      obtain⟨A,hA⟩:∃ k,k=wthV D.cs[j].1 1 5:=⟨_,rfl⟩
      obtain⟨B,hB⟩:∃ k,k=xar .rem .u64 D.cs[j].2 2:=⟨_,rfl⟩
      have gAB:gdC (A,B):=by
       have h1:=wthV_in (a:=D.cs[j].1) (lo:=1) (hi:=5) (by omega)
       have h2:=rem2 (hux D.cs[j] (List.getElem_mem c0))
       rw [← hA] at h1
       rw [← hB] at h2
       exact⟨h1.1,h1.2,h2.1,h2.2⟩
      have pg:=cell_push ys A B
      rw [← hj] at pg
      have lx1:(ys++[(A,B)]).length=j+1:=by simp [hj]
      have nx1:=noids_c (ys++[(A,B)])
      refine⟨rfl,⟨ys++[(A,B)],by rw [lx1]; omega,fun y hy=>by rcases List.mem_append.1 hy with hy | hy; exact hyy.2 y hy; rw [List.mem_singleton.1 hy]; exact gAB⟩,by simp only [lx1]; omega,[.id 0,.id 1,.id 2,.id 3,.id 4,.id 5,.id 9],?_⟩
      dsimp only
      rw [lx1,← pg]
      rw [← pg] at nx1
      subst hA hB
      obtain⟨F',e',h'⟩:=q
      cases e' <;> (exact zC)
     ·have y3:xcm .lss ((j:Nat):Int) 4=false:=f_lss (by omega)
      simp only [y2,y3,cond_true,cond_false]
      refine⟨rfl,⟨ys,hyy⟩,[.id 0,.id 1,.id 2,.id 3,.id 4,.id 5,.id 6],?_⟩
      dsimp only
      rw [← hj]
      obtain⟨F',e',h'⟩:=q
      cases e' <;> (exact zC)
    ·have y2:xcm .lss ((j:Nat):Int) ((D.cs.length:Nat):Int)=false:=f_lss (by omega)
     simp only [y2,cond_false]
     refine⟨rfl,⟨ys,hyy⟩,[.id 0,.id 1,.id 2,.id 3,.id 4,.id 5,.id 6],?_⟩
     dsimp only
     rw [← hj]
     obtain⟨F',e',h'⟩:=q
     cases e' <;> (exact zC)
   dsimp only at hy4 hyb ⊢
   have ny:=noids_c ys
   refine SSp.absorbC 4 10 5 2 (γ:=3) (n:=xs.length) (cs:=encL cell xs) (op:=some 2) (q:=q) (by kernel_rfl) (Nat.le_of_ble_eq_true rfl) rfl rfl (by omega) (by omega) rfl rfl nx (fun h=>by rw [List.length_eq_zero_iff.1 h]; rfl) fun vr q1 hq1=>?_
   refine SSp.absorbC 4 11 6 7 (γ:=8) (n:=ys.length) (cs:=encL cell ys) (op:=some 2) (q:=q1) (by kernel_rfl) (Nat.le_of_ble_eq_true rfl) rfl rfl (by omega) (by omega) rfl rfl ny (fun h=>by rw [List.length_eq_zero_iff.1 h]; rfl) fun vc q2 hq2=>?_
   have S2:StA q2 (ats++[⟨k,b,e,s,vr,vc,ys⟩]):=by
    refine⟨fun W h x hx=>?_,fun W w hB h=>?_,fun x hx=>?_⟩
    ·rw [hq2] at h
     rcases List.mem_append.1 hx with hx | hx
     ·have h1:=h.1
      rw [hq1] at h1
      exact hS.c W h1.1 x hx
     ·rw [List.mem_singleton.1 hx]; exact h.2
    ·rw [hq2,hq1] at h ⊢; exact⟨⟨hS.u W w hB h.1.1,h.1.2.up hB⟩,h.2.up hB⟩
    ·rcases List.mem_append.1 hx with hx | hx
     ·exact hS.b x hx
     ·rw [List.mem_singleton.1 hx]; exact⟨hy4,hyb⟩
   clear hq1 hq2
   change SSp _ _ _ _ (mkTm 140 (dT2 ds.length ats.length ys.length)) (mkS (dH2 dx (encL atN ats) (stB q2 10) k b e s vr vc) _) _
   refine zE cxd_ok ?_
   rw [at_f]
   have z1:xle (ats.length+1) 1000000=true:=t_le (by omega)
   have z2:xle (ats.length * 14) (ats.length * 14)=true:=t_le (by omega)
   have hp:=apush ⟨k,b,e,s,vr,vc,ys⟩
   have nn:=noids_aN (ats++[⟨k,b,e,s,vr,vc,ys⟩])
   simp only [z1,z2,la,wd_nat,wd_mul,wd_add,wd_ln,Nat.zero_add,cond_true]
   refine⟨rfl,⟨(q2,⟨k,b,e,s,vr,vc,ys⟩),S2⟩,[.id 0,.id 12,.id 9,.id 10],?_⟩
   dsimp only
   rw [← hp]
   rw [← hp] at nn
   obtain⟨F',e',h'⟩:=q2
   cases e' <;> (exact zC)
  dsimp only at hS' ⊢
  refine zE cxd_ok ?_
  have e3:xar .add .i64 (ats.length:Int) 1=((ats.length+1:Nat):Int):=inc_i64 h1 (by omega)
  rw [at_g,e3]
  have lr:(ats++[x]).length=ats.length+1:=by simp
  have nv2:=noids_aN (ats++[x])
  refine⟨rfl,⟨(q',ats++[x]),hS',by dsimp only; omega⟩,by dsimp only; omega,[.id 0,.id 1,.id 2,.id 3],?_⟩
  dsimp only
  rw [lr]
  obtain⟨F',e',h'⟩:=q'
  cases e' <;> (exact zC)
 dsimp only at hS hR ⊢
 refine zE cxd_ok ?_
 rw [at_z]
 refine⟨trivial,rfl,_,_,[.id 0,.id 1,.id 2,.id 3],⟨q,ats,hS,hR,rfl,rfl⟩,?_⟩
 obtain⟨F',e',h'⟩:=q
 cases e'
 ·exact⟨by kernel_rfl,by((repeat refine okTms_cons (by(first | exact lw_any | exact lw_int | exact lw_bool | exact lw_ptr rfl | exact lw_slo rfl | exact lw_nilp | exact lw_nils | exact lw_str | exact lw_slo_nils | exact lw_slo_sle | exact lw_sl rfl | exact lw_unb | exact lw_gptr | exact lw_noid rfl | exact lw_cap rfl (Nat.le_refl _) | exact lw_cap rfl (by omega) | assumption | exact lw_tup (by((repeat refine lws_cons (by(first | exact lw_any | exact lw_int | exact lw_bool | exact lw_ptr rfl | exact lw_slo rfl | exact lw_nilp | exact lw_nils | exact lw_str | exact lw_slo_nils | exact lw_slo_sle | exact lw_sl rfl | exact lw_unb | exact lw_gptr | exact lw_noid rfl | exact lw_cap rfl (Nat.le_refl _) | exact lw_cap rfl (by omega) | assumption)) ?_); exact lws_nil)))) ?_); exact okTms_nil),okBlks_cons (lb_ro nd) (okBlks_cons (lb_cells (at_tell ats) (noId_any (noids_aC ats))) (okBlks_cons (lb_obj rfl) (okBlks_cons lb_dead okBlks_nil)))⟩
 ·exact⟨by kernel_rfl,by((repeat refine okTms_cons (by(first | exact lw_any | exact lw_int | exact lw_bool | exact lw_ptr rfl | exact lw_slo rfl | exact lw_nilp | exact lw_nils | exact lw_str | exact lw_slo_nils | exact lw_slo_sle | exact lw_sl rfl | exact lw_unb | exact lw_gptr | exact lw_noid rfl | exact lw_cap rfl (Nat.le_refl _) | exact lw_cap rfl (by omega) | assumption | exact lw_tup (by((repeat refine lws_cons (by(first | exact lw_any | exact lw_int | exact lw_bool | exact lw_ptr rfl | exact lw_slo rfl | exact lw_nilp | exact lw_nils | exact lw_str | exact lw_slo_nils | exact lw_slo_sle | exact lw_sl rfl | exact lw_unb | exact lw_gptr | exact lw_noid rfl | exact lw_cap rfl (Nat.le_refl _) | exact lw_cap rfl (by omega) | assumption)) ?_); exact lws_nil)))) ?_); exact okTms_nil),okBlks_cons (lb_ro nd) (okBlks_cons (lb_cells (at_tell ats) (noId_any (noids_aC ats))) (okBlks_cons lb_dead (okBlks_cons lb_dead okBlks_nil)))⟩
end
end Go.Lev
