/- text: readLabel, readField; trees of readIns -/
import Derived.Test.YtnkkkihgljbllaaDoorCV3
import Derived.Test.YtnkkkihgljbllaaDoorCQ8
import Derived.Test.YtnkkkihgljbllaaDoorCP5
import Derived.Test.YtnkkkihgljbllaaDoorLc
import Derived.Test.YtnkkkihgljbllaaDoorChecked
import Derived.KernelRfl
namespace Go.Lev
set_option linter.unusedSimpArgs false
set_option linter.unusedVariables false
open Go.RowKit
open Go.Proofs.Tryd (prog)
set_option maxRecDepth 100000
noncomputable section
abbrev psL (ni nl nj:Nat) (ln:Int) (ax bx cx:List LV):List LB:=[.cells [.slo 1 0 ni 0,.slo 4 0 nl 0,.slo 3 0 nj 0,.int .i64 ln] none,.cells ax (some 5),.dead,.cells cx (some 4),.cells bx (some 4)]
abbrev psF (ni nl nj:Nat) (ln:Int) (ax bx cx:List LV) (op a b c n:Int):List LB:=[.cells [.slo 1 0 ni 0,.slo 2 0 nl 0,.slo 5 0 nj 0,.int .i64 ln] none,.cells ax (some 5),.cells bx (some 4),.dead,.cells [.int .i64 op,.int .i64 a,.int .i64 b,.int .i64 c,.int .u64 n] none,.cells cx (some 4)]
def rlS (x:List UInt8):List UInt8:=xscut x 0 (x.length - 1)
def rlB (bx:List LV) (x:List UInt8):Bool:=isnB (rlS x) && !(fndB bx (rlS x))
def rlW (bx:List LV) (x:List UInt8) (ni:Nat):List LV:=bif rlB bx x then bx++mkC ⟨rlS x,ni,0,0⟩ else bx
def rlM (nl:Nat) (bx:List LV) (x:List UInt8):Nat:=bif rlB bx x then nl+1 else nl
def rfB (k:Int) (x:List UInt8):Bool:=bif decide (k=4) then isnB x else rvB k x
def rfX (j i k:Int) (x:List UInt8) (v:Int):Int:=bif decide (k=4) || !decide (i=j) then v else bif decide (j=3) then rvN k x else xwr .i64 (rvN k x)
def rfJ (cx:List LV) (k:Int) (x:List UInt8) (ni:Nat) (ln w:Int):List LV:=bif decide (k=4) then cx++mkC ⟨x,ni,ln,w⟩ else cx
def rfM (nj:Nat) (k:Int):Nat:=bif decide (k=4) then nj+1 else nj
theorem rl_ok (x:List UInt8) (w:Int) (ni nl nj:Nat) (ln:Int) (ax bx cx:List LV) (rest:Glb) (h1:1≤x.length) (h2:x.length≤100000) (k1:okIn ni ax=true) (k2:okMk nl bx=true) (k3:okMk nj cx=true) :
  SFun prog 59 [.ptr 0 0,.agg [.str x,.int .i64 w]] (mkS (psH ni nl nj ln ax bx cx) (tab2 rest)) fun l st=>l=.bool (rlB bx x)∧st=mkS (psL ni (rlM nl bx x) nj ln ax (rlW bx x ni) cx) (tab2 rest):=by
 refine SFun.mono (SFun.vc (Q:=fun l b=>l=.bool (rlB bx x)∧b=psL ni (rlM nl bx x) nj ln ax (rlW bx x ni) cx) cxRl_ok (n:=40) 4 rfl ?_) fun l s' ⟨b0,⟨h1,h2⟩,h3⟩=>⟨h1,by rw [h3,h2]⟩
 rw [rl_x]
 have na:=okIn_nd k1; have nb:=okMk_nd k2; have nc:=okMk_nd k3
 obtain⟨L,hL,hL2,hL3⟩:=okMk_iff.1 k2
 have lb:bx.length=nl * 4:=by rw [hL,mk_n,hL2]
 have e1:xar .sub .i64 ((xsln x:Nat):Int) 1=((x.length - 1:Nat):Int):=by show xar .sub .i64 ((x.length:Nat):Int) 1=_; rw [sub_i64 (show _≤((x.length:Nat):Int) - 1 by omega) (show((x.length:Nat):Int) - 1≤_ by omega)]; omega
 have hs:xscut x 0 (x.length - 1)=rlS x:=rfl
 have hl:(rlS x).length≤100000:=by simp only [rlS,xscut]; simp; omega
 simp only [e1,wd_nat,wd_nn,hs,show xle (x.length - 1) (xsln x)=true from t_le (show x.length - 1≤x.length by omega),show xle (xsln (rlS x)) 1000000000=true from t_le (show(rlS x).length≤1000000000 by omega),cond_true]
 cases hn:isnB (rlS x) with
 | false =>
   have q:rlB bx x=false:=by simp [rlB,hn]
   have y:xnot false=true:=rfl
   simp only [y,cond_true]
   refine⟨rfl,.bool false,_,[.id 0,.id 1,.id 2,.id 3,.id 2],⟨by rw [q],rfl⟩,?_⟩
   simp only [rlM,rlW,q,cond_false]
   (exact zC)
 | true =>
   have y:xnot true=false:=rfl
   simp only [y,k1,k2,k3,cond_true,cond_false]
   cases hf:fndB bx (rlS x) with
   | true =>
     have q:rlB bx x=false:=by simp [rlB,hf]
     simp only [cond_true]
     refine⟨rfl,.bool false,_,[.id 0,.id 1,.id 2,.id 3,.id 2],⟨by rw [q],rfl⟩,?_⟩
     simp only [rlM,rlW,q,cond_false]
     (exact zC)
   | false =>
     have q:rlB bx x=true:=by simp [rlB,hf,hn]
     have lcat:∀ tl,xcat (xcut bx 0 (nl * 4)) tl=bx++tl:=fun tl=>by rw [xcut_all (by omega)]; rfl
     simp only [wd_mul,wd_add,wd_ln,Nat.zero_add,lb,lcat,show xle (nl+1) 1000000=true from t_le (by omega),show xle (nl * 4) (nl * 4)=true from t_le (Nat.le_refl _),show xeq nl nl=true from t_eq rfl,cond_true,cond_false]
     have nb2:noIds (bx++[.str (rlS x),.int .i64 ni,.int .i64 0,.int .i64 0])=true:=by rw [hL]; exact(encL_append mkC L [⟨rlS x,ni,0,0⟩]▸noids_mk (L++[⟨rlS x,ni,0,0⟩]):noIds (encL mkC L++encL mkC [⟨rlS x,ni,0,0⟩])=true)
     refine⟨rfl,.bool true,_,[.id 0,.id 1,.id 2,.id 3,.id 6],⟨by rw [q],rfl⟩,?_⟩
     simp only [rlM,rlW,q,cond_true]
     (exact zC)
theorem rlW_nd {nl ni:Nat} {bx:List LV} {x:List UInt8} (h:okMk nl bx=true):noIds (rlW bx x ni)=true:=by
 obtain⟨L,rfl,_⟩:=okMk_iff.1 h
 unfold rlW
 cases rlB (encL mkC L) x
 ·exact noids_mk L
 ·exact(encL_append mkC L [⟨rlS x,ni,0,0⟩]▸noids_mk (L++[⟨rlS x,ni,0,0⟩]):noIds (encL mkC L++encL mkC [⟨rlS x,ni,0,0⟩])=true)
def rlG:Gc:=fun args s=>match args,s.g with
 | [.ptr p 0,.agg [.str x,.int .i64 w]],(g0,F0)::(g1,F1)::rest=>cond (Nat.beq g0 0 && eqbs F0 formsL && (Nat.beq g1 2 && eqbs F1 callsL)) (match s.h.get p with
   | some (.cells [.slo a 0 ni 0,.slo b 0 nl 0,.slo c 0 nj 0,.int .i64 ln] none)=>(match s.h.get a with
     | some (.cells ax (some 5))=>(match s.h.get b with
       | some (.cells bx (some 4))=>(match s.h.get c with
         | some (.cells cx (some 4))=>cond (nodupB [p,a,b,c]) (match s.lay [p,a,b,c] [.cells [.slo a 0 ni 0,.slo s.n 0 (rlM nl bx x) 0,.slo c 0 nj 0,.int .i64 ln] none,.cells ax (some 5),.dead,.cells cx (some 4)] [.cells (rlW bx x ni) (some 4)] with
           | some s'=>some ([okIn ni ax,okMk nl bx,okMk nj cx,xle 1 (xsln x),xle (xsln x) 100000],.bool (rlB bx x),s')
           | none=>none) none
         | _=>none)
       | _=>none)
     | _=>none)
   | _=>none) none
 | _,_=>none
theorem rlG_ok:GOk prog 59 rlG:=by
 intro args s bs l s' hg hb hfr
 unfold rlG at hg
 split at hg
 ·rename_i p x w g0 F0 g1 F1 rest hgl
  cases hc:(Nat.beq g0 0 && eqbs F0 formsL && (Nat.beq g1 2 && eqbs F1 callsL)) with
  | false=>rw [hc] at hg; cases hg
  | true =>
    rw [hc] at hg
    simp only [cond_true] at hg
    rw [Bool.and_eq_true] at hc
    replace hgl:s.g=tab2 rest:=by(have c1:=Bool.and_eq_true_iff.1 hc.1; have c2:=Bool.and_eq_true_iff.1 hc.2; rw [hgl,Nat.eq_of_beq_eq_true c1.1,eqbs_eq c1.2,Nat.eq_of_beq_eq_true c2.1,eqbs_eq c2.2] <;> rfl)
    split at hg
    ·rename_i a ni b nl c nj ln hb0
     split at hg
     ·rename_i ax hb1
      split at hg
      ·rename_i bx hb2
       split at hg
       ·rename_i cx hb3
        cases hbc:nodupB [p,a,b,c] with
        | false=>rw [hbc] at hg; cases hg
        | true =>
          rw [hbc] at hg
          simp only [cond_true] at hg
          split at hg
          ·rename_i s1 hs1
           simp only [Option.some.injEq,Prod.mk.injEq] at hg
           obtain⟨rfl,rfl,rfl⟩:=hg
           simp only [allT_cons] at hb
           obtain⟨k1,k2,k3,k4,k5,_⟩:=hb
           have n1:=okIn_nd k1; have n2:=okMk_nd k2; have n3:=okMk_nd k3; have n4:=rlW_nd (x:=x) (ni:=ni) k2
           refine SFun.lay (bs:=[.cells [.slo 1 0 ni 0,.slo 2 0 nl 0,.slo 3 0 nj 0,.int .i64 ln] none,.cells ax (some 5),.cells bx (some 4),.cells cx (some 4)]) (args0:=[.ptr 0 0,.agg [.str x,.int .i64 w]]) (bs':=[.cells [.slo 1 0 ni 0,.slo 4 0 (rlM nl bx x) 0,.slo 3 0 nj 0,.int .i64 ln] none,.cells ax (some 5),.dead,.cells cx (some 4),.cells (rlW bx x ni) (some 4)]) (v0:=.bool (rlB bx x)) hfr hs1 (nodupB_nd hbc)
            ⟨⟨there hfr hb0,_,hb0,by first | exact lb_same rfl | exact lb_cells (lws_cons (lw_slo rfl) (lws_cons (lw_slo rfl) (lws_cons (lw_slo rfl) (lws_cons (lw_int) lws_nil)))) (by simp),fun κ hκ=>lb_cells (lws_cons (lw_slo (hκ 1 a rfl)) (lws_cons (lw_slo (hκ 2 b rfl)) (lws_cons (lw_slo (hκ 3 c rfl)) (lws_cons (lw_int) lws_nil)))) (by simp)⟩,⟨there hfr hb1,_,hb1,lb_same (by(exact zId)),fun κ hκ=>lb_same (by(exact zId))⟩,⟨there hfr hb2,_,hb2,lb_same (by(exact zId)),fun κ hκ=>lb_same (by(exact zId))⟩,⟨there hfr hb3,_,hb3,lb_same (by(exact zId)),fun κ hκ=>lb_same (by(exact zId))⟩,trivial⟩ (by(exact zTl)) ?_
            fun κ h1 h2=>⟨⟨lb_cells (lws_cons (lw_slo (h1 1 a rfl)) (lws_cons (lw_slo (h2 0 (by simp))) (lws_cons (lw_slo (h1 3 c rfl)) (lws_cons (lw_int) lws_nil)))) (by simp),lb_same (by(exact zId)),lb_dead,lb_same (by(exact zId)),lb_same (by(exact zId)),trivial⟩,lw_bool⟩
           rw [hgl]; exact(rl_ok x w ni nl nj ln ax bx cx rest (xle_iff.1 k4) (xle_iff.1 k5) k1 k2 k3)
          ·cases hg
       ·cases hg
      ·cases hg
     ·cases hg
    ·cases hg
 ·cases hg
theorem rf_ok (x:List UInt8) (w i k op va vb vc vn:Int) (ni nl nj:Nat) (ln:Int) (ax bx cx:List LV) (rest:Glb) (h2:x.length≤100000) (hi:0≤i∧i≤3) (k1:okIn ni ax=true) (k2:okMk nl bx=true) (k3:okMk nj cx=true) :
  SFun prog 71 [.ptr 0 0,.ptr 4 0,.int .i64 i,.int .i64 k,.agg [.str x,.int .i64 w]] (mkS (psH ni nl nj ln ax bx cx++[.cells [.int .i64 op,.int .i64 va,.int .i64 vb,.int .i64 vc,.int .u64 vn] none]) (tab2 rest)) fun l st=>l=.bool (rfB k x)∧st=mkS (psF ni nl (rfM nj k) ln ax bx (rfJ cx k x ni ln w) op (rfX 0 i k x va) (rfX 1 i k x vb) (rfX 2 i k x vc) (rfX 3 i k x vn)) (tab2 rest):=by
 refine SFun.mono (SFun.vc (Q:=fun l b=>l=.bool (rfB k x)∧b=psF ni nl (rfM nj k) ln ax bx (rfJ cx k x ni ln w) op (rfX 0 i k x va) (rfX 1 i k x vb) (rfX 2 i k x vc) (rfX 3 i k x vn)) cxRf_ok (n:=40) 5 rfl ?_) fun l s' ⟨b0,⟨h1,h2⟩,h3⟩=>⟨h1,by rw [h3,h2]⟩
 rw [rf_x]
 have na:=okIn_nd k1; have nb:=okMk_nd k2; have nc:=okMk_nd k3
 obtain⟨L,hL,hL2,hL3⟩:=okMk_iff.1 k3
 have lb:cx.length=nj * 4:=by rw [hL,mk_n,hL2]
 by_cases c4:k=4
 ·have lcat:∀ tl,xcat (xcut cx 0 (nj * 4)) tl=cx++tl:=fun tl=>by rw [xcut_all (by omega)]; rfl
  simp only [show xcm .eql k 4=true from t_eql c4,wd_mul,wd_add,wd_ln,Nat.zero_add,lb,lcat,show xle (nj+1) 1000000=true from t_le (by omega),show xle (nj * 4) (nj * 4)=true from t_le (Nat.le_refl _),show xeq nj nj=true from t_eq rfl,show xle (xsln x) 1000000000=true from t_le (show x.length≤1000000000 by omega),cond_true]
  have nb2:noIds (cx++[.str x,.int .i64 ni,.int .i64 ln,.int .i64 w])=true:=by rw [hL]; exact(encL_append mkC L [⟨x,ni,ln,w⟩]▸noids_mk (L++[⟨x,ni,ln,w⟩]):noIds (encL mkC L++encL mkC [⟨x,ni,ln,w⟩])=true)
  refine⟨rfl,.bool (isnB x),_,[.id 0,.id 1,.id 2,.id 3,.id 4,.id 7],⟨by simp [rfB,c4],rfl⟩,?_⟩
  simp only [rfM,rfJ,rfX,c4,decide_true,Bool.true_or,cond_true,psF]
  (exact zC)
 simp only [show xcm .eql k 4=false from f_eql c4,cond_false]
 have q:rfB k x=rvB k x:=by simp [rfB,c4]
 by_cases i0:i=0
 ·simp only [show xcm .eql i 0=true from t_eql i0,cond_true]
  refine⟨rfl,.bool (rvB k x),_,[.id 0,.id 1,.id 2,.id 3,.id 4,.id 3],⟨by rw [q],rfl⟩,?_⟩
  simp (config:={ decide:=true }) only [rfM,rfJ,rfX,c4,i0,decide_true,decide_false,Bool.false_or,Bool.not_true,Bool.not_false,cond_true,cond_false,psF]
  (exact zC)
 simp only [show xcm .eql i 0=false from f_eql i0,cond_false]
 by_cases i1:i=1
 ·simp only [show xcm .eql i 1=true from t_eql i1,cond_true]
  refine⟨rfl,.bool (rvB k x),_,[.id 0,.id 1,.id 2,.id 3,.id 4,.id 3],⟨by rw [q],rfl⟩,?_⟩
  simp (config:={ decide:=true }) only [rfM,rfJ,rfX,c4,i1,decide_true,decide_false,Bool.false_or,Bool.not_true,Bool.not_false,cond_true,cond_false,psF]
  (exact zC)
 simp only [show xcm .eql i 1=false from f_eql i1,cond_false]
 by_cases i2:i=2
 ·simp only [show xcm .eql i 2=true from t_eql i2,cond_true]
  refine⟨rfl,.bool (rvB k x),_,[.id 0,.id 1,.id 2,.id 3,.id 4,.id 3],⟨by rw [q],rfl⟩,?_⟩
  simp (config:={ decide:=true }) only [rfM,rfJ,rfX,c4,i2,decide_true,decide_false,Bool.false_or,Bool.not_true,Bool.not_false,cond_true,cond_false,psF]
  (exact zC)
 have i3:i=3:=by omega
 simp only [show xcm .eql i 2=false from f_eql i2,cond_false]
 refine⟨rfl,.bool (rvB k x),_,[.id 0,.id 1,.id 2,.id 3,.id 4,.id 3],⟨by rw [q],rfl⟩,?_⟩
 simp (config:={ decide:=true }) only [rfM,rfJ,rfX,c4,i3,decide_true,decide_false,Bool.false_or,Bool.not_true,Bool.not_false,cond_true,cond_false,psF]
 (exact zC)
theorem rfJ_nd {nj ni:Nat} {cx:List LV} {x:List UInt8} {k ln w:Int} (h:okMk nj cx=true):noIds (rfJ cx k x ni ln w)=true:=by
 obtain⟨L,rfl,_⟩:=okMk_iff.1 h
 unfold rfJ
 cases decide (k=4)
 ·exact noids_mk L
 ·exact(encL_append mkC L [⟨x,ni,ln,w⟩]▸noids_mk (L++[⟨x,ni,ln,w⟩]):noIds (encL mkC L++encL mkC [⟨x,ni,ln,w⟩])=true)
theorem xcm_leq_iff {x y:Int} (h:xcm .leq x y=true):x≤y:=by rw [xcm_leq] at h; simpa using h
def rfG:Gc:=fun args s=>match args,s.g with
 | [.ptr p 0,.ptr q 0,.int .i64 i,.int .i64 k,.agg [.str x,.int .i64 w]],(g0,F0)::(g1,F1)::rest=>cond (Nat.beq g0 0 && eqbs F0 formsL && (Nat.beq g1 2 && eqbs F1 callsL)) (match s.h.get p with
   | some (.cells [.slo a 0 ni 0,.slo b 0 nl 0,.slo c 0 nj 0,.int .i64 ln] none)=>(match s.h.get a with
     | some (.cells ax (some 5))=>(match s.h.get b with
       | some (.cells bx (some 4))=>(match s.h.get c with
         | some (.cells cx (some 4))=>(match s.h.get q with
           | some (.cells [.int .i64 op,.int .i64 va,.int .i64 vb,.int .i64 vc,.int .u64 vn] none)=>cond (nodupB [p,a,b,c,q]) (match s.lay [p,a,b,c,q] [.cells [.slo a 0 ni 0,.slo b 0 nl 0,.slo s.n 0 (rfM nj k) 0,.int .i64 ln] none,.cells ax (some 5),.cells bx (some 4),.dead,.cells [.int .i64 op,.int .i64 (rfX 0 i k x va),.int .i64 (rfX 1 i k x vb),.int .i64 (rfX 2 i k x vc),.int .u64 (rfX 3 i k x vn)] none] [.cells (rfJ cx k x ni ln w) (some 4)] with
             | some s'=>some ([okIn ni ax,okMk nl bx,okMk nj cx,xle (xsln x) 100000,xcm .leq 0 i,xcm .leq i 3],.bool (rfB k x),s')
             | none=>none) none
           | _=>none)
         | _=>none)
       | _=>none)
     | _=>none)
   | _=>none) none
 | _,_=>none
theorem rfG_ok:GOk prog 71 rfG:=by
 intro args s bs l s' hg hb hfr
 unfold rfG at hg
 split at hg
 ·rename_i p q i k x w g0 F0 g1 F1 rest hgl
  cases hc:(Nat.beq g0 0 && eqbs F0 formsL && (Nat.beq g1 2 && eqbs F1 callsL)) with
  | false=>rw [hc] at hg; cases hg
  | true =>
    rw [hc] at hg
    simp only [cond_true] at hg
    rw [Bool.and_eq_true] at hc
    replace hgl:s.g=tab2 rest:=by(have c1:=Bool.and_eq_true_iff.1 hc.1; have c2:=Bool.and_eq_true_iff.1 hc.2; rw [hgl,Nat.eq_of_beq_eq_true c1.1,eqbs_eq c1.2,Nat.eq_of_beq_eq_true c2.1,eqbs_eq c2.2] <;> rfl)
    split at hg
    ·rename_i a ni b nl c nj ln hb0
     split at hg
     ·rename_i ax hb1
      split at hg
      ·rename_i bx hb2
       split at hg
       ·rename_i cx hb3
        split at hg
        ·rename_i op va vb vc vn hb4
         cases hbc:nodupB [p,a,b,c,q] with
         | false=>rw [hbc] at hg; cases hg
         | true =>
           rw [hbc] at hg
           simp only [cond_true] at hg
           split at hg
           ·rename_i s1 hs1
            simp only [Option.some.injEq,Prod.mk.injEq] at hg
            obtain⟨rfl,rfl,rfl⟩:=hg
            simp only [allT_cons] at hb
            obtain⟨k1,k2,k3,k4,k5,k6,_⟩:=hb
            have n1:=okIn_nd k1; have n2:=okMk_nd k2; have n3:=okMk_nd k3; have n4:=rfJ_nd (k:=k) (x:=x) (ni:=ni) (ln:=ln) (w:=w) k3
            refine SFun.lay (bs:=[.cells [.slo 1 0 ni 0,.slo 2 0 nl 0,.slo 3 0 nj 0,.int .i64 ln] none,.cells ax (some 5),.cells bx (some 4),.cells cx (some 4),.cells [.int .i64 op,.int .i64 va,.int .i64 vb,.int .i64 vc,.int .u64 vn] none]) (args0:=[.ptr 0 0,.ptr 4 0,.int .i64 i,.int .i64 k,.agg [.str x,.int .i64 w]]) (bs':=[.cells [.slo 1 0 ni 0,.slo 2 0 nl 0,.slo 5 0 (rfM nj k) 0,.int .i64 ln] none,.cells ax (some 5),.cells bx (some 4),.dead,.cells [.int .i64 op,.int .i64 (rfX 0 i k x va),.int .i64 (rfX 1 i k x vb),.int .i64 (rfX 2 i k x vc),.int .u64 (rfX 3 i k x vn)] none,.cells (rfJ cx k x ni ln w) (some 4)]) (v0:=.bool (rfB k x)) hfr hs1 (nodupB_nd hbc)
             ⟨⟨there hfr hb0,_,hb0,by first | exact lb_same rfl | exact lb_cells (lws_cons (lw_slo rfl) (lws_cons (lw_slo rfl) (lws_cons (lw_slo rfl) (lws_cons (lw_int) lws_nil)))) (by simp),fun κ hκ=>lb_cells (lws_cons (lw_slo (hκ 1 a rfl)) (lws_cons (lw_slo (hκ 2 b rfl)) (lws_cons (lw_slo (hκ 3 c rfl)) (lws_cons (lw_int) lws_nil)))) (by simp)⟩,⟨there hfr hb1,_,hb1,lb_same (by(exact zId)),fun κ hκ=>lb_same (by(exact zId))⟩,⟨there hfr hb2,_,hb2,lb_same (by(exact zId)),fun κ hκ=>lb_same (by(exact zId))⟩,⟨there hfr hb3,_,hb3,lb_same (by(exact zId)),fun κ hκ=>lb_same (by(exact zId))⟩,⟨there hfr hb4,_,hb4,by first | exact lb_same rfl | exact lb_cells (lws_cons (lw_int) (lws_cons (lw_int) (lws_cons (lw_int) (lws_cons (lw_int) (lws_cons (lw_int) lws_nil))))) (by simp),fun κ hκ=>lb_cells (lws_cons (lw_int) (lws_cons (lw_int) (lws_cons (lw_int) (lws_cons (lw_int) (lws_cons (lw_int) lws_nil))))) (by simp)⟩,trivial⟩ (by(exact zTl)) ?_
             fun κ h1 h2=>⟨⟨lb_cells (lws_cons (lw_slo (h1 1 a rfl)) (lws_cons (lw_slo (h1 2 b rfl)) (lws_cons (lw_slo (h2 0 (by simp))) (lws_cons (lw_int) lws_nil)))) (by simp),lb_same (by(exact zId)),lb_same (by(exact zId)),lb_dead,lb_cells (lws_cons (lw_int) (lws_cons (lw_int) (lws_cons (lw_int) (lws_cons (lw_int) (lws_cons (lw_int) lws_nil))))) (by simp),lb_same (by(exact zId)),trivial⟩,lw_bool⟩
            rw [hgl]; exact(rf_ok x w i k op va vb vc vn ni nl nj ln ax bx cx rest (xle_iff.1 k4) ⟨xcm_leq_iff k5,xcm_leq_iff k6⟩ k1 k2 k3)
           ·cases hg
        ·cases hg
       ·cases hg
      ·cases hg
     ·cases hg
    ·cases hg
 ·cases hg
def cxRi:Cx:=cxl [(70,opG),(41,fdG),(71,rfG)]
abbrev riL:List Nat:=[0,2,3,5,8,9,10,11,42,43]
abbrev riT (u:Value) (e op i:Int):List (Nat×LV):=[(0,.ptr 0 0),(2,.val u),(3,.int .i64 e),(5,.ptr 6 0),(8,.ptr 7 0),(11,.ptr 8 0),(42,piV op),(43,.int .i64 i)]
abbrev riH (ni nl nj:Nat) (ln:Int) (ax bx cx:List LV) (F:World→Prop) (s:List UInt8) (w:Int) (op a b c n:Int):List LB:=[.cells [.slo 1 0 ni 0,.slo 2 0 nl 0,.slo 9 0 nj 0,.int .i64 ln] none,.cells ax (some 5),.cells bx (some 4),.dead,.obj stF [.fact F] 5,.dead,.cells [.str s,.int .i64 w] none,.cells [.int .i64 0,.int .i64 0,.int .i64 0] none,.cells [.int .i64 op,.int .i64 a,.int .i64 b,.int .i64 c,.int .u64 n] none,.cells cx (some 4)]
theorem ri_0 (ni nl nj:Nat) (ln:Int) (ax bx cx:List LV) (F:World→Prop) (s:List UInt8) (w:Int) (u:Value) (e:Int) (rest:Glb) (K:Pk):(xsp prog cxRi 40 92 (seg (sp prog 61) 0 4) (tm0 [.ptr 0 0,.agg [.str s,.int .i64 w],.val u,.int .i64 e]) (mkS (psH ni nl nj ln ax bx cx++[.obj stF [.fact F] 5,.dead]) (tab2 rest)) (vK riL K))=(
 bif xnot (opB s) then(
 K .ret [.ptr 0 0,.val u,.int .i64 e,.ptr 6 0,.ptr 7 0,.int .i64 (opW s),.bool (opB s),.tup [],.tup [],.tup []] [sN [.slo 1 0 ni 0,.slo 2 0 nl 0,.slo 3 0 nj 0,.int .i64 ln],sC ax 5,sC bx 4,sC cx 4,some (.obj stF [.fact F] 5),sD,sN [.str s,.int .i64 w],sN [.int .i64 ln,.int .i64 w,.int .i64 12],sN [.int .i64 ln,.int .i64 w,.int .i64 12]] (tab2 rest))
 else(
 K .normal [.ptr 0 0,.val u,.int .i64 e,.ptr 6 0,.ptr 7 0,.int .i64 (opW s),.bool (opB s),.tup [],.tup [],.tup []] [sN [.slo 1 0 ni 0,.slo 2 0 nl 0,.slo 3 0 nj 0,.int .i64 ln],sC ax 5,sC bx 4,sC cx 4,some (.obj stF [.fact F] 5),sD,sN [.str s,.int .i64 w],sN [.int .i64 0,.int .i64 0,.int .i64 0]] (tab2 rest))):=by kernel_rfl
theorem ri_1 (ni nl nj:Nat) (ln:Int) (ax bx cx:List LV) (F:World→Prop) (s:List UInt8) (w:Int) (u:Value) (e:Int) (rest:Glb) (K:Pk):(xsp prog cxRi 40 92 (seg (sp prog 61) 4 4) (mkTm 92 [(0,.ptr 0 0),(2,.val u),(3,.int .i64 e),(5,.ptr 6 0),(8,.ptr 7 0),(9,.int .i64 (opW s))]) (mkS (psH ni nl nj ln ax bx cx++[.obj stF [.fact F] 5,.dead,.cells [.str s,.int .i64 w] none,.cells [.int .i64 0,.int .i64 0,.int .i64 0] none]) (tab2 rest)) (vK riL K))=(
 bif xcm .geq (↑ni) 40 then(
 K .ret [.ptr 0 0,.val u,.int .i64 e,.ptr 6 0,.ptr 7 0,.int .i64 (opW s),.any,.any,.any,.any] [sN [.slo 1 0 ni 0,.slo 2 0 nl 0,.slo 3 0 nj 0,.int .i64 ln],sC ax 5,sC bx 4,sC cx 4,some (.obj stF [.fact F] 5),sD,sN [.str s,.int .i64 w],sN [.int .i64 ln,.int .i64 w,.int .i64 4]] (tab2 rest))
 else(
 ck (xcm .leq 1 (opW s)) <|
 ck (xcm .leq (opW s) 23) <|
 K .normal [.ptr 0 0,.val u,.int .i64 e,.ptr 6 0,.ptr 7 0,.int .i64 (opW s),.any,.ptr 8 0,.agg [.int .i64 (fA (opW s)),.int .i64 (fB (opW s)),.int .i64 (fC (opW s)),.int .i64 (fD (opW s))],.int .i64 0] [sN [.slo 1 0 ni 0,.slo 2 0 nl 0,.slo 3 0 nj 0,.int .i64 ln],sC ax 5,sC bx 4,sC cx 4,some (.obj stF [.fact F] 5),sD,sN [.str s,.int .i64 w],sN [.int .i64 0,.int .i64 0,.int .i64 0],sN [.int .i64 (opW s),.int .i64 0,.int .i64 0,.int .i64 0,.int .u64 0]] (tab2 rest))):=by kernel_rfl
theorem ri_l0 (ni nl nj:Nat) (ln:Int) (ax bx cx:List LV) (F:World→Prop) (s:List UInt8) (w:Int) (u:Value) (e:Int) (rest:Glb) (op a b c n:Int) (K:Pk):(xcode prog cxRi 40 92 (loopOf (nthC (sp prog 61) 8)) (mkTm 92 (riT u e op 0)) (mkS (riH ni nl nj ln ax bx cx F s w op a b c n) (tab2 rest)) (vK riL K))=(
 bif xcm .eql (fA op) 0 then(
 K .normal [.ptr 0 0,.val u,.int .i64 e,.ptr 6 0,.ptr 7 0,.any,.any,.ptr 8 0,.agg [.int .i64 (fA op),.int .i64 (fB op),.int .i64 (fC op),.int .i64 (fD op)],.int .i64 1] [sN [.slo 1 0 ni 0,.slo 2 0 nl 0,.slo 9 0 nj 0,.int .i64 ln],sC ax 5,sC bx 4,sD,some (.obj stF [.fact F] 5),sD,sN [.str s,.int .i64 w],sN [.int .i64 0,.int .i64 0,.int .i64 0],sN [.int .i64 op,.int .i64 a,.int .i64 b,.int .i64 c,.int .u64 n],sC cx 4] (tab2 rest))
 else(
 bif xcm .eql (↑(xvl u)) 0 then(
 K .ret [.ptr 0 0,.val u,.int .i64 e,.ptr 6 0,.ptr 7 0,.any,.any,.ptr 8 0,.agg [.int .i64 (fA op),.int .i64 (fB op),.int .i64 (fC op),.int .i64 (fD op)],.int .i64 0] [sN [.slo 1 0 ni 0,.slo 2 0 nl 0,.slo 9 0 nj 0,.int .i64 ln],sC ax 5,sC bx 4,sD,some (.obj stF [.fact F] 5),sD,sN [.str s,.int .i64 w],sN [.int .i64 ln,.int .i64 e,.int .i64 12],sN [.int .i64 op,.int .i64 a,.int .i64 b,.int .i64 c,.int .u64 n],sC cx 4,sN [.int .i64 ln,.int .i64 e,.int .i64 12]] (tab2 rest))
 else(
 ck (xvix u 0) <|
 ck (xvrok F u 0 2) <|
 ck (xle 2 (xln (xvrow F u 0 2))) <|
 ck (isS (nthD (xvrow F u 0 2) 0)) <|
 ck (isI .i64 (nthD (xvrow F u 0 2) 1)) <|
 ck (okIn ni ax) <|
 ck (okMk nl bx) <|
 ck (okMk nj cx) <|
 ck (xle (xsln (asS (nthD (xvrow F u 0 2) 0))) 100000) <|
 bif xnot (rfB (fA op) (asS (nthD (xvrow F u 0 2) 0))) then(
 ck (xvix u 0) <|
 ck (xvrok F u 1 1) <|
 ck (xle 1 (xln (xvrow F u 1 1))) <|
 ck (isI .i64 (nthD (xvrow F u 1 1) 0)) <|
 K .ret [.ptr 0 0,.val u,.int .i64 e,.ptr 6 0,.ptr 7 0,.any,.any,.ptr 8 0,.agg [.int .i64 (fA op),.int .i64 (fB op),.int .i64 (fC op),.int .i64 (fD op)],.int .i64 0] [sN [.slo 1 0 ni 0,.slo 2 0 nl 0,.slo 10 0 (rfM nj (fA op)) 0,.int .i64 ln],sC ax 5,sC bx 4,sD,some (.obj stF [.fact F] 5),sD,sN [.str s,.int .i64 w],sN [.int .i64 ln,.int .i64 (asI (nthD (xvrow F u 1 1) 0)),.int .i64 12],sN [.int .i64 op,.int .i64 (rfX 0 0 (fA op) (asS (nthD (xvrow F u 0 2) 0)) a),.int .i64 (rfX 1 0 (fA op) (asS (nthD (xvrow F u 0 2) 0)) b),.int .i64 (rfX 2 0 (fA op) (asS (nthD (xvrow F u 0 2) 0)) c),.int .u64 (rfX 3 0 (fA op) (asS (nthD (xvrow F u 0 2) 0)) n)],sD,sC (rfJ cx (fA op) (asS (nthD (xvrow F u 0 2) 0)) ni ln (asI (nthD (xvrow F u 0 2) 1))) 4,sN [.int .i64 ln,.int .i64 (asI (nthD (xvrow F u 1 1) 0)),.int .i64 12]] (tab2 rest))
 else(
 ck (xvso u 1) <|
 K .normal [.ptr 0 0,.val (xvsub u 2 1),.int .i64 e,.ptr 6 0,.ptr 7 0,.any,.any,.ptr 8 0,.agg [.int .i64 (fA op),.int .i64 (fB op),.int .i64 (fC op),.int .i64 (fD op)],.int .i64 1] [sN [.slo 1 0 ni 0,.slo 2 0 nl 0,.slo 10 0 (rfM nj (fA op)) 0,.int .i64 ln],sC ax 5,sC bx 4,sD,some (.obj stF [.fact F] 5),sD,sN [.str s,.int .i64 w],sN [.int .i64 0,.int .i64 0,.int .i64 0],sN [.int .i64 op,.int .i64 (rfX 0 0 (fA op) (asS (nthD (xvrow F u 0 2) 0)) a),.int .i64 (rfX 1 0 (fA op) (asS (nthD (xvrow F u 0 2) 0)) b),.int .i64 (rfX 2 0 (fA op) (asS (nthD (xvrow F u 0 2) 0)) c),.int .u64 (rfX 3 0 (fA op) (asS (nthD (xvrow F u 0 2) 0)) n)],sD,sC (rfJ cx (fA op) (asS (nthD (xvrow F u 0 2) 0)) ni ln (asI (nthD (xvrow F u 0 2) 1))) 4] (tab2 rest))))):=by kernel_rfl
theorem ri_l1 (ni nl nj:Nat) (ln:Int) (ax bx cx:List LV) (F:World→Prop) (s:List UInt8) (w:Int) (u:Value) (e:Int) (rest:Glb) (op a b c n:Int) (K:Pk):(xcode prog cxRi 40 92 (loopOf (nthC (sp prog 61) 8)) (mkTm 92 (riT u e op 1)) (mkS (riH ni nl nj ln ax bx cx F s w op a b c n) (tab2 rest)) (vK riL K))=(
 bif xcm .eql (fB op) 0 then(
 K .normal [.ptr 0 0,.val u,.int .i64 e,.ptr 6 0,.ptr 7 0,.any,.any,.ptr 8 0,.agg [.int .i64 (fA op),.int .i64 (fB op),.int .i64 (fC op),.int .i64 (fD op)],.int .i64 2] [sN [.slo 1 0 ni 0,.slo 2 0 nl 0,.slo 9 0 nj 0,.int .i64 ln],sC ax 5,sC bx 4,sD,some (.obj stF [.fact F] 5),sD,sN [.str s,.int .i64 w],sN [.int .i64 0,.int .i64 0,.int .i64 0],sN [.int .i64 op,.int .i64 a,.int .i64 b,.int .i64 c,.int .u64 n],sC cx 4] (tab2 rest))
 else(
 bif xcm .eql (↑(xvl u)) 0 then(
 K .ret [.ptr 0 0,.val u,.int .i64 e,.ptr 6 0,.ptr 7 0,.any,.any,.ptr 8 0,.agg [.int .i64 (fA op),.int .i64 (fB op),.int .i64 (fC op),.int .i64 (fD op)],.int .i64 1] [sN [.slo 1 0 ni 0,.slo 2 0 nl 0,.slo 9 0 nj 0,.int .i64 ln],sC ax 5,sC bx 4,sD,some (.obj stF [.fact F] 5),sD,sN [.str s,.int .i64 w],sN [.int .i64 ln,.int .i64 e,.int .i64 12],sN [.int .i64 op,.int .i64 a,.int .i64 b,.int .i64 c,.int .u64 n],sC cx 4,sN [.int .i64 ln,.int .i64 e,.int .i64 12]] (tab2 rest))
 else(
 ck (xvix u 0) <|
 ck (xvrok F u 0 2) <|
 ck (xle 2 (xln (xvrow F u 0 2))) <|
 ck (isS (nthD (xvrow F u 0 2) 0)) <|
 ck (isI .i64 (nthD (xvrow F u 0 2) 1)) <|
 ck (okIn ni ax) <|
 ck (okMk nl bx) <|
 ck (okMk nj cx) <|
 ck (xle (xsln (asS (nthD (xvrow F u 0 2) 0))) 100000) <|
 bif xnot (rfB (fB op) (asS (nthD (xvrow F u 0 2) 0))) then(
 ck (xvix u 0) <|
 ck (xvrok F u 1 1) <|
 ck (xle 1 (xln (xvrow F u 1 1))) <|
 ck (isI .i64 (nthD (xvrow F u 1 1) 0)) <|
 K .ret [.ptr 0 0,.val u,.int .i64 e,.ptr 6 0,.ptr 7 0,.any,.any,.ptr 8 0,.agg [.int .i64 (fA op),.int .i64 (fB op),.int .i64 (fC op),.int .i64 (fD op)],.int .i64 1] [sN [.slo 1 0 ni 0,.slo 2 0 nl 0,.slo 10 0 (rfM nj (fB op)) 0,.int .i64 ln],sC ax 5,sC bx 4,sD,some (.obj stF [.fact F] 5),sD,sN [.str s,.int .i64 w],sN [.int .i64 ln,.int .i64 (asI (nthD (xvrow F u 1 1) 0)),.int .i64 12],sN [.int .i64 op,.int .i64 (rfX 0 1 (fB op) (asS (nthD (xvrow F u 0 2) 0)) a),.int .i64 (rfX 1 1 (fB op) (asS (nthD (xvrow F u 0 2) 0)) b),.int .i64 (rfX 2 1 (fB op) (asS (nthD (xvrow F u 0 2) 0)) c),.int .u64 (rfX 3 1 (fB op) (asS (nthD (xvrow F u 0 2) 0)) n)],sD,sC (rfJ cx (fB op) (asS (nthD (xvrow F u 0 2) 0)) ni ln (asI (nthD (xvrow F u 0 2) 1))) 4,sN [.int .i64 ln,.int .i64 (asI (nthD (xvrow F u 1 1) 0)),.int .i64 12]] (tab2 rest))
 else(
 ck (xvso u 1) <|
 K .normal [.ptr 0 0,.val (xvsub u 2 1),.int .i64 e,.ptr 6 0,.ptr 7 0,.any,.any,.ptr 8 0,.agg [.int .i64 (fA op),.int .i64 (fB op),.int .i64 (fC op),.int .i64 (fD op)],.int .i64 2] [sN [.slo 1 0 ni 0,.slo 2 0 nl 0,.slo 10 0 (rfM nj (fB op)) 0,.int .i64 ln],sC ax 5,sC bx 4,sD,some (.obj stF [.fact F] 5),sD,sN [.str s,.int .i64 w],sN [.int .i64 0,.int .i64 0,.int .i64 0],sN [.int .i64 op,.int .i64 (rfX 0 1 (fB op) (asS (nthD (xvrow F u 0 2) 0)) a),.int .i64 (rfX 1 1 (fB op) (asS (nthD (xvrow F u 0 2) 0)) b),.int .i64 (rfX 2 1 (fB op) (asS (nthD (xvrow F u 0 2) 0)) c),.int .u64 (rfX 3 1 (fB op) (asS (nthD (xvrow F u 0 2) 0)) n)],sD,sC (rfJ cx (fB op) (asS (nthD (xvrow F u 0 2) 0)) ni ln (asI (nthD (xvrow F u 0 2) 1))) 4] (tab2 rest))))):=by kernel_rfl
theorem ri_l2 (ni nl nj:Nat) (ln:Int) (ax bx cx:List LV) (F:World→Prop) (s:List UInt8) (w:Int) (u:Value) (e:Int) (rest:Glb) (op a b c n:Int) (K:Pk):(xcode prog cxRi 40 92 (loopOf (nthC (sp prog 61) 8)) (mkTm 92 (riT u e op 2)) (mkS (riH ni nl nj ln ax bx cx F s w op a b c n) (tab2 rest)) (vK riL K))=(
 bif xcm .eql (fC op) 0 then(
 K .normal [.ptr 0 0,.val u,.int .i64 e,.ptr 6 0,.ptr 7 0,.any,.any,.ptr 8 0,.agg [.int .i64 (fA op),.int .i64 (fB op),.int .i64 (fC op),.int .i64 (fD op)],.int .i64 3] [sN [.slo 1 0 ni 0,.slo 2 0 nl 0,.slo 9 0 nj 0,.int .i64 ln],sC ax 5,sC bx 4,sD,some (.obj stF [.fact F] 5),sD,sN [.str s,.int .i64 w],sN [.int .i64 0,.int .i64 0,.int .i64 0],sN [.int .i64 op,.int .i64 a,.int .i64 b,.int .i64 c,.int .u64 n],sC cx 4] (tab2 rest))
 else(
 bif xcm .eql (↑(xvl u)) 0 then(
 K .ret [.ptr 0 0,.val u,.int .i64 e,.ptr 6 0,.ptr 7 0,.any,.any,.ptr 8 0,.agg [.int .i64 (fA op),.int .i64 (fB op),.int .i64 (fC op),.int .i64 (fD op)],.int .i64 2] [sN [.slo 1 0 ni 0,.slo 2 0 nl 0,.slo 9 0 nj 0,.int .i64 ln],sC ax 5,sC bx 4,sD,some (.obj stF [.fact F] 5),sD,sN [.str s,.int .i64 w],sN [.int .i64 ln,.int .i64 e,.int .i64 12],sN [.int .i64 op,.int .i64 a,.int .i64 b,.int .i64 c,.int .u64 n],sC cx 4,sN [.int .i64 ln,.int .i64 e,.int .i64 12]] (tab2 rest))
 else(
 ck (xvix u 0) <|
 ck (xvrok F u 0 2) <|
 ck (xle 2 (xln (xvrow F u 0 2))) <|
 ck (isS (nthD (xvrow F u 0 2) 0)) <|
 ck (isI .i64 (nthD (xvrow F u 0 2) 1)) <|
 ck (okIn ni ax) <|
 ck (okMk nl bx) <|
 ck (okMk nj cx) <|
 ck (xle (xsln (asS (nthD (xvrow F u 0 2) 0))) 100000) <|
 bif xnot (rfB (fC op) (asS (nthD (xvrow F u 0 2) 0))) then(
 ck (xvix u 0) <|
 ck (xvrok F u 1 1) <|
 ck (xle 1 (xln (xvrow F u 1 1))) <|
 ck (isI .i64 (nthD (xvrow F u 1 1) 0)) <|
 K .ret [.ptr 0 0,.val u,.int .i64 e,.ptr 6 0,.ptr 7 0,.any,.any,.ptr 8 0,.agg [.int .i64 (fA op),.int .i64 (fB op),.int .i64 (fC op),.int .i64 (fD op)],.int .i64 2] [sN [.slo 1 0 ni 0,.slo 2 0 nl 0,.slo 10 0 (rfM nj (fC op)) 0,.int .i64 ln],sC ax 5,sC bx 4,sD,some (.obj stF [.fact F] 5),sD,sN [.str s,.int .i64 w],sN [.int .i64 ln,.int .i64 (asI (nthD (xvrow F u 1 1) 0)),.int .i64 12],sN [.int .i64 op,.int .i64 (rfX 0 2 (fC op) (asS (nthD (xvrow F u 0 2) 0)) a),.int .i64 (rfX 1 2 (fC op) (asS (nthD (xvrow F u 0 2) 0)) b),.int .i64 (rfX 2 2 (fC op) (asS (nthD (xvrow F u 0 2) 0)) c),.int .u64 (rfX 3 2 (fC op) (asS (nthD (xvrow F u 0 2) 0)) n)],sD,sC (rfJ cx (fC op) (asS (nthD (xvrow F u 0 2) 0)) ni ln (asI (nthD (xvrow F u 0 2) 1))) 4,sN [.int .i64 ln,.int .i64 (asI (nthD (xvrow F u 1 1) 0)),.int .i64 12]] (tab2 rest))
 else(
 ck (xvso u 1) <|
 K .normal [.ptr 0 0,.val (xvsub u 2 1),.int .i64 e,.ptr 6 0,.ptr 7 0,.any,.any,.ptr 8 0,.agg [.int .i64 (fA op),.int .i64 (fB op),.int .i64 (fC op),.int .i64 (fD op)],.int .i64 3] [sN [.slo 1 0 ni 0,.slo 2 0 nl 0,.slo 10 0 (rfM nj (fC op)) 0,.int .i64 ln],sC ax 5,sC bx 4,sD,some (.obj stF [.fact F] 5),sD,sN [.str s,.int .i64 w],sN [.int .i64 0,.int .i64 0,.int .i64 0],sN [.int .i64 op,.int .i64 (rfX 0 2 (fC op) (asS (nthD (xvrow F u 0 2) 0)) a),.int .i64 (rfX 1 2 (fC op) (asS (nthD (xvrow F u 0 2) 0)) b),.int .i64 (rfX 2 2 (fC op) (asS (nthD (xvrow F u 0 2) 0)) c),.int .u64 (rfX 3 2 (fC op) (asS (nthD (xvrow F u 0 2) 0)) n)],sD,sC (rfJ cx (fC op) (asS (nthD (xvrow F u 0 2) 0)) ni ln (asI (nthD (xvrow F u 0 2) 1))) 4] (tab2 rest))))):=by kernel_rfl
theorem ri_l3 (ni nl nj:Nat) (ln:Int) (ax bx cx:List LV) (F:World→Prop) (s:List UInt8) (w:Int) (u:Value) (e:Int) (rest:Glb) (op a b c n:Int) (K:Pk):(xcode prog cxRi 40 92 (loopOf (nthC (sp prog 61) 8)) (mkTm 92 (riT u e op 3)) (mkS (riH ni nl nj ln ax bx cx F s w op a b c n) (tab2 rest)) (vK riL K))=(
 bif xcm .eql (fD op) 0 then(
 K .normal [.ptr 0 0,.val u,.int .i64 e,.ptr 6 0,.ptr 7 0,.any,.any,.ptr 8 0,.agg [.int .i64 (fA op),.int .i64 (fB op),.int .i64 (fC op),.int .i64 (fD op)],.int .i64 4] [sN [.slo 1 0 ni 0,.slo 2 0 nl 0,.slo 9 0 nj 0,.int .i64 ln],sC ax 5,sC bx 4,sD,some (.obj stF [.fact F] 5),sD,sN [.str s,.int .i64 w],sN [.int .i64 0,.int .i64 0,.int .i64 0],sN [.int .i64 op,.int .i64 a,.int .i64 b,.int .i64 c,.int .u64 n],sC cx 4] (tab2 rest))
 else(
 bif xcm .eql (↑(xvl u)) 0 then(
 K .ret [.ptr 0 0,.val u,.int .i64 e,.ptr 6 0,.ptr 7 0,.any,.any,.ptr 8 0,.agg [.int .i64 (fA op),.int .i64 (fB op),.int .i64 (fC op),.int .i64 (fD op)],.int .i64 3] [sN [.slo 1 0 ni 0,.slo 2 0 nl 0,.slo 9 0 nj 0,.int .i64 ln],sC ax 5,sC bx 4,sD,some (.obj stF [.fact F] 5),sD,sN [.str s,.int .i64 w],sN [.int .i64 ln,.int .i64 e,.int .i64 12],sN [.int .i64 op,.int .i64 a,.int .i64 b,.int .i64 c,.int .u64 n],sC cx 4,sN [.int .i64 ln,.int .i64 e,.int .i64 12]] (tab2 rest))
 else(
 ck (xvix u 0) <|
 ck (xvrok F u 0 2) <|
 ck (xle 2 (xln (xvrow F u 0 2))) <|
 ck (isS (nthD (xvrow F u 0 2) 0)) <|
 ck (isI .i64 (nthD (xvrow F u 0 2) 1)) <|
 ck (okIn ni ax) <|
 ck (okMk nl bx) <|
 ck (okMk nj cx) <|
 ck (xle (xsln (asS (nthD (xvrow F u 0 2) 0))) 100000) <|
 bif xnot (rfB (fD op) (asS (nthD (xvrow F u 0 2) 0))) then(
 ck (xvix u 0) <|
 ck (xvrok F u 1 1) <|
 ck (xle 1 (xln (xvrow F u 1 1))) <|
 ck (isI .i64 (nthD (xvrow F u 1 1) 0)) <|
 K .ret [.ptr 0 0,.val u,.int .i64 e,.ptr 6 0,.ptr 7 0,.any,.any,.ptr 8 0,.agg [.int .i64 (fA op),.int .i64 (fB op),.int .i64 (fC op),.int .i64 (fD op)],.int .i64 3] [sN [.slo 1 0 ni 0,.slo 2 0 nl 0,.slo 10 0 (rfM nj (fD op)) 0,.int .i64 ln],sC ax 5,sC bx 4,sD,some (.obj stF [.fact F] 5),sD,sN [.str s,.int .i64 w],sN [.int .i64 ln,.int .i64 (asI (nthD (xvrow F u 1 1) 0)),.int .i64 12],sN [.int .i64 op,.int .i64 (rfX 0 3 (fD op) (asS (nthD (xvrow F u 0 2) 0)) a),.int .i64 (rfX 1 3 (fD op) (asS (nthD (xvrow F u 0 2) 0)) b),.int .i64 (rfX 2 3 (fD op) (asS (nthD (xvrow F u 0 2) 0)) c),.int .u64 (rfX 3 3 (fD op) (asS (nthD (xvrow F u 0 2) 0)) n)],sD,sC (rfJ cx (fD op) (asS (nthD (xvrow F u 0 2) 0)) ni ln (asI (nthD (xvrow F u 0 2) 1))) 4,sN [.int .i64 ln,.int .i64 (asI (nthD (xvrow F u 1 1) 0)),.int .i64 12]] (tab2 rest))
 else(
 ck (xvso u 1) <|
 K .normal [.ptr 0 0,.val (xvsub u 2 1),.int .i64 e,.ptr 6 0,.ptr 7 0,.any,.any,.ptr 8 0,.agg [.int .i64 (fA op),.int .i64 (fB op),.int .i64 (fC op),.int .i64 (fD op)],.int .i64 4] [sN [.slo 1 0 ni 0,.slo 2 0 nl 0,.slo 10 0 (rfM nj (fD op)) 0,.int .i64 ln],sC ax 5,sC bx 4,sD,some (.obj stF [.fact F] 5),sD,sN [.str s,.int .i64 w],sN [.int .i64 0,.int .i64 0,.int .i64 0],sN [.int .i64 op,.int .i64 (rfX 0 3 (fD op) (asS (nthD (xvrow F u 0 2) 0)) a),.int .i64 (rfX 1 3 (fD op) (asS (nthD (xvrow F u 0 2) 0)) b),.int .i64 (rfX 2 3 (fD op) (asS (nthD (xvrow F u 0 2) 0)) c),.int .u64 (rfX 3 3 (fD op) (asS (nthD (xvrow F u 0 2) 0)) n)],sD,sC (rfJ cx (fD op) (asS (nthD (xvrow F u 0 2) 0)) ni ln (asI (nthD (xvrow F u 0 2) 1))) 4] (tab2 rest))))):=by kernel_rfl
theorem ri_l4 (ni nl nj:Nat) (ln:Int) (ax bx cx:List LV) (F:World→Prop) (s:List UInt8) (w:Int) (u:Value) (e:Int) (rest:Glb) (op a b c n:Int) (K:Pk):(xcode prog cxRi 40 92 (loopOf (nthC (sp prog 61) 8)) (mkTm 92 (riT u e op 4)) (mkS (riH ni nl nj ln ax bx cx F s w op a b c n) (tab2 rest)) (vK riL K))=(
 K (.exit 0) [.ptr 0 0,.val u,.int .i64 e,.ptr 6 0,.ptr 7 0,.any,.any,.ptr 8 0,.agg [.int .i64 (fA op),.int .i64 (fB op),.int .i64 (fC op),.int .i64 (fD op)],.int .i64 4] [sN [.slo 1 0 ni 0,.slo 2 0 nl 0,.slo 9 0 nj 0,.int .i64 ln],sC ax 5,sC bx 4,sD,some (.obj stF [.fact F] 5),sD,sN [.str s,.int .i64 w],sN [.int .i64 0,.int .i64 0,.int .i64 0],sN [.int .i64 op,.int .i64 a,.int .i64 b,.int .i64 c,.int .u64 n],sC cx 4] (tab2 rest)):=by kernel_rfl
theorem ri_z (ni nl nj:Nat) (ln:Int) (ax bx cx:List LV) (F:World→Prop) (s:List UInt8) (w:Int) (u:Value) (e:Int) (rest:Glb) (op a b c n:Int) (K:Pk):(xsp prog cxRi 40 92 ((sp prog 61).drop 9) (mkTm 92 (riT u e op 4)) (mkS (riH ni nl nj ln ax bx cx F s w op a b c n) (tab2 rest)) (vK riL K))=(
 bif xcm .gtr (↑(xvl u)) 0 then(
 ck (xvix u 0) <|
 ck (xvrok F u 1 1) <|
 ck (xle 1 (xln (xvrow F u 1 1))) <|
 ck (isI .i64 (nthD (xvrow F u 1 1) 0)) <|
 K .ret [.ptr 0 0,.val u,.int .i64 e,.ptr 6 0,.ptr 7 0,.any,.any,.ptr 8 0,.agg [.int .i64 (fA op),.int .i64 (fB op),.int .i64 (fC op),.int .i64 (fD op)],.int .i64 4] [sN [.slo 1 0 ni 0,.slo 2 0 nl 0,.slo 9 0 nj 0,.int .i64 ln],sC ax 5,sC bx 4,sD,some (.obj stF [.fact F] 5),sD,sN [.str s,.int .i64 w],sN [.int .i64 ln,.int .i64 (asI (nthD (xvrow F u 1 1) 0)),.int .i64 12],sN [.int .i64 op,.int .i64 a,.int .i64 b,.int .i64 c,.int .u64 n],sC cx 4,sN [.int .i64 ln,.int .i64 (asI (nthD (xvrow F u 1 1) 0)),.int .i64 12]] (tab2 rest))
 else(
 ck (xle (xadd ni 1) 1000000) <|
 ck (xle (xadd 0 (xmul ni 5)) (xln ax)) <|
 ck (xeq ni ni) <|
 ck (xeq ni ni) <|
 K .ret [.ptr 0 0,.val u,.int .i64 e,.ptr 6 0,.ptr 7 0,.any,.any,.ptr 8 0,.agg [.int .i64 (fA op),.int .i64 (fB op),.int .i64 (fC op),.int .i64 (fD op)],.int .i64 4] [sN [.slo 11 0 (xadd ni 1) 0,.slo 2 0 nl 0,.slo 9 0 nj 0,.int .i64 ln],sD,sC bx 4,sD,some (.obj stF [.fact F] 5),sD,sN [.str s,.int .i64 w],sN [.int .i64 0,.int .i64 0,.int .i64 0],sN [.int .i64 op,.int .i64 a,.int .i64 b,.int .i64 c,.int .u64 n],sC cx 4,sN [.int .i64 op,.int .i64 a,.int .i64 b,.int .i64 c,.int .u64 n],sC (xcat (xcut ax 0 (xmul ni 5)) [.int .i64 op,.int .i64 a,.int .i64 b,.int .i64 c,.int .u64 n]) 5] (tab2 rest))):=by kernel_rfl
theorem cxRi_ok:CtrOk prog (ctrOf cxRi):=cxl_ok ⟨opG_ok,fdG_ok,rfG_ok,trivial⟩
end
end Go.Lev
