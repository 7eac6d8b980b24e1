/- text: readLabel, readField; trees of readIns -/
import Derived.Test.YtnkkkihgljbllaaDoorCV4
import Derived.Test.YtnkkkihgljbllaaDoorCQ8
import Derived.Test.YtnkkkihgljbllaaDoorCP5
import Derived.Test.YtnkkkihgljbllaaDoorLc
import Derived.Test.YtnkkkihgljbllaaDoorChecked
import Derived.KernelRfl
namespace Go.Lev
set_option linter.unusedSimpArgs false
set_option linter.unusedVariables false
open Go.RowKit
open Go.Proofs.Tryd (prog)
set_option maxRecDepth 100000
noncomputable section
abbrev psL (ni nl nj:Nat) (ln:Int) (ax bx cx:List LV):List LB:=[.cells [.slo 1 0 ni 0,.slo 4 0 nl 0,.slo 3 0 nj 0,.int .i64 ln] none,.cells ax (some 5),.dead,.cells cx (some 4),.cells bx (some 4)]
abbrev psF (ni nl nj:Nat) (ln:Int) (ax bx cx:List LV) (op a b c n:Int):List LB:=[.cells [.slo 1 0 ni 0,.slo 2 0 nl 0,.slo 5 0 nj 0,.int .i64 ln] none,.cells ax (some 5),.cells bx (some 4),.dead,.cells [.int .i64 op,.int .i64 a,.int .i64 b,.int .i64 c,.int .u64 n] none,.cells cx (some 4)]
def rlS (x:List UInt8):List UInt8:=a0v x 0 (x.length - 1)
def rlB (bx:List LV) (x:List UInt8):Bool:=a9l (rlS x) && !(d2m bx (rlS x))
def rlW (bx:List LV) (x:List UInt8) (ni:Nat):List LV:=bif rlB bx x then bx++mkC ⟨rlS x,ni,0,0⟩ else bx
def rlM (nl:Nat) (bx:List LV) (x:List UInt8):Nat:=bif rlB bx x then nl+1 else nl
def rfB (k:Int) (x:List UInt8):Bool:=bif decide (k=4) then a9l x else rvB k x
def rfX (j i k:Int) (x:List UInt8) (v:Int):Int:=bif decide (k=4) || !decide (i=j) then v else bif decide (j=3) then rvN k x else xwr .i64 (rvN k x)
def rfJ (cx:List LV) (k:Int) (x:List UInt8) (ni:Nat) (ln w:Int):List LV:=bif decide (k=4) then cx++mkC ⟨x,ni,ln,w⟩ else cx
def rfM (nj:Nat) (k:Int):Nat:=bif decide (k=4) then nj+1 else nj
theorem f8l (x:List UInt8) (w:Int) (ni nl nj:Nat) (ln:Int) (ax bx cx:List LV) (rest:Glb) (h1:1≤x.length) (h2:x.length≤100000) (k1:b1f ni ax=true) (k2:a5h nl bx=true) (k3:a5h nj cx=true) :
  a0k prog 59 [.ptr 0 0,.agg [.str x,.int .i64 w]] (mkS (psH ni nl nj ln ax bx cx) (a1x rest)) fun l st=>l=.bool (rlB bx x)∧st=mkS (psL ni (rlM nl bx x) nj ln ax (rlW bx x ni) cx) (a1x rest):=by
 refine a0k.mono (a0k.vc (Q:=fun l b=>l=.bool (rlB bx x)∧b=psL ni (rlM nl bx x) nj ln ax (rlW bx x ni) cx) d9s (n:=40) 4 rfl ?_) fun l s' ⟨b0,⟨h1,h2⟩,h3⟩=>⟨h1,by rw [h3,h2]⟩
 rw [g5i]
 have na:=a8r k1; have nb:=a3u k2; have nc:=a3u k3
 obtain⟨L,hL,hL2,hL3⟩:=a4y.1 k2
 have lb:bx.length=nl * 4:=by rw [hL,f6o,hL2]
 have e1:xar .sub .i64 ((a0z x:Nat):Int) 1=((x.length - 1:Nat):Int):=by show xar .sub .i64 ((x.length:Nat):Int) 1=_; rw [c3u (show _≤((x.length:Nat):Int) - 1 by omega) (show((x.length:Nat):Int) - 1≤_ by omega)]; omega
 have hs:a0v x 0 (x.length - 1)=rlS x:=rfl
 have hl:(rlS x).length≤100000:=by simp only [rlS,a0v]; simp; omega
 simp only [e1,a2w,c9p,hs,show xle (x.length - 1) (a0z x)=true from a1n (show x.length - 1≤x.length by omega),show xle (a0z (rlS x)) 1000000000=true from a1n (show(rlS x).length≤1000000000 by omega),cond_true]
 cases hn:a9l (rlS x) with
 | false =>
   have q:rlB bx x=false:=by simp [rlB,hn]
   have y:a3i false=true:=rfl
   simp only [y,cond_true]
   refine⟨rfl,.bool false,_,[.id 0,.id 1,.id 2,.id 3,.id 2],⟨by rw [q],rfl⟩,?_⟩
   simp only [rlM,rlW,q,cond_false]
   (exact zC)
 | true =>
   have y:a3i true=false:=rfl
   simp only [y,k1,k2,k3,cond_true,cond_false]
   cases hf:d2m bx (rlS x) with
   | true =>
     have q:rlB bx x=false:=by simp [rlB,hf]
     simp only [cond_true]
     refine⟨rfl,.bool false,_,[.id 0,.id 1,.id 2,.id 3,.id 2],⟨by rw [q],rfl⟩,?_⟩
     simp only [rlM,rlW,q,cond_false]
     (exact zC)
   | false =>
     have q:rlB bx x=true:=by simp [rlB,hf,hn]
     have lcat:∀ tl,a6n (a3o bx 0 (nl * 4)) tl=bx++tl:=fun tl=>by rw [a3r (by omega)]; rfl
     simp only [a2g,a1o,a3e,Nat.zero_add,lb,lcat,show xle (nl+1) 1000000=true from a1n (by omega),show xle (nl * 4) (nl * 4)=true from a1n (Nat.le_refl _),show xeq nl nl=true from c2x rfl,cond_true,cond_false]
     have nb2:a1q (bx++[.str (rlS x),.int .i64 ni,.int .i64 0,.int .i64 0])=true:=by rw [hL]; exact(a1r mkC L [⟨rlS x,ni,0,0⟩]▸a1l (L++[⟨rlS x,ni,0,0⟩]):a1q (a0f mkC L++a0f mkC [⟨rlS x,ni,0,0⟩])=true)
     refine⟨rfl,.bool true,_,[.id 0,.id 1,.id 2,.id 3,.id 6],⟨by rw [q],rfl⟩,?_⟩
     simp only [rlM,rlW,q,cond_true]
     (exact zC)
theorem f2m {nl ni:Nat} {bx:List LV} {x:List UInt8} (h:a5h nl bx=true):a1q (rlW bx x ni)=true:=by
 obtain⟨L,rfl,_⟩:=a4y.1 h
 unfold rlW
 cases rlB (a0f mkC L) x
 ·exact a1l L
 ·exact(a1r mkC L [⟨rlS x,ni,0,0⟩]▸a1l (L++[⟨rlS x,ni,0,0⟩]):a1q (a0f mkC L++a0f mkC [⟨rlS x,ni,0,0⟩])=true)
def rlG:Gc:=fun args s=>match args,s.g with
 | [.ptr p 0,.agg [.str x,.int .i64 w]],(g0,F0)::(g1,F1)::rest=>cond (Nat.beq g0 0 && a2x F0 a2h && (Nat.beq g1 2 && a2x F1 a2n)) (match s.h.get p with
   | some (.cells [.slo a 0 ni 0,.slo b 0 nl 0,.slo c 0 nj 0,.int .i64 ln] none)=>(match s.h.get a with
     | some (.cells ax (some 5))=>(match s.h.get b with
       | some (.cells bx (some 4))=>(match s.h.get c with
         | some (.cells cx (some 4))=>cond (a3q [p,a,b,c]) (match s.lay [p,a,b,c] [.cells [.slo a 0 ni 0,.slo s.n 0 (rlM nl bx x) 0,.slo c 0 nj 0,.int .i64 ln] none,.cells ax (some 5),.dead,.cells cx (some 4)] [.cells (rlW bx x ni) (some 4)] with
           | some s'=>some ([b1f ni ax,a5h nl bx,a5h nj cx,xle 1 (a0z x),xle (a0z x) 100000],.bool (rlB bx x),s')
           | none=>none) none
         | _=>none)
       | _=>none)
     | _=>none)
   | _=>none) none
 | _,_=>none
theorem f2n:GOk prog 59 rlG:=by
 intro args s bs l s' hg hb hfr
 unfold rlG at hg
 split at hg
 ·rename_i p x w g0 F0 g1 F1 rest hgl
  cases hc:(Nat.beq g0 0 && a2x F0 a2h && (Nat.beq g1 2 && a2x F1 a2n)) with
  | false=>rw [hc] at hg; cases hg
  | true =>
    rw [hc] at hg
    simp only [cond_true] at hg
    rw [Bool.and_eq_true] at hc
    replace hgl:s.g=a1x rest:=by(have c1:=Bool.and_eq_true_iff.1 hc.1; have c2:=Bool.and_eq_true_iff.1 hc.2; rw [hgl,Nat.eq_of_beq_eq_true c1.1,a1f c1.2,Nat.eq_of_beq_eq_true c2.1,a1f c2.2] <;> rfl)
    split at hg
    ·rename_i a ni b nl c nj ln hb0
     split at hg
     ·rename_i ax hb1
      split at hg
      ·rename_i bx hb2
       split at hg
       ·rename_i cx hb3
        cases hbc:a3q [p,a,b,c] with
        | false=>rw [hbc] at hg; cases hg
        | true =>
          rw [hbc] at hg
          simp only [cond_true] at hg
          split at hg
          ·rename_i s1 hs1
           simp only [Option.some.injEq,Prod.mk.injEq] at hg
           obtain⟨rfl,rfl,rfl⟩:=hg
           simp only [a0g] at hb
           obtain⟨k1,k2,k3,k4,k5,_⟩:=hb
           have n1:=a8r k1; have n2:=a3u k2; have n3:=a3u k3; have n4:=f2m (x:=x) (ni:=ni) k2
           refine a0k.lay (bs:=[.cells [.slo 1 0 ni 0,.slo 2 0 nl 0,.slo 3 0 nj 0,.int .i64 ln] none,.cells ax (some 5),.cells bx (some 4),.cells cx (some 4)]) (args0:=[.ptr 0 0,.agg [.str x,.int .i64 w]]) (bs':=[.cells [.slo 1 0 ni 0,.slo 4 0 (rlM nl bx x) 0,.slo 3 0 nj 0,.int .i64 ln] none,.cells ax (some 5),.dead,.cells cx (some 4),.cells (rlW bx x ni) (some 4)]) (v0:=.bool (rlB bx x)) hfr hs1 (a4t hbc)
            ⟨⟨a3j hfr hb0,_,hb0,by first | exact a0e rfl | exact a0o (a0d (a0n rfl) (a0d (a0n rfl) (a0d (a0n rfl) (a0d (a1u) a0u)))) (by simp),fun κ hκ=>a0o (a0d (a0n (hκ 1 a rfl)) (a0d (a0n (hκ 2 b rfl)) (a0d (a0n (hκ 3 c rfl)) (a0d (a1u) a0u)))) (by simp)⟩,⟨a3j hfr hb1,_,hb1,a0e (by(exact zId)),fun κ hκ=>a0e (by(exact zId))⟩,⟨a3j hfr hb2,_,hb2,a0e (by(exact zId)),fun κ hκ=>a0e (by(exact zId))⟩,⟨a3j hfr hb3,_,hb3,a0e (by(exact zId)),fun κ hκ=>a0e (by(exact zId))⟩,trivial⟩ (by(exact zTl)) ?_
            fun κ h1 h2=>⟨⟨a0o (a0d (a0n (h1 1 a rfl)) (a0d (a0n (h2 0 (by simp))) (a0d (a0n (h1 3 c rfl)) (a0d (a1u) a0u)))) (by simp),a0e (by(exact zId)),a1e,a0e (by(exact zId)),a0e (by(exact zId)),trivial⟩,a5r⟩
           rw [hgl]; exact(f8l x w ni nl nj ln ax bx cx rest (a2a.1 k4) (a2a.1 k5) k1 k2 k3)
          ·cases hg
       ·cases hg
      ·cases hg
     ·cases hg
    ·cases hg
 ·cases hg
theorem f8s (x:List UInt8) (w i k op va vb vc vn:Int) (ni nl nj:Nat) (ln:Int) (ax bx cx:List LV) (rest:Glb) (h2:x.length≤100000) (hi:0≤i∧i≤3) (k1:b1f ni ax=true) (k2:a5h nl bx=true) (k3:a5h nj cx=true) :
  a0k prog 71 [.ptr 0 0,.ptr 4 0,.int .i64 i,.int .i64 k,.agg [.str x,.int .i64 w]] (mkS (psH ni nl nj ln ax bx cx++[.cells [.int .i64 op,.int .i64 va,.int .i64 vb,.int .i64 vc,.int .u64 vn] none]) (a1x rest)) fun l st=>l=.bool (rfB k x)∧st=mkS (psF ni nl (rfM nj k) ln ax bx (rfJ cx k x ni ln w) op (rfX 0 i k x va) (rfX 1 i k x vb) (rfX 2 i k x vc) (rfX 3 i k x vn)) (a1x rest):=by
 refine a0k.mono (a0k.vc (Q:=fun l b=>l=.bool (rfB k x)∧b=psF ni nl (rfM nj k) ln ax bx (rfJ cx k x ni ln w) op (rfX 0 i k x va) (rfX 1 i k x vb) (rfX 2 i k x vc) (rfX 3 i k x vn)) d9t (n:=40) 5 rfl ?_) fun l s' ⟨b0,⟨h1,h2⟩,h3⟩=>⟨h1,by rw [h3,h2]⟩
 rw [g5n]
 have na:=a8r k1; have nb:=a3u k2; have nc:=a3u k3
 obtain⟨L,hL,hL2,hL3⟩:=a4y.1 k3
 have lb:cx.length=nj * 4:=by rw [hL,f6o,hL2]
 by_cases c4:k=4
 ·have lcat:∀ tl,a6n (a3o cx 0 (nj * 4)) tl=cx++tl:=fun tl=>by rw [a3r (by omega)]; rfl
  simp only [show xcm .eql k 4=true from a2i c4,a2g,a1o,a3e,Nat.zero_add,lb,lcat,show xle (nj+1) 1000000=true from a1n (by omega),show xle (nj * 4) (nj * 4)=true from a1n (Nat.le_refl _),show xeq nj nj=true from c2x rfl,show xle (a0z x) 1000000000=true from a1n (show x.length≤1000000000 by omega),cond_true]
  have nb2:a1q (cx++[.str x,.int .i64 ni,.int .i64 ln,.int .i64 w])=true:=by rw [hL]; exact(a1r mkC L [⟨x,ni,ln,w⟩]▸a1l (L++[⟨x,ni,ln,w⟩]):a1q (a0f mkC L++a0f mkC [⟨x,ni,ln,w⟩])=true)
  refine⟨rfl,.bool (a9l x),_,[.id 0,.id 1,.id 2,.id 3,.id 4,.id 7],⟨by simp [rfB,c4],rfl⟩,?_⟩
  simp only [rfM,rfJ,rfX,c4,decide_true,Bool.true_or,cond_true,psF]
  (exact zC)
 simp only [show xcm .eql k 4=false from a2c c4,cond_false]
 have q:rfB k x=rvB k x:=by simp [rfB,c4]
 by_cases i0:i=0
 ·simp only [show xcm .eql i 0=true from a2i i0,cond_true]
  refine⟨rfl,.bool (rvB k x),_,[.id 0,.id 1,.id 2,.id 3,.id 4,.id 3],⟨by rw [q],rfl⟩,?_⟩
  simp (config:={ decide:=true }) only [rfM,rfJ,rfX,c4,i0,decide_true,decide_false,Bool.false_or,Bool.not_true,Bool.not_false,cond_true,cond_false,psF]
  (exact zC)
 simp only [show xcm .eql i 0=false from a2c i0,cond_false]
 by_cases i1:i=1
 ·simp only [show xcm .eql i 1=true from a2i i1,cond_true]
  refine⟨rfl,.bool (rvB k x),_,[.id 0,.id 1,.id 2,.id 3,.id 4,.id 3],⟨by rw [q],rfl⟩,?_⟩
  simp (config:={ decide:=true }) only [rfM,rfJ,rfX,c4,i1,decide_true,decide_false,Bool.false_or,Bool.not_true,Bool.not_false,cond_true,cond_false,psF]
  (exact zC)
 simp only [show xcm .eql i 1=false from a2c i1,cond_false]
 by_cases i2:i=2
 ·simp only [show xcm .eql i 2=true from a2i i2,cond_true]
  refine⟨rfl,.bool (rvB k x),_,[.id 0,.id 1,.id 2,.id 3,.id 4,.id 3],⟨by rw [q],rfl⟩,?_⟩
  simp (config:={ decide:=true }) only [rfM,rfJ,rfX,c4,i2,decide_true,decide_false,Bool.false_or,Bool.not_true,Bool.not_false,cond_true,cond_false,psF]
  (exact zC)
 have i3:i=3:=by omega
 simp only [show xcm .eql i 2=false from a2c i2,cond_false]
 refine⟨rfl,.bool (rvB k x),_,[.id 0,.id 1,.id 2,.id 3,.id 4,.id 3],⟨by rw [q],rfl⟩,?_⟩
 simp (config:={ decide:=true }) only [rfM,rfJ,rfX,c4,i3,decide_true,decide_false,Bool.false_or,Bool.not_true,Bool.not_false,cond_true,cond_false,psF]
 (exact zC)
theorem f2q {nj ni:Nat} {cx:List LV} {x:List UInt8} {k ln w:Int} (h:a5h nj cx=true):a1q (rfJ cx k x ni ln w)=true:=by
 obtain⟨L,rfl,_⟩:=a4y.1 h
 unfold rfJ
 cases decide (k=4)
 ·exact a1l L
 ·exact(a1r mkC L [⟨x,ni,ln,w⟩]▸a1l (L++[⟨x,ni,ln,w⟩]):a1q (a0f mkC L++a0f mkC [⟨x,ni,ln,w⟩])=true)
theorem b5d {x y:Int} (h:xcm .leq x y=true):x≤y:=by rw [a7q] at h; simpa using h
def rfG:Gc:=fun args s=>match args,s.g with
 | [.ptr p 0,.ptr q 0,.int .i64 i,.int .i64 k,.agg [.str x,.int .i64 w]],(g0,F0)::(g1,F1)::rest=>cond (Nat.beq g0 0 && a2x F0 a2h && (Nat.beq g1 2 && a2x F1 a2n)) (match s.h.get p with
   | some (.cells [.slo a 0 ni 0,.slo b 0 nl 0,.slo c 0 nj 0,.int .i64 ln] none)=>(match s.h.get a with
     | some (.cells ax (some 5))=>(match s.h.get b with
       | some (.cells bx (some 4))=>(match s.h.get c with
         | some (.cells cx (some 4))=>(match s.h.get q with
           | some (.cells [.int .i64 op,.int .i64 va,.int .i64 vb,.int .i64 vc,.int .u64 vn] none)=>cond (a3q [p,a,b,c,q]) (match s.lay [p,a,b,c,q] [.cells [.slo a 0 ni 0,.slo b 0 nl 0,.slo s.n 0 (rfM nj k) 0,.int .i64 ln] none,.cells ax (some 5),.cells bx (some 4),.dead,.cells [.int .i64 op,.int .i64 (rfX 0 i k x va),.int .i64 (rfX 1 i k x vb),.int .i64 (rfX 2 i k x vc),.int .u64 (rfX 3 i k x vn)] none] [.cells (rfJ cx k x ni ln w) (some 4)] with
             | some s'=>some ([b1f ni ax,a5h nl bx,a5h nj cx,xle (a0z x) 100000,xcm .leq 0 i,xcm .leq i 3],.bool (rfB k x),s')
             | none=>none) none
           | _=>none)
         | _=>none)
       | _=>none)
     | _=>none)
   | _=>none) none
 | _,_=>none
theorem f2r:GOk prog 71 rfG:=by
 intro args s bs l s' hg hb hfr
 unfold rfG at hg
 split at hg
 ·rename_i p q i k x w g0 F0 g1 F1 rest hgl
  cases hc:(Nat.beq g0 0 && a2x F0 a2h && (Nat.beq g1 2 && a2x F1 a2n)) with
  | false=>rw [hc] at hg; cases hg
  | true =>
    rw [hc] at hg
    simp only [cond_true] at hg
    rw [Bool.and_eq_true] at hc
    replace hgl:s.g=a1x rest:=by(have c1:=Bool.and_eq_true_iff.1 hc.1; have c2:=Bool.and_eq_true_iff.1 hc.2; rw [hgl,Nat.eq_of_beq_eq_true c1.1,a1f c1.2,Nat.eq_of_beq_eq_true c2.1,a1f c2.2] <;> rfl)
    split at hg
    ·rename_i a ni b nl c nj ln hb0
     split at hg
     ·rename_i ax hb1
      split at hg
      ·rename_i bx hb2
       split at hg
       ·rename_i cx hb3
        split at hg
        ·rename_i op va vb vc vn hb4
         cases hbc:a3q [p,a,b,c,q] with
         | false=>rw [hbc] at hg; cases hg
         | true =>
           rw [hbc] at hg
           simp only [cond_true] at hg
           split at hg
           ·rename_i s1 hs1
            simp only [Option.some.injEq,Prod.mk.injEq] at hg
            obtain⟨rfl,rfl,rfl⟩:=hg
            simp only [a0g] at hb
            obtain⟨k1,k2,k3,k4,k5,k6,_⟩:=hb
            have n1:=a8r k1; have n2:=a3u k2; have n3:=a3u k3; have n4:=f2q (k:=k) (x:=x) (ni:=ni) (ln:=ln) (w:=w) k3
            refine a0k.lay (bs:=[.cells [.slo 1 0 ni 0,.slo 2 0 nl 0,.slo 3 0 nj 0,.int .i64 ln] none,.cells ax (some 5),.cells bx (some 4),.cells cx (some 4),.cells [.int .i64 op,.int .i64 va,.int .i64 vb,.int .i64 vc,.int .u64 vn] none]) (args0:=[.ptr 0 0,.ptr 4 0,.int .i64 i,.int .i64 k,.agg [.str x,.int .i64 w]]) (bs':=[.cells [.slo 1 0 ni 0,.slo 2 0 nl 0,.slo 5 0 (rfM nj k) 0,.int .i64 ln] none,.cells ax (some 5),.cells bx (some 4),.dead,.cells [.int .i64 op,.int .i64 (rfX 0 i k x va),.int .i64 (rfX 1 i k x vb),.int .i64 (rfX 2 i k x vc),.int .u64 (rfX 3 i k x vn)] none,.cells (rfJ cx k x ni ln w) (some 4)]) (v0:=.bool (rfB k x)) hfr hs1 (a4t hbc)
             ⟨⟨a3j hfr hb0,_,hb0,by first | exact a0e rfl | exact a0o (a0d (a0n rfl) (a0d (a0n rfl) (a0d (a0n rfl) (a0d (a1u) a0u)))) (by simp),fun κ hκ=>a0o (a0d (a0n (hκ 1 a rfl)) (a0d (a0n (hκ 2 b rfl)) (a0d (a0n (hκ 3 c rfl)) (a0d (a1u) a0u)))) (by simp)⟩,⟨a3j hfr hb1,_,hb1,a0e (by(exact zId)),fun κ hκ=>a0e (by(exact zId))⟩,⟨a3j hfr hb2,_,hb2,a0e (by(exact zId)),fun κ hκ=>a0e (by(exact zId))⟩,⟨a3j hfr hb3,_,hb3,a0e (by(exact zId)),fun κ hκ=>a0e (by(exact zId))⟩,⟨a3j hfr hb4,_,hb4,by first | exact a0e rfl | exact a0o (a0d (a1u) (a0d (a1u) (a0d (a1u) (a0d (a1u) (a0d (a1u) a0u))))) (by simp),fun κ hκ=>a0o (a0d (a1u) (a0d (a1u) (a0d (a1u) (a0d (a1u) (a0d (a1u) a0u))))) (by simp)⟩,trivial⟩ (by(exact zTl)) ?_
             fun κ h1 h2=>⟨⟨a0o (a0d (a0n (h1 1 a rfl)) (a0d (a0n (h1 2 b rfl)) (a0d (a0n (h2 0 (by simp))) (a0d (a1u) a0u)))) (by simp),a0e (by(exact zId)),a0e (by(exact zId)),a1e,a0o (a0d (a1u) (a0d (a1u) (a0d (a1u) (a0d (a1u) (a0d (a1u) a0u))))) (by simp),a0e (by(exact zId)),trivial⟩,a5r⟩
            rw [hgl]; exact(f8s x w i k op va vb vc vn ni nl nj ln ax bx cx rest (a2a.1 k4) ⟨b5d k5,b5d k6⟩ k1 k2 k3)
           ·cases hg
        ·cases hg
       ·cases hg
      ·cases hg
     ·cases hg
    ·cases hg
 ·cases hg
def d4w:Cx:=cxl [(70,opG),(41,fdG),(71,rfG)]
abbrev riL:List Nat:=[0,2,3,5,8,9,10,11,42,43]
abbrev riT (u:Value) (e op i:Int):List (Nat×LV):=[(0,.ptr 0 0),(2,.val u),(3,.int .i64 e),(5,.ptr 6 0),(8,.ptr 7 0),(11,.ptr 8 0),(42,piV op),(43,.int .i64 i)]
abbrev riH (ni nl nj:Nat) (ln:Int) (ax bx cx:List LV) (F:World→Prop) (s:List UInt8) (w:Int) (op a b c n:Int):List LB:=[.cells [.slo 1 0 ni 0,.slo 2 0 nl 0,.slo 9 0 nj 0,.int .i64 ln] none,.cells ax (some 5),.cells bx (some 4),.dead,.obj stF [.fact F] 5,.dead,.cells [.str s,.int .i64 w] none,.cells [.int .i64 0,.int .i64 0,.int .i64 0] none,.cells [.int .i64 op,.int .i64 a,.int .i64 b,.int .i64 c,.int .u64 n] none,.cells cx (some 4)]
theorem g5m (ni nl nj:Nat) (ln:Int) (ax bx cx:List LV) (F:World→Prop) (s:List UInt8) (w:Int) (u:Value) (e:Int) (rest:Glb) (K:Pk):(xsp prog d4w 40 92 (seg (sp prog 61) 0 4) (tm0 [.ptr 0 0,.agg [.str s,.int .i64 w],.val u,.int .i64 e]) (mkS (psH ni nl nj ln ax bx cx++[.obj stF [.fact F] 5,.dead]) (a1x rest)) (vK riL K))=(
 bif a3i (opB s) then(
 K .ret [.ptr 0 0,.val u,.int .i64 e,.ptr 6 0,.ptr 7 0,.int .i64 (opW s),.bool (opB s),.tup [],.tup [],.tup []] [sN [.slo 1 0 ni 0,.slo 2 0 nl 0,.slo 3 0 nj 0,.int .i64 ln],sC ax 5,sC bx 4,sC cx 4,some (.obj stF [.fact F] 5),sD,sN [.str s,.int .i64 w],sN [.int .i64 ln,.int .i64 w,.int .i64 12],sN [.int .i64 ln,.int .i64 w,.int .i64 12]] (a1x rest))
 else(
 K .normal [.ptr 0 0,.val u,.int .i64 e,.ptr 6 0,.ptr 7 0,.int .i64 (opW s),.bool (opB s),.tup [],.tup [],.tup []] [sN [.slo 1 0 ni 0,.slo 2 0 nl 0,.slo 3 0 nj 0,.int .i64 ln],sC ax 5,sC bx 4,sC cx 4,some (.obj stF [.fact F] 5),sD,sN [.str s,.int .i64 w],sN [.int .i64 0,.int .i64 0,.int .i64 0]] (a1x rest))):=by kernel_rfl
theorem g5l (ni nl nj:Nat) (ln:Int) (ax bx cx:List LV) (F:World→Prop) (s:List UInt8) (w:Int) (u:Value) (e:Int) (rest:Glb) (K:Pk):(xsp prog d4w 40 92 (seg (sp prog 61) 4 4) (a1p 92 [(0,.ptr 0 0),(2,.val u),(3,.int .i64 e),(5,.ptr 6 0),(8,.ptr 7 0),(9,.int .i64 (opW s))]) (mkS (psH ni nl nj ln ax bx cx++[.obj stF [.fact F] 5,.dead,.cells [.str s,.int .i64 w] none,.cells [.int .i64 0,.int .i64 0,.int .i64 0] none]) (a1x rest)) (vK riL K))=(
 bif xcm .geq (↑ni) 40 then(
 K .ret [.ptr 0 0,.val u,.int .i64 e,.ptr 6 0,.ptr 7 0,.int .i64 (opW s),.any,.any,.any,.any] [sN [.slo 1 0 ni 0,.slo 2 0 nl 0,.slo 3 0 nj 0,.int .i64 ln],sC ax 5,sC bx 4,sC cx 4,some (.obj stF [.fact F] 5),sD,sN [.str s,.int .i64 w],sN [.int .i64 ln,.int .i64 w,.int .i64 4]] (a1x rest))
 else(
 ck (xcm .leq 1 (opW s)) <|
 ck (xcm .leq (opW s) 23) <|
 K .normal [.ptr 0 0,.val u,.int .i64 e,.ptr 6 0,.ptr 7 0,.int .i64 (opW s),.any,.ptr 8 0,.agg [.int .i64 (fA (opW s)),.int .i64 (fB (opW s)),.int .i64 (fC (opW s)),.int .i64 (fD (opW s))],.int .i64 0] [sN [.slo 1 0 ni 0,.slo 2 0 nl 0,.slo 3 0 nj 0,.int .i64 ln],sC ax 5,sC bx 4,sC cx 4,some (.obj stF [.fact F] 5),sD,sN [.str s,.int .i64 w],sN [.int .i64 0,.int .i64 0,.int .i64 0],sN [.int .i64 (opW s),.int .i64 0,.int .i64 0,.int .i64 0,.int .u64 0]] (a1x rest))):=by kernel_rfl
theorem f8r (ni nl nj:Nat) (ln:Int) (ax bx cx:List LV) (F:World→Prop) (s:List UInt8) (w:Int) (u:Value) (e:Int) (rest:Glb) (op a b c n:Int) (K:Pk):(a1h prog d4w 40 92 (a1w (a4i (sp prog 61) 8)) (a1p 92 (riT u e op 0)) (mkS (riH ni nl nj ln ax bx cx F s w op a b c n) (a1x rest)) (vK riL K))=(
 bif xcm .eql (fA op) 0 then(
 K .normal [.ptr 0 0,.val u,.int .i64 e,.ptr 6 0,.ptr 7 0,.any,.any,.ptr 8 0,.agg [.int .i64 (fA op),.int .i64 (fB op),.int .i64 (fC op),.int .i64 (fD op)],.int .i64 1] [sN [.slo 1 0 ni 0,.slo 2 0 nl 0,.slo 9 0 nj 0,.int .i64 ln],sC ax 5,sC bx 4,sD,some (.obj stF [.fact F] 5),sD,sN [.str s,.int .i64 w],sN [.int .i64 0,.int .i64 0,.int .i64 0],sN [.int .i64 op,.int .i64 a,.int .i64 b,.int .i64 c,.int .u64 n],sC cx 4] (a1x rest))
 else(
 bif xcm .eql (↑(xvl u)) 0 then(
 K .ret [.ptr 0 0,.val u,.int .i64 e,.ptr 6 0,.ptr 7 0,.any,.any,.ptr 8 0,.agg [.int .i64 (fA op),.int .i64 (fB op),.int .i64 (fC op),.int .i64 (fD op)],.int .i64 0] [sN [.slo 1 0 ni 0,.slo 2 0 nl 0,.slo 9 0 nj 0,.int .i64 ln],sC ax 5,sC bx 4,sD,some (.obj stF [.fact F] 5),sD,sN [.str s,.int .i64 w],sN [.int .i64 ln,.int .i64 e,.int .i64 12],sN [.int .i64 op,.int .i64 a,.int .i64 b,.int .i64 c,.int .u64 n],sC cx 4,sN [.int .i64 ln,.int .i64 e,.int .i64 12]] (a1x rest))
 else(
 ck (b7a u 0) <|
 ck (a7o F u 0 2) <|
 ck (xle 2 (xln (a0i F u 0 2))) <|
 ck (isS (a0b (a0i F u 0 2) 0)) <|
 ck (isI .i64 (a0b (a0i F u 0 2) 1)) <|
 ck (b1f ni ax) <|
 ck (a5h nl bx) <|
 ck (a5h nj cx) <|
 ck (xle (a0z (asS (a0b (a0i F u 0 2) 0))) 100000) <|
 bif a3i (rfB (fA op) (asS (a0b (a0i F u 0 2) 0))) then(
 ck (b7a u 0) <|
 ck (a7o F u 1 1) <|
 ck (xle 1 (xln (a0i F u 1 1))) <|
 ck (isI .i64 (a0b (a0i F u 1 1) 0)) <|
 K .ret [.ptr 0 0,.val u,.int .i64 e,.ptr 6 0,.ptr 7 0,.any,.any,.ptr 8 0,.agg [.int .i64 (fA op),.int .i64 (fB op),.int .i64 (fC op),.int .i64 (fD op)],.int .i64 0] [sN [.slo 1 0 ni 0,.slo 2 0 nl 0,.slo 10 0 (rfM nj (fA op)) 0,.int .i64 ln],sC ax 5,sC bx 4,sD,some (.obj stF [.fact F] 5),sD,sN [.str s,.int .i64 w],sN [.int .i64 ln,.int .i64 (asI (a0b (a0i F u 1 1) 0)),.int .i64 12],sN [.int .i64 op,.int .i64 (rfX 0 0 (fA op) (asS (a0b (a0i F u 0 2) 0)) a),.int .i64 (rfX 1 0 (fA op) (asS (a0b (a0i F u 0 2) 0)) b),.int .i64 (rfX 2 0 (fA op) (asS (a0b (a0i F u 0 2) 0)) c),.int .u64 (rfX 3 0 (fA op) (asS (a0b (a0i F u 0 2) 0)) n)],sD,sC (rfJ cx (fA op) (asS (a0b (a0i F u 0 2) 0)) ni ln (asI (a0b (a0i F u 0 2) 1))) 4,sN [.int .i64 ln,.int .i64 (asI (a0b (a0i F u 1 1) 0)),.int .i64 12]] (a1x rest))
 else(
 ck (c8r u 1) <|
 K .normal [.ptr 0 0,.val (a2j u 2 1),.int .i64 e,.ptr 6 0,.ptr 7 0,.any,.any,.ptr 8 0,.agg [.int .i64 (fA op),.int .i64 (fB op),.int .i64 (fC op),.int .i64 (fD op)],.int .i64 1] [sN [.slo 1 0 ni 0,.slo 2 0 nl 0,.slo 10 0 (rfM nj (fA op)) 0,.int .i64 ln],sC ax 5,sC bx 4,sD,some (.obj stF [.fact F] 5),sD,sN [.str s,.int .i64 w],sN [.int .i64 0,.int .i64 0,.int .i64 0],sN [.int .i64 op,.int .i64 (rfX 0 0 (fA op) (asS (a0b (a0i F u 0 2) 0)) a),.int .i64 (rfX 1 0 (fA op) (asS (a0b (a0i F u 0 2) 0)) b),.int .i64 (rfX 2 0 (fA op) (asS (a0b (a0i F u 0 2) 0)) c),.int .u64 (rfX 3 0 (fA op) (asS (a0b (a0i F u 0 2) 0)) n)],sD,sC (rfJ cx (fA op) (asS (a0b (a0i F u 0 2) 0)) ni ln (asI (a0b (a0i F u 0 2) 1))) 4] (a1x rest))))):=by kernel_rfl
theorem f8q (ni nl nj:Nat) (ln:Int) (ax bx cx:List LV) (F:World→Prop) (s:List UInt8) (w:Int) (u:Value) (e:Int) (rest:Glb) (op a b c n:Int) (K:Pk):(a1h prog d4w 40 92 (a1w (a4i (sp prog 61) 8)) (a1p 92 (riT u e op 1)) (mkS (riH ni nl nj ln ax bx cx F s w op a b c n) (a1x rest)) (vK riL K))=(
 bif xcm .eql (fB op) 0 then(
 K .normal [.ptr 0 0,.val u,.int .i64 e,.ptr 6 0,.ptr 7 0,.any,.any,.ptr 8 0,.agg [.int .i64 (fA op),.int .i64 (fB op),.int .i64 (fC op),.int .i64 (fD op)],.int .i64 2] [sN [.slo 1 0 ni 0,.slo 2 0 nl 0,.slo 9 0 nj 0,.int .i64 ln],sC ax 5,sC bx 4,sD,some (.obj stF [.fact F] 5),sD,sN [.str s,.int .i64 w],sN [.int .i64 0,.int .i64 0,.int .i64 0],sN [.int .i64 op,.int .i64 a,.int .i64 b,.int .i64 c,.int .u64 n],sC cx 4] (a1x rest))
 else(
 bif xcm .eql (↑(xvl u)) 0 then(
 K .ret [.ptr 0 0,.val u,.int .i64 e,.ptr 6 0,.ptr 7 0,.any,.any,.ptr 8 0,.agg [.int .i64 (fA op),.int .i64 (fB op),.int .i64 (fC op),.int .i64 (fD op)],.int .i64 1] [sN [.slo 1 0 ni 0,.slo 2 0 nl 0,.slo 9 0 nj 0,.int .i64 ln],sC ax 5,sC bx 4,sD,some (.obj stF [.fact F] 5),sD,sN [.str s,.int .i64 w],sN [.int .i64 ln,.int .i64 e,.int .i64 12],sN [.int .i64 op,.int .i64 a,.int .i64 b,.int .i64 c,.int .u64 n],sC cx 4,sN [.int .i64 ln,.int .i64 e,.int .i64 12]] (a1x rest))
 else(
 ck (b7a u 0) <|
 ck (a7o F u 0 2) <|
 ck (xle 2 (xln (a0i F u 0 2))) <|
 ck (isS (a0b (a0i F u 0 2) 0)) <|
 ck (isI .i64 (a0b (a0i F u 0 2) 1)) <|
 ck (b1f ni ax) <|
 ck (a5h nl bx) <|
 ck (a5h nj cx) <|
 ck (xle (a0z (asS (a0b (a0i F u 0 2) 0))) 100000) <|
 bif a3i (rfB (fB op) (asS (a0b (a0i F u 0 2) 0))) then(
 ck (b7a u 0) <|
 ck (a7o F u 1 1) <|
 ck (xle 1 (xln (a0i F u 1 1))) <|
 ck (isI .i64 (a0b (a0i F u 1 1) 0)) <|
 K .ret [.ptr 0 0,.val u,.int .i64 e,.ptr 6 0,.ptr 7 0,.any,.any,.ptr 8 0,.agg [.int .i64 (fA op),.int .i64 (fB op),.int .i64 (fC op),.int .i64 (fD op)],.int .i64 1] [sN [.slo 1 0 ni 0,.slo 2 0 nl 0,.slo 10 0 (rfM nj (fB op)) 0,.int .i64 ln],sC ax 5,sC bx 4,sD,some (.obj stF [.fact F] 5),sD,sN [.str s,.int .i64 w],sN [.int .i64 ln,.int .i64 (asI (a0b (a0i F u 1 1) 0)),.int .i64 12],sN [.int .i64 op,.int .i64 (rfX 0 1 (fB op) (asS (a0b (a0i F u 0 2) 0)) a),.int .i64 (rfX 1 1 (fB op) (asS (a0b (a0i F u 0 2) 0)) b),.int .i64 (rfX 2 1 (fB op) (asS (a0b (a0i F u 0 2) 0)) c),.int .u64 (rfX 3 1 (fB op) (asS (a0b (a0i F u 0 2) 0)) n)],sD,sC (rfJ cx (fB op) (asS (a0b (a0i F u 0 2) 0)) ni ln (asI (a0b (a0i F u 0 2) 1))) 4,sN [.int .i64 ln,.int .i64 (asI (a0b (a0i F u 1 1) 0)),.int .i64 12]] (a1x rest))
 else(
 ck (c8r u 1) <|
 K .normal [.ptr 0 0,.val (a2j u 2 1),.int .i64 e,.ptr 6 0,.ptr 7 0,.any,.any,.ptr 8 0,.agg [.int .i64 (fA op),.int .i64 (fB op),.int .i64 (fC op),.int .i64 (fD op)],.int .i64 2] [sN [.slo 1 0 ni 0,.slo 2 0 nl 0,.slo 10 0 (rfM nj (fB op)) 0,.int .i64 ln],sC ax 5,sC bx 4,sD,some (.obj stF [.fact F] 5),sD,sN [.str s,.int .i64 w],sN [.int .i64 0,.int .i64 0,.int .i64 0],sN [.int .i64 op,.int .i64 (rfX 0 1 (fB op) (asS (a0b (a0i F u 0 2) 0)) a),.int .i64 (rfX 1 1 (fB op) (asS (a0b (a0i F u 0 2) 0)) b),.int .i64 (rfX 2 1 (fB op) (asS (a0b (a0i F u 0 2) 0)) c),.int .u64 (rfX 3 1 (fB op) (asS (a0b (a0i F u 0 2) 0)) n)],sD,sC (rfJ cx (fB op) (asS (a0b (a0i F u 0 2) 0)) ni ln (asI (a0b (a0i F u 0 2) 1))) 4] (a1x rest))))):=by kernel_rfl
theorem f8p (ni nl nj:Nat) (ln:Int) (ax bx cx:List LV) (F:World→Prop) (s:List UInt8) (w:Int) (u:Value) (e:Int) (rest:Glb) (op a b c n:Int) (K:Pk):(a1h prog d4w 40 92 (a1w (a4i (sp prog 61) 8)) (a1p 92 (riT u e op 2)) (mkS (riH ni nl nj ln ax bx cx F s w op a b c n) (a1x rest)) (vK riL K))=(
 bif xcm .eql (fC op) 0 then(
 K .normal [.ptr 0 0,.val u,.int .i64 e,.ptr 6 0,.ptr 7 0,.any,.any,.ptr 8 0,.agg [.int .i64 (fA op),.int .i64 (fB op),.int .i64 (fC op),.int .i64 (fD op)],.int .i64 3] [sN [.slo 1 0 ni 0,.slo 2 0 nl 0,.slo 9 0 nj 0,.int .i64 ln],sC ax 5,sC bx 4,sD,some (.obj stF [.fact F] 5),sD,sN [.str s,.int .i64 w],sN [.int .i64 0,.int .i64 0,.int .i64 0],sN [.int .i64 op,.int .i64 a,.int .i64 b,.int .i64 c,.int .u64 n],sC cx 4] (a1x rest))
 else(
 bif xcm .eql (↑(xvl u)) 0 then(
 K .ret [.ptr 0 0,.val u,.int .i64 e,.ptr 6 0,.ptr 7 0,.any,.any,.ptr 8 0,.agg [.int .i64 (fA op),.int .i64 (fB op),.int .i64 (fC op),.int .i64 (fD op)],.int .i64 2] [sN [.slo 1 0 ni 0,.slo 2 0 nl 0,.slo 9 0 nj 0,.int .i64 ln],sC ax 5,sC bx 4,sD,some (.obj stF [.fact F] 5),sD,sN [.str s,.int .i64 w],sN [.int .i64 ln,.int .i64 e,.int .i64 12],sN [.int .i64 op,.int .i64 a,.int .i64 b,.int .i64 c,.int .u64 n],sC cx 4,sN [.int .i64 ln,.int .i64 e,.int .i64 12]] (a1x rest))
 else(
 ck (b7a u 0) <|
 ck (a7o F u 0 2) <|
 ck (xle 2 (xln (a0i F u 0 2))) <|
 ck (isS (a0b (a0i F u 0 2) 0)) <|
 ck (isI .i64 (a0b (a0i F u 0 2) 1)) <|
 ck (b1f ni ax) <|
 ck (a5h nl bx) <|
 ck (a5h nj cx) <|
 ck (xle (a0z (asS (a0b (a0i F u 0 2) 0))) 100000) <|
 bif a3i (rfB (fC op) (asS (a0b (a0i F u 0 2) 0))) then(
 ck (b7a u 0) <|
 ck (a7o F u 1 1) <|
 ck (xle 1 (xln (a0i F u 1 1))) <|
 ck (isI .i64 (a0b (a0i F u 1 1) 0)) <|
 K .ret [.ptr 0 0,.val u,.int .i64 e,.ptr 6 0,.ptr 7 0,.any,.any,.ptr 8 0,.agg [.int .i64 (fA op),.int .i64 (fB op),.int .i64 (fC op),.int .i64 (fD op)],.int .i64 2] [sN [.slo 1 0 ni 0,.slo 2 0 nl 0,.slo 10 0 (rfM nj (fC op)) 0,.int .i64 ln],sC ax 5,sC bx 4,sD,some (.obj stF [.fact F] 5),sD,sN [.str s,.int .i64 w],sN [.int .i64 ln,.int .i64 (asI (a0b (a0i F u 1 1) 0)),.int .i64 12],sN [.int .i64 op,.int .i64 (rfX 0 2 (fC op) (asS (a0b (a0i F u 0 2) 0)) a),.int .i64 (rfX 1 2 (fC op) (asS (a0b (a0i F u 0 2) 0)) b),.int .i64 (rfX 2 2 (fC op) (asS (a0b (a0i F u 0 2) 0)) c),.int .u64 (rfX 3 2 (fC op) (asS (a0b (a0i F u 0 2) 0)) n)],sD,sC (rfJ cx (fC op) (asS (a0b (a0i F u 0 2) 0)) ni ln (asI (a0b (a0i F u 0 2) 1))) 4,sN [.int .i64 ln,.int .i64 (asI (a0b (a0i F u 1 1) 0)),.int .i64 12]] (a1x rest))
 else(
 ck (c8r u 1) <|
 K .normal [.ptr 0 0,.val (a2j u 2 1),.int .i64 e,.ptr 6 0,.ptr 7 0,.any,.any,.ptr 8 0,.agg [.int .i64 (fA op),.int .i64 (fB op),.int .i64 (fC op),.int .i64 (fD op)],.int .i64 3] [sN [.slo 1 0 ni 0,.slo 2 0 nl 0,.slo 10 0 (rfM nj (fC op)) 0,.int .i64 ln],sC ax 5,sC bx 4,sD,some (.obj stF [.fact F] 5),sD,sN [.str s,.int .i64 w],sN [.int .i64 0,.int .i64 0,.int .i64 0],sN [.int .i64 op,.int .i64 (rfX 0 2 (fC op) (asS (a0b (a0i F u 0 2) 0)) a),.int .i64 (rfX 1 2 (fC op) (asS (a0b (a0i F u 0 2) 0)) b),.int .i64 (rfX 2 2 (fC op) (asS (a0b (a0i F u 0 2) 0)) c),.int .u64 (rfX 3 2 (fC op) (asS (a0b (a0i F u 0 2) 0)) n)],sD,sC (rfJ cx (fC op) (asS (a0b (a0i F u 0 2) 0)) ni ln (asI (a0b (a0i F u 0 2) 1))) 4] (a1x rest))))):=by kernel_rfl
theorem f8o (ni nl nj:Nat) (ln:Int) (ax bx cx:List LV) (F:World→Prop) (s:List UInt8) (w:Int) (u:Value) (e:Int) (rest:Glb) (op a b c n:Int) (K:Pk):(a1h prog d4w 40 92 (a1w (a4i (sp prog 61) 8)) (a1p 92 (riT u e op 3)) (mkS (riH ni nl nj ln ax bx cx F s w op a b c n) (a1x rest)) (vK riL K))=(
 bif xcm .eql (fD op) 0 then(
 K .normal [.ptr 0 0,.val u,.int .i64 e,.ptr 6 0,.ptr 7 0,.any,.any,.ptr 8 0,.agg [.int .i64 (fA op),.int .i64 (fB op),.int .i64 (fC op),.int .i64 (fD op)],.int .i64 4] [sN [.slo 1 0 ni 0,.slo 2 0 nl 0,.slo 9 0 nj 0,.int .i64 ln],sC ax 5,sC bx 4,sD,some (.obj stF [.fact F] 5),sD,sN [.str s,.int .i64 w],sN [.int .i64 0,.int .i64 0,.int .i64 0],sN [.int .i64 op,.int .i64 a,.int .i64 b,.int .i64 c,.int .u64 n],sC cx 4] (a1x rest))
 else(
 bif xcm .eql (↑(xvl u)) 0 then(
 K .ret [.ptr 0 0,.val u,.int .i64 e,.ptr 6 0,.ptr 7 0,.any,.any,.ptr 8 0,.agg [.int .i64 (fA op),.int .i64 (fB op),.int .i64 (fC op),.int .i64 (fD op)],.int .i64 3] [sN [.slo 1 0 ni 0,.slo 2 0 nl 0,.slo 9 0 nj 0,.int .i64 ln],sC ax 5,sC bx 4,sD,some (.obj stF [.fact F] 5),sD,sN [.str s,.int .i64 w],sN [.int .i64 ln,.int .i64 e,.int .i64 12],sN [.int .i64 op,.int .i64 a,.int .i64 b,.int .i64 c,.int .u64 n],sC cx 4,sN [.int .i64 ln,.int .i64 e,.int .i64 12]] (a1x rest))
 else(
 ck (b7a u 0) <|
 ck (a7o F u 0 2) <|
 ck (xle 2 (xln (a0i F u 0 2))) <|
 ck (isS (a0b (a0i F u 0 2) 0)) <|
 ck (isI .i64 (a0b (a0i F u 0 2) 1)) <|
 ck (b1f ni ax) <|
 ck (a5h nl bx) <|
 ck (a5h nj cx) <|
 ck (xle (a0z (asS (a0b (a0i F u 0 2) 0))) 100000) <|
 bif a3i (rfB (fD op) (asS (a0b (a0i F u 0 2) 0))) then(
 ck (b7a u 0) <|
 ck (a7o F u 1 1) <|
 ck (xle 1 (xln (a0i F u 1 1))) <|
 ck (isI .i64 (a0b (a0i F u 1 1) 0)) <|
 K .ret [.ptr 0 0,.val u,.int .i64 e,.ptr 6 0,.ptr 7 0,.any,.any,.ptr 8 0,.agg [.int .i64 (fA op),.int .i64 (fB op),.int .i64 (fC op),.int .i64 (fD op)],.int .i64 3] [sN [.slo 1 0 ni 0,.slo 2 0 nl 0,.slo 10 0 (rfM nj (fD op)) 0,.int .i64 ln],sC ax 5,sC bx 4,sD,some (.obj stF [.fact F] 5),sD,sN [.str s,.int .i64 w],sN [.int .i64 ln,.int .i64 (asI (a0b (a0i F u 1 1) 0)),.int .i64 12],sN [.int .i64 op,.int .i64 (rfX 0 3 (fD op) (asS (a0b (a0i F u 0 2) 0)) a),.int .i64 (rfX 1 3 (fD op) (asS (a0b (a0i F u 0 2) 0)) b),.int .i64 (rfX 2 3 (fD op) (asS (a0b (a0i F u 0 2) 0)) c),.int .u64 (rfX 3 3 (fD op) (asS (a0b (a0i F u 0 2) 0)) n)],sD,sC (rfJ cx (fD op) (asS (a0b (a0i F u 0 2) 0)) ni ln (asI (a0b (a0i F u 0 2) 1))) 4,sN [.int .i64 ln,.int .i64 (asI (a0b (a0i F u 1 1) 0)),.int .i64 12]] (a1x rest))
 else(
 ck (c8r u 1) <|
 K .normal [.ptr 0 0,.val (a2j u 2 1),.int .i64 e,.ptr 6 0,.ptr 7 0,.any,.any,.ptr 8 0,.agg [.int .i64 (fA op),.int .i64 (fB op),.int .i64 (fC op),.int .i64 (fD op)],.int .i64 4] [sN [.slo 1 0 ni 0,.slo 2 0 nl 0,.slo 10 0 (rfM nj (fD op)) 0,.int .i64 ln],sC ax 5,sC bx 4,sD,some (.obj stF [.fact F] 5),sD,sN [.str s,.int .i64 w],sN [.int .i64 0,.int .i64 0,.int .i64 0],sN [.int .i64 op,.int .i64 (rfX 0 3 (fD op) (asS (a0b (a0i F u 0 2) 0)) a),.int .i64 (rfX 1 3 (fD op) (asS (a0b (a0i F u 0 2) 0)) b),.int .i64 (rfX 2 3 (fD op) (asS (a0b (a0i F u 0 2) 0)) c),.int .u64 (rfX 3 3 (fD op) (asS (a0b (a0i F u 0 2) 0)) n)],sD,sC (rfJ cx (fD op) (asS (a0b (a0i F u 0 2) 0)) ni ln (asI (a0b (a0i F u 0 2) 1))) 4] (a1x rest))))):=by kernel_rfl
theorem f8n (ni nl nj:Nat) (ln:Int) (ax bx cx:List LV) (F:World→Prop) (s:List UInt8) (w:Int) (u:Value) (e:Int) (rest:Glb) (op a b c n:Int) (K:Pk):(a1h prog d4w 40 92 (a1w (a4i (sp prog 61) 8)) (a1p 92 (riT u e op 4)) (mkS (riH ni nl nj ln ax bx cx F s w op a b c n) (a1x rest)) (vK riL K))=(
 K (.exit 0) [.ptr 0 0,.val u,.int .i64 e,.ptr 6 0,.ptr 7 0,.any,.any,.ptr 8 0,.agg [.int .i64 (fA op),.int .i64 (fB op),.int .i64 (fC op),.int .i64 (fD op)],.int .i64 4] [sN [.slo 1 0 ni 0,.slo 2 0 nl 0,.slo 9 0 nj 0,.int .i64 ln],sC ax 5,sC bx 4,sD,some (.obj stF [.fact F] 5),sD,sN [.str s,.int .i64 w],sN [.int .i64 0,.int .i64 0,.int .i64 0],sN [.int .i64 op,.int .i64 a,.int .i64 b,.int .i64 c,.int .u64 n],sC cx 4] (a1x rest)):=by kernel_rfl
theorem g5j (ni nl nj:Nat) (ln:Int) (ax bx cx:List LV) (F:World→Prop) (s:List UInt8) (w:Int) (u:Value) (e:Int) (rest:Glb) (op a b c n:Int) (K:Pk):(xsp prog d4w 40 92 ((sp prog 61).drop 9) (a1p 92 (riT u e op 4)) (mkS (riH ni nl nj ln ax bx cx F s w op a b c n) (a1x rest)) (vK riL K))=(
 bif xcm .gtr (↑(xvl u)) 0 then(
 ck (b7a u 0) <|
 ck (a7o F u 1 1) <|
 ck (xle 1 (xln (a0i F u 1 1))) <|
 ck (isI .i64 (a0b (a0i F u 1 1) 0)) <|
 K .ret [.ptr 0 0,.val u,.int .i64 e,.ptr 6 0,.ptr 7 0,.any,.any,.ptr 8 0,.agg [.int .i64 (fA op),.int .i64 (fB op),.int .i64 (fC op),.int .i64 (fD op)],.int .i64 4] [sN [.slo 1 0 ni 0,.slo 2 0 nl 0,.slo 9 0 nj 0,.int .i64 ln],sC ax 5,sC bx 4,sD,some (.obj stF [.fact F] 5),sD,sN [.str s,.int .i64 w],sN [.int .i64 ln,.int .i64 (asI (a0b (a0i F u 1 1) 0)),.int .i64 12],sN [.int .i64 op,.int .i64 a,.int .i64 b,.int .i64 c,.int .u64 n],sC cx 4,sN [.int .i64 ln,.int .i64 (asI (a0b (a0i F u 1 1) 0)),.int .i64 12]] (a1x rest))
 else(
 ck (xle (a0a ni 1) 1000000) <|
 ck (xle (a0a 0 (a1t ni 5)) (xln ax)) <|
 ck (xeq ni ni) <|
 ck (xeq ni ni) <|
 K .ret [.ptr 0 0,.val u,.int .i64 e,.ptr 6 0,.ptr 7 0,.any,.any,.ptr 8 0,.agg [.int .i64 (fA op),.int .i64 (fB op),.int .i64 (fC op),.int .i64 (fD op)],.int .i64 4] [sN [.slo 11 0 (a0a ni 1) 0,.slo 2 0 nl 0,.slo 9 0 nj 0,.int .i64 ln],sD,sC bx 4,sD,some (.obj stF [.fact F] 5),sD,sN [.str s,.int .i64 w],sN [.int .i64 0,.int .i64 0,.int .i64 0],sN [.int .i64 op,.int .i64 a,.int .i64 b,.int .i64 c,.int .u64 n],sC cx 4,sN [.int .i64 op,.int .i64 a,.int .i64 b,.int .i64 c,.int .u64 n],sC (a6n (a3o ax 0 (a1t ni 5)) [.int .i64 op,.int .i64 a,.int .i64 b,.int .i64 c,.int .u64 n]) 5] (a1x rest))):=by kernel_rfl
theorem b9o:a3w prog (a2z d4w):=a6i ⟨f3g,f4w,f2r,trivial⟩
end
end Go.Lev
