/- text: the reference's instruction as a contract; its Parse: trees -/
import Derived.Test.YtnkkkihgljbllaaDoorCX9
import Derived.Test.YtnkkkihgljbllaaDoorLc
import Derived.Test.YtnkkkihgljbllaaDoorChecked
import Derived.KernelRfl
import Derived.Test.YtnkkkihgljbllaaDoorLc
namespace Go.Lev
set_option linter.unusedSimpArgs false
set_option linter.unusedVariables false
open Go.RowKit
open Go.Proofs.Tryd (prog)
set_option maxRecDepth 100000
noncomputable section
def rwD:List LV→List RW
 | .str a::.int _ b::.int _ c::.bool d::r=>⟨a,b,c,d⟩::rwD r
 | _=>[]
theorem c4a:∀ xs,rwD (a0f rwC xs)=xs
 | []=>rfl
 | x::r=>by simp [a0f,rwC,rwD,c4a r]
theorem d7s (A L:List RW):(a0f rwC (A++L)).drop (A.length * 4)=a0f rwC L:=by
 rw [a1r,List.drop_append_of_le_length (by rw [d3o]; omega),List.drop_of_length_le (by rw [d3o]; omega)]; rfl
def f0s (o m:Nat) (wx:List LV):Bool:=@decide (∃ A L:List RW,wx=a0f rwC (A++L)∧o=A.length * 4∧m=L.length∧1≤m∧m≤100000∧∀ w∈L,w.s.length≤1000000000) (Classical.propDecidable _)
theorem b8w {o m:Nat} {wx:List LV}:f0s o m wx=true↔∃ A L:List RW,wx=a0f rwC (A++L)∧o=A.length * 4∧m=L.length∧1≤m∧m≤100000∧∀ w∈L,w.s.length≤1000000000:=by simp only [f0s,decide_eq_true_eq]
def iiV (o:Nat) (wx:List LV) (e ln n:Int):InX×RW×(Int×Int×Int):=c8h e ln n (rwD (wx.drop o))
def f0v (o:Nat) (wx:List LV) (e ln n:Int):Int:=(iiV o wx e ln n).1.op
def iiA (o:Nat) (wx:List LV) (e ln n:Int):Int:=(iiV o wx e ln n).1.a
def iiB (o:Nat) (wx:List LV) (e ln n:Int):Int:=(iiV o wx e ln n).1.b
def iiC (o:Nat) (wx:List LV) (e ln n:Int):Int:=(iiV o wx e ln n).1.c
def iiN (o:Nat) (wx:List LV) (e ln n:Int):Int:=(iiV o wx e ln n).1.n
def d9f (o:Nat) (wx:List LV) (e ln n:Int):List UInt8:=(iiV o wx e ln n).2.1.s
def f0w (o:Nat) (wx:List LV) (e ln n:Int):Int:=(iiV o wx e ln n).2.1.ln
def f0x (o:Nat) (wx:List LV) (e ln n:Int):Int:=(iiV o wx e ln n).2.1.cl
def f0y (o:Nat) (wx:List LV) (e ln n:Int):Bool:=(iiV o wx e ln n).2.1.bd
def d2f (o:Nat) (wx:List LV) (e ln n:Int):Int:=(iiV o wx e ln n).2.2.1
def d2g (o:Nat) (wx:List LV) (e ln n:Int):Int:=(iiV o wx e ln n).2.2.2.1
def c8t (o:Nat) (wx:List LV) (e ln n:Int):Int:=(iiV o wx e ln n).2.2.2.2
theorem g6z (o m:Nat) (e ln n:Int) (wx:List LV) (k1:f0s o m wx=true):a0k prog 37 [.slo 0 o m 0,.int .i64 e,.int .i64 ln,.int .i64 n] (mkS [.cells wx (some 4)] gt4) fun l st=>l=LV.tup [.agg [.int .i64 (f0v o wx e ln n),.int .i64 (iiA o wx e ln n),.int .i64 (iiB o wx e ln n),.int .i64 (iiC o wx e ln n),.int .u64 (iiN o wx e ln n)],.agg [.str (d9f o wx e ln n),.int .i64 (f0w o wx e ln n),.int .i64 (f0x o wx e ln n),.bool (f0y o wx e ln n)],.agg [.int .i64 (d2f o wx e ln n),.int .i64 (d2g o wx e ln n),.int .i64 (c8t o wx e ln n)]]∧st=mkS [.cells wx (some 4)] gt4:=by
 obtain⟨A,L,rfl,rfl,rfl,h1,h2,h3⟩:=b8w.1 k1
 simp only [f0v,iiA,iiB,iiC,iiN,d9f,f0w,f0x,f0y,d2f,d2g,c8t,iiV,d7s,c4a]
 exact f9m _ _ L e ln n (a3k _) (WrP.of A L) h1 h2 h3
def iiG:Gc:=fun args s=>match args,s.g with
 | [.slo a o m 0,.int .i64 e,.int .i64 ln,.int .i64 n],[(g0,F0),(g1,F1),(g2,F2),(g3,[.fact F])]=>cond (Nat.beq g0 0 && a2x F0 a2h && (Nat.beq g1 2 && a2x F1 a2n) && (Nat.beq g2 1 && a2x F2 a6x) && Nat.beq g3 1000) (match s.h.get a with
   | some (.cells wx (some 4))=>(match s.lay [a] [.cells wx (some 4)] [] with
     | some s'=>some ([b6j F,f0s o m wx],.tup [.agg [.int .i64 (f0v o wx e ln n),.int .i64 (iiA o wx e ln n),.int .i64 (iiB o wx e ln n),.int .i64 (iiC o wx e ln n),.int .u64 (iiN o wx e ln n)],.agg [.str (d9f o wx e ln n),.int .i64 (f0w o wx e ln n),.int .i64 (f0x o wx e ln n),.bool (f0y o wx e ln n)],.agg [.int .i64 (d2f o wx e ln n),.int .i64 (d2g o wx e ln n),.int .i64 (c8t o wx e ln n)]],s')
     | none=>none)
   | _=>none) none
 | _,_=>none
theorem f4j:GOk prog 37 iiG:=by
 intro args s bs l s' hg hb hfr
 unfold iiG at hg
 split at hg
 ·rename_i a o m e ln n g0 F0 g1 F1 g2 F2 g3 F hgl
  cases hc:(Nat.beq g0 0 && a2x F0 a2h && (Nat.beq g1 2 && a2x F1 a2n) && (Nat.beq g2 1 && a2x F2 a6x) && Nat.beq g3 1000) with
  | false=>rw [hc] at hg; cases hg
  | true =>
    rw [hc] at hg
    simp only [cond_true] at hg
    simp only [Bool.and_eq_true] at hc
    replace hgl:s.g=gtF F:=by rw [hgl,Nat.eq_of_beq_eq_true hc.1.1.1.1,a1f hc.1.1.1.2,Nat.eq_of_beq_eq_true hc.1.1.2.1,a1f hc.1.1.2.2,Nat.eq_of_beq_eq_true hc.1.2.1,a1f hc.1.2.2,Nat.eq_of_beq_eq_true hc.2]
    split at hg
    ·rename_i wx hb0
     split at hg
     ·rename_i s1 hs1
      simp only [Option.some.injEq,Prod.mk.injEq] at hg
      obtain⟨rfl,rfl,rfl⟩:=hg
      simp only [a0g] at hb
      obtain⟨k1,k2,_⟩:=hb
      have eF:=b3m k1
      subst eF
      obtain⟨zA,zL,ze,_⟩:=b8w.1 k2; have n1:a1q wx=true:=ze▸a3k (zA++zL)
      refine a0k.lay (bs:=[.cells wx (some 4)]) (args0:=[.slo 0 o m 0,.int .i64 e,.int .i64 ln,.int .i64 n]) (bs':=[.cells wx (some 4)]) (v0:=.tup [.agg [.int .i64 (f0v o wx e ln n),.int .i64 (iiA o wx e ln n),.int .i64 (iiB o wx e ln n),.int .i64 (iiC o wx e ln n),.int .u64 (iiN o wx e ln n)],.agg [.str (d9f o wx e ln n),.int .i64 (f0w o wx e ln n),.int .i64 (f0x o wx e ln n),.bool (f0y o wx e ln n)],.agg [.int .i64 (d2f o wx e ln n),.int .i64 (d2g o wx e ln n),.int .i64 (c8t o wx e ln n)]]) hfr hs1 (by simp)
       ⟨⟨a3j hfr hb0,_,hb0,a0e (by(exact zId)),fun κ hκ=>a0e (by(exact zId))⟩,trivial⟩ (by(exact zTl)) ?_
       fun κ h1 h2=>⟨⟨a0e (by(exact zId)),trivial⟩,a1b rfl⟩
      rw [hgl]; exact(g6z o m e ln n wx k2)
     ·cases hg
    ·cases hg
 ·cases hg
abbrev paX:List Nat:=[0,2,3,4,5,6,7,8,9,10,11,12,13,14,15,16,17,19,20,22,49,175]
def c0b:Cx:=cxl [(33,b1a ruG),(34,b1a cuG),(35,b1a xnG),(36,b1a xfG),(37,iiG)]
abbrev pmT (s:List UInt8) (nb nj na nk n:Nat) (ln:Int) (i:Nat):List (Nat×LV):=[(0,.str s),(2,.ptr 0 0),(3,.int .i64 0),(4,.int .i64 0),(5,.int .i64 0),(6,.ptr 1 0),(7,.slo 3 0 nb 0),(8,.slo 4 0 nj 0),(9,.slo 5 0 na 0),(10,.int .i64 ln),(11,.slo 8 0 nk 0),(12,.slo 9 0 nk 0),(13,.slo 6 0 n 0),(14,.slo 7 0 n 0),(15,.int .i64 i)]
abbrev g2d (ni:Nat) (ax bx jx kx rx wx:List LV):List LB:=[.cells [.nils] none,.cells [.slo 2 0 ni 0] none,.cells ax (some 5),.cells bx (some 2),.cells jx (some 4),.cells kx (some 1),.cells rx (some 1),.cells wx (some 1)]
abbrev pmH (ni:Nat) (ax bx jx kx rx wx lx dx:List LV):List LB:=g2d ni ax bx jx kx rx wx++[.cells lx (some 1),.cells dx (some 1)]
abbrev pmU (s:List UInt8) (nb nj na n:Nat) (ln:Int) (i o m:Nat) (e:Int):List (Nat×LV):=[(0,.str s),(2,.ptr 0 0),(3,.int .i64 0),(4,.int .i64 0),(5,.int .i64 0),(6,.ptr 1 0),(7,.slo 3 0 nb 0),(8,.slo 4 0 nj 0),(9,.slo 5 0 na 0),(10,.int .i64 ln),(11,.nils),(12,.nils),(13,.slo 6 0 n 0),(14,.slo 7 0 n 0),(15,.int .i64 i),(16,.slo 8 o m 0),(17,.int .i64 e)]
abbrev pmK (ni:Nat) (ax bx jx kx rx wx vx:List LV):List LB:=g2d ni ax bx jx kx rx wx++[.cells vx (some 4)]
abbrev pmZ (s:List UInt8) (nb nj na:Nat) (i:Nat):List (Nat×LV):=[(0,.str s),(2,.ptr 0 0),(3,.int .i64 0),(4,.int .i64 0),(5,.int .i64 0),(6,.ptr 1 0),(7,.slo 3 0 nb 0),(8,.slo 4 0 nj 0),(9,.slo 5 0 na 0),(22,.int .i64 i)]
abbrev pmY (ni:Nat) (ax bx jx kx:List LV):List LB:=[.cells [.nils] none,.cells [.slo 2 0 ni 0] none,.cells ax (some 5),.cells bx (some 2),.cells jx (some 4),.cells kx (some 1)]
abbrev pmB:List Code:=a3l (a1w (a4i (sp prog 18) 13))
abbrev pmC:List Code:=a3l (b9t (a4i pmB 2))
abbrev pmD:List Code:=a3l (c2r (a4i pmC 1))
abbrev pmE:List Code:=a3l (c2r (a4i pmC 15))
theorem a4d:a3w prog (a2z c0b):=a6i ⟨a4j f2i,a4j f5l,a4j d5g,a4j f1h,f4j,trivial⟩
theorem g6k (s:List UInt8) (K:Pk):(xsp prog c0b 60 228 (seg (sp prog 18) 0 13) (tm0 [.str s]) (mkS [] gt4) (vK paX K))=(
 bif xcm .gtr (↑(a0z s)) 4000 then(
 K .ret [.str s,.ptr 0 0,.int .i64 1,.int .i64 1,.int .i64 4,.tup [],.tup [],.tup [],.tup [],.tup [],.tup [],.tup [],.tup [],.tup [],.tup [],.tup [],.tup [],.tup [],.tup [],.tup [],.tup [],.tup []] [sN [.nils]] gt4)
 else(
 ck (xle (a0z s) 1000000) <|
 ck (xle (a0z s) 900000) <|
 K .normal [.str s,.ptr 0 0,.int .i64 0,.int .i64 0,.int .i64 0,.ptr 1 0,.nils,.nils,.nils,.int .i64 0,.nils,.nils,.slo 2 0 (f6e s) 0,.slo 3 0 (bdN s) 0,.int .i64 0,.tup [],.tup [],.tup [],.tup [],.tup [],.tup [],.tup []] [sN [.nils],sN [.nils],sC (f1g s) 1,sC (bdW s) 1] gt4)):=by kernel_rfl
abbrev d0v (ni:Nat) (ax:List LV) (bx:List LV) (jx:List LV) (kx:List LV) (rx:List LV) (wx:List LV) (lx:List LV) (dx:List LV):List (Option LB):=[sN [.nils],sN [.slo 2 0 ni 0],sC ax 5,sC bx 2,sC jx 4,sC kx 1,sC rx 1,sC wx 1,sC lx 1,sC dx 1]
theorem g6g (s:List UInt8) (ni nb nj na nk n:Nat) (ln:Int) (i:Nat) (ax bx jx kx rx wx lx dx:List LV) (K:Pk):(xsp prog c0b 60 228 (seg pmB 0 2) (a1p 228 (pmT s nb nj na nk n ln i)) (mkS (pmH ni ax bx jx kx rx wx lx dx) gt4) (vK paX K))=(
 bif xcm .leq ↑i ↑n then(
 K .normal [.str s,.ptr 0 0,.int .i64 0,.int .i64 0,.int .i64 0,.ptr 1 0,.slo 3 0 nb 0,.slo 4 0 nj 0,.slo 5 0 na 0,.int .i64 ln,.slo 8 0 nk 0,.slo 9 0 nk 0,.slo 6 0 n 0,.slo 7 0 n 0,.int .i64 ↑i,.any,.any,.any,.any,.any,.any,.any] (d0v ni ax bx jx kx rx wx lx dx) gt4)
 else(
 K (.exit 0) [.str s,.ptr 0 0,.int .i64 0,.int .i64 0,.int .i64 0,.ptr 1 0,.slo 3 0 nb 0,.slo 4 0 nj 0,.slo 5 0 na 0,.int .i64 ln,.slo 8 0 nk 0,.slo 9 0 nk 0,.slo 6 0 n 0,.slo 7 0 n 0,.int .i64 ↑i,.any,.any,.any,.any,.any,.any,.any] (d0v ni ax bx jx kx rx wx lx dx) gt4)):=by kernel_rfl
abbrev d0w (ni:Nat) (ax:List LV) (bx:List LV) (jx:List LV) (kx:List LV) (rx:List LV) (wx:List LV) (lx:List LV) (dx:List LV):List (Option LB):=[sN [.nils],sN [.slo 2 0 ni 0],sC ax 5,sC bx 2,sC jx 4,sC kx 1,sC rx 1,sC wx 1,sC lx 1,sC dx 1]
theorem g6j (s:List UInt8) (ni nb nj na nk n:Nat) (ln:Int) (i:Nat) (ax bx jx kx rx wx lx dx:List LV) (K:Pk):(xsp prog c0b 60 228 (seg pmC 0 1) (a1p 228 (pmT s nb nj na nk n ln i)) (mkS (pmH ni ax bx jx kx rx wx lx dx) gt4) (vK paX K))=(
 bif xcm .lss ↑i ↑n then(
 ck (xle (a0a (a0c ↑i) 1) n) <|
 ck (xle (a0a (xix 0 (a0c ↑i) 1) 1) (xln rx)) <|
 ck (isI .i32 (a0b rx (xix 0 (a0c ↑i) 1))) <|
 K .normal [.str s,.ptr 0 0,.int .i64 0,.int .i64 0,.int .i64 0,.ptr 1 0,.slo 3 0 nb 0,.slo 4 0 nj 0,.slo 5 0 na 0,.int .i64 ln,.slo 8 0 nk 0,.slo 9 0 nk 0,.slo 6 0 n 0,.slo 7 0 n 0,.int .i64 ↑i,.any,.any,.any,.any,.any,.bool (xcm .neq (asI (a0b rx (xix 0 (a0c ↑i) 1))) 10),.any] (d0w ni ax bx jx kx rx wx lx dx) gt4)
 else(
 K .normal [.str s,.ptr 0 0,.int .i64 0,.int .i64 0,.int .i64 0,.ptr 1 0,.slo 3 0 nb 0,.slo 4 0 nj 0,.slo 5 0 na 0,.int .i64 ln,.slo 8 0 nk 0,.slo 9 0 nk 0,.slo 6 0 n 0,.slo 7 0 n 0,.int .i64 ↑i,.any,.any,.any,.any,.any,.bool false,.any] (d0w ni ax bx jx kx rx wx lx dx) gt4)):=by kernel_rfl
theorem g6a (s:List UInt8) (ni nb nj na nk n:Nat) (ln:Int) (i:Nat) (ax bx jx kx rx wx lx dx:List LV) (K:Pk):(b8e prog c0b 60 228 (a4i pmD 0) (a1p 228 (pmT s nb nj na nk n ln i++[(49,.bool true)])) (mkS (pmH ni ax bx jx kx rx wx lx dx) gt4) (vK paX K))=(
 (
 ck (xle (a0a (a0c ↑i) 1) n) <|
 ck (xle (a0a (xix 0 (a0c ↑i) 1) 1) (xln rx)) <|
 ck (isI .i32 (a0b rx (xix 0 (a0c ↑i) 1))) <|
 ck (xle (a0a nk 1) 1000000) <|
 ck (xle (a0a 0 (a1t nk 1)) (xln lx)) <|
 ck (xle (a0a (a0c ↑i) 1) n) <|
 ck (xle (a0a (xix 0 (a0c ↑i) 1) 1) (xln wx)) <|
 ck (isB (a0b wx (xix 0 (a0c ↑i) 1))) <|
 ck (xle (a0a nk 1) 1000000) <|
 ck (xle (a0a 0 (a1t nk 1)) (xln dx)) <|
 ck (xle (a0a (xix 0 (a0c ↑i) 1) 1) (xln rx)) <|
 ck (isI .i32 (a0b rx (xix 0 (a0c ↑i) 1))) <|
 ck (xcm .eql (asI (a0b rx (xix 0 (a0c ↑i) 1))) (asI (a0b rx (xix 0 (a0c ↑i) 1)))) <|
 ck (xle (a0a (xix 0 (a0c ↑i) 1) 1) (xln rx)) <|
 ck (isI .i32 (a0b rx (xix 0 (a0c ↑i) 1))) <|
 ck (xcm .eql (asI (a0b rx (xix 0 (a0c ↑i) 1))) (asI (a0b rx (xix 0 (a0c ↑i) 1)))) <|
 ck (xle (a0a (xix 0 (a0c ↑i) 1) 1) (xln wx)) <|
 ck (isB (a0b wx (xix 0 (a0c ↑i) 1))) <|
 ck (xbq (asB (a0b wx (xix 0 (a0c ↑i) 1))) (asB (a0b wx (xix 0 (a0c ↑i) 1)))) <|
 ck (xle (a0a (xix 0 (a0c ↑i) 1) 1) (xln wx)) <|
 ck (isB (a0b wx (xix 0 (a0c ↑i) 1))) <|
 ck (xbq (asB (a0b wx (xix 0 (a0c ↑i) 1))) (asB (a0b wx (xix 0 (a0c ↑i) 1)))) <|
 ck (xle (a0a (xix 0 (a0c ↑i) 1) 1) (xln wx)) <|
 ck (isB (a0b wx (xix 0 (a0c ↑i) 1))) <|
 ck (xbq (asB (a0b wx (xix 0 (a0c ↑i) 1))) (asB (a0b wx (xix 0 (a0c ↑i) 1)))) <|
 ck (xle (a0a (xix 0 (a0c ↑i) 1) 1) (xln wx)) <|
 ck (isB (a0b wx (xix 0 (a0c ↑i) 1))) <|
 ck (xbq (asB (a0b wx (xix 0 (a0c ↑i) 1))) (asB (a0b wx (xix 0 (a0c ↑i) 1)))) <|
 K .normal [.str s,.ptr 0 0,.int .i64 0,.int .i64 0,.int .i64 0,.ptr 1 0,.slo 3 0 nb 0,.slo 4 0 nj 0,.slo 5 0 na 0,.int .i64 ln,.slo 11 0 (a0a nk 1) 0,.slo 13 0 (a0a nk 1) 0,.slo 6 0 n 0,.slo 7 0 n 0,.int .i64 ↑i,.any,.any,.any,.any,.any,.bool true,.any] [sN [.nils],sN [.slo 2 0 ni 0],sC ax 5,sC bx 2,sC jx 4,sC kx 1,sC rx 1,sC wx 1,sD,sD,sN [.int .i32 (asI (a0b rx (xix 0 (a0c ↑i) 1)))],sC (a6n (a3o lx 0 (a1t nk 1)) [.int .i32 (asI (a0b rx (xix 0 (a0c ↑i) 1)))]) 1,sN [.bool (asB (a0b wx (xix 0 (a0c ↑i) 1)))],sC (a6n (a3o dx 0 (a1t nk 1)) [.bool (asB (a0b wx (xix 0 (a0c ↑i) 1)))]) 1] gt4)
 ∧ (
 (
 ck (xle (a0a (a0c ↑i) 1) n) <|
 ck (xle (a0a (xix 0 (a0c ↑i) 1) 1) (xln rx)) <|
 ck (isI .i32 (a0b rx (xix 0 (a0c ↑i) 1))) <|
 ck (xle (a0a (a0c ↑i) 1) n) <|
 ck (xle (a0a (xix 0 (a0c ↑i) 1) 1) (xln wx)) <|
 ck (isB (a0b wx (xix 0 (a0c ↑i) 1))) <|
 ck (xle (a0a nk 1) 1000000) <|
 ck (xle (a0a 0 (a1t nk 1)) (xln lx)) <|
 ck (xle (a0a nk 1) 1000000) <|
 ck (xle (a0a 0 (a1t nk 1)) (xln dx)) <|
 ck (xle (a0a (xix 0 (a0c ↑i) 1) 1) (xln rx)) <|
 ck (isI .i32 (a0b rx (xix 0 (a0c ↑i) 1))) <|
 ck (xcm .eql (asI (a0b rx (xix 0 (a0c ↑i) 1))) (asI (a0b rx (xix 0 (a0c ↑i) 1)))) <|
 ck (xle (a0a (xix 0 (a0c ↑i) 1) 1) (xln rx)) <|
 ck (isI .i32 (a0b rx (xix 0 (a0c ↑i) 1))) <|
 ck (xcm .eql (asI (a0b rx (xix 0 (a0c ↑i) 1))) (asI (a0b rx (xix 0 (a0c ↑i) 1)))) <|
 ck (xle (a0a (xix 0 (a0c ↑i) 1) 1) (xln wx)) <|
 ck (isB (a0b wx (xix 0 (a0c ↑i) 1))) <|
 ck (xbq (asB (a0b wx (xix 0 (a0c ↑i) 1))) (asB (a0b wx (xix 0 (a0c ↑i) 1)))) <|
 ck (xle (a0a (xix 0 (a0c ↑i) 1) 1) (xln wx)) <|
 ck (isB (a0b wx (xix 0 (a0c ↑i) 1))) <|
 ck (xbq (asB (a0b wx (xix 0 (a0c ↑i) 1))) (asB (a0b wx (xix 0 (a0c ↑i) 1)))) <|
 ck (xle (a0a (xix 0 (a0c ↑i) 1) 1) (xln wx)) <|
 ck (isB (a0b wx (xix 0 (a0c ↑i) 1))) <|
 ck (xbq (asB (a0b wx (xix 0 (a0c ↑i) 1))) (asB (a0b wx (xix 0 (a0c ↑i) 1)))) <|
 ck (xle (a0a (xix 0 (a0c ↑i) 1) 1) (xln wx)) <|
 ck (isB (a0b wx (xix 0 (a0c ↑i) 1))) <|
 ck (xbq (asB (a0b wx (xix 0 (a0c ↑i) 1))) (asB (a0b wx (xix 0 (a0c ↑i) 1)))) <|
 K .normal [.str s,.ptr 0 0,.int .i64 0,.int .i64 0,.int .i64 0,.ptr 1 0,.slo 3 0 nb 0,.slo 4 0 nj 0,.slo 5 0 na 0,.int .i64 ln,.slo 12 0 (a0a nk 1) 0,.slo 13 0 (a0a nk 1) 0,.slo 6 0 n 0,.slo 7 0 n 0,.int .i64 ↑i,.any,.any,.any,.any,.any,.bool true,.any] [sN [.nils],sN [.slo 2 0 ni 0],sC ax 5,sC bx 2,sC jx 4,sC kx 1,sC rx 1,sC wx 1,sD,sD,sN [.int .i32 (asI (a0b rx (xix 0 (a0c ↑i) 1)))],sN [.bool (asB (a0b wx (xix 0 (a0c ↑i) 1)))],sC (a6n (a3o lx 0 (a1t nk 1)) [.int .i32 (asI (a0b rx (xix 0 (a0c ↑i) 1)))]) 1,sC (a6n (a3o dx 0 (a1t nk 1)) [.bool (asB (a0b wx (xix 0 (a0c ↑i) 1)))]) 1] gt4)
 ∧ (
 ck (xle (a0a (a0c ↑i) 1) n) <|
 ck (xle (a0a (xix 0 (a0c ↑i) 1) 1) (xln wx)) <|
 ck (isB (a0b wx (xix 0 (a0c ↑i) 1))) <|
 ck (xle (a0a (a0c ↑i) 1) n) <|
 ck (xle (a0a (xix 0 (a0c ↑i) 1) 1) (xln rx)) <|
 ck (isI .i32 (a0b rx (xix 0 (a0c ↑i) 1))) <|
 ck (xle (a0a nk 1) 1000000) <|
 ck (xle (a0a 0 (a1t nk 1)) (xln lx)) <|
 ck (xle (a0a nk 1) 1000000) <|
 ck (xle (a0a 0 (a1t nk 1)) (xln dx)) <|
 ck (xle (a0a (xix 0 (a0c ↑i) 1) 1) (xln wx)) <|
 ck (isB (a0b wx (xix 0 (a0c ↑i) 1))) <|
 ck (xbq (asB (a0b wx (xix 0 (a0c ↑i) 1))) (asB (a0b wx (xix 0 (a0c ↑i) 1)))) <|
 ck (xle (a0a (xix 0 (a0c ↑i) 1) 1) (xln wx)) <|
 ck (isB (a0b wx (xix 0 (a0c ↑i) 1))) <|
 ck (xbq (asB (a0b wx (xix 0 (a0c ↑i) 1))) (asB (a0b wx (xix 0 (a0c ↑i) 1)))) <|
 ck (xle (a0a (xix 0 (a0c ↑i) 1) 1) (xln wx)) <|
 ck (isB (a0b wx (xix 0 (a0c ↑i) 1))) <|
 ck (xbq (asB (a0b wx (xix 0 (a0c ↑i) 1))) (asB (a0b wx (xix 0 (a0c ↑i) 1)))) <|
 ck (xle (a0a (xix 0 (a0c ↑i) 1) 1) (xln wx)) <|
 ck (isB (a0b wx (xix 0 (a0c ↑i) 1))) <|
 ck (xbq (asB (a0b wx (xix 0 (a0c ↑i) 1))) (asB (a0b wx (xix 0 (a0c ↑i) 1)))) <|
 ck (xle (a0a (xix 0 (a0c ↑i) 1) 1) (xln rx)) <|
 ck (isI .i32 (a0b rx (xix 0 (a0c ↑i) 1))) <|
 ck (xcm .eql (asI (a0b rx (xix 0 (a0c ↑i) 1))) (asI (a0b rx (xix 0 (a0c ↑i) 1)))) <|
 ck (xle (a0a (xix 0 (a0c ↑i) 1) 1) (xln rx)) <|
 ck (isI .i32 (a0b rx (xix 0 (a0c ↑i) 1))) <|
 ck (xcm .eql (asI (a0b rx (xix 0 (a0c ↑i) 1))) (asI (a0b rx (xix 0 (a0c ↑i) 1)))) <|
 K .normal [.str s,.ptr 0 0,.int .i64 0,.int .i64 0,.int .i64 0,.ptr 1 0,.slo 3 0 nb 0,.slo 4 0 nj 0,.slo 5 0 na 0,.int .i64 ln,.slo 12 0 (a0a nk 1) 0,.slo 13 0 (a0a nk 1) 0,.slo 6 0 n 0,.slo 7 0 n 0,.int .i64 ↑i,.any,.any,.any,.any,.any,.bool true,.any] [sN [.nils],sN [.slo 2 0 ni 0],sC ax 5,sC bx 2,sC jx 4,sC kx 1,sC rx 1,sC wx 1,sD,sD,sN [.bool (asB (a0b wx (xix 0 (a0c ↑i) 1)))],sN [.int .i32 (asI (a0b rx (xix 0 (a0c ↑i) 1)))],sC (a6n (a3o lx 0 (a1t nk 1)) [.int .i32 (asI (a0b rx (xix 0 (a0c ↑i) 1)))]) 1,sC (a6n (a3o dx 0 (a1t nk 1)) [.bool (asB (a0b wx (xix 0 (a0c ↑i) 1)))]) 1] gt4))):=by kernel_rfl
theorem g5z (s:List UInt8) (ni nb nj na nk n:Nat) (ln:Int) (i:Nat) (ax bx jx kx rx wx lx dx:List LV) (K:Pk):(xsp prog c0b 60 228 (pmD.drop 1) (a1p 228 (pmT s nb nj na nk n ln i)) (mkS (pmH ni ax bx jx kx rx wx lx dx) gt4) (vK paX K))=(
 K (.exit 1) [.str s,.ptr 0 0,.int .i64 0,.int .i64 0,.int .i64 0,.ptr 1 0,.slo 3 0 nb 0,.slo 4 0 nj 0,.slo 5 0 na 0,.int .i64 ln,.slo 8 0 nk 0,.slo 9 0 nk 0,.slo 6 0 n 0,.slo 7 0 n 0,.int .i64 ↑i,.any,.any,.any,.any,.any,.any,.any] [sN [.nils],sN [.slo 2 0 ni 0],sC ax 5,sC bx 2,sC jx 4,sC kx 1,sC rx 1,sC wx 1,sC lx 1,sC dx 1] gt4):=by kernel_rfl
theorem g5y (s:List UInt8) (ni nb nj na nk n:Nat) (ln:Int) (i:Nat) (ax bx jx kx rx wx lx dx:List LV) (K:Pk):(a1h prog c0b 60 228 (c2s (a4i pmC 1)) (a1p 228 (pmT s nb nj na nk n ln i++[(49,.bool false)])) (mkS (pmH ni ax bx jx kx rx wx lx dx) gt4) (vK paX K))=(
 K .normal [.str s,.ptr 0 0,.int .i64 0,.int .i64 0,.int .i64 0,.ptr 1 0,.slo 3 0 nb 0,.slo 4 0 nj 0,.slo 5 0 na 0,.int .i64 ln,.slo 8 0 nk 0,.slo 9 0 nk 0,.slo 6 0 n 0,.slo 7 0 n 0,.int .i64 ↑i,.any,.any,.any,.any,.any,.bool false,.any] [sN [.nils],sN [.slo 2 0 ni 0],sC ax 5,sC bx 2,sC jx 4,sC kx 1,sC rx 1,sC wx 1,sC lx 1,sC dx 1] gt4):=by kernel_rfl
theorem g6i (s:List UInt8) (ni nb nj na nk n:Nat) (ln:Int) (i:Nat) (ax bx jx kx rx wx lx dx:List LV) (K:Pk):(xsp prog c0b 60 228 (seg pmC 2 5) (a1p 228 (pmT s nb nj na nk n ln i)) (mkS (pmH ni ax bx jx kx rx wx lx dx) gt4) (vK paX K))=(
 bif xcm .eql ↑i ↑n then(
 bif xcm .eql (↑nk) 0 then(
 K (.exit 0) [.str s,.ptr 0 0,.int .i64 0,.int .i64 0,.int .i64 0,.ptr 1 0,.slo 3 0 nb 0,.slo 4 0 nj 0,.slo 5 0 na 0,.int .i64 (xar .add .i64 ln 1),.slo 8 0 nk 0,.slo 9 0 nk 0,.slo 6 0 n 0,.slo 7 0 n 0,.int .i64 ↑i,.any,.any,.any,.any,.any,.any,.any] [sN [.nils],sN [.slo 2 0 ni 0],sC ax 5,sC bx 2,sC jx 4,sC kx 1,sC rx 1,sC wx 1,sC lx 1,sC dx 1] gt4)
 else(
 ck (d8o nk nk lx dx) <|
 K .normal [.str s,.ptr 0 0,.int .i64 0,.int .i64 0,.int .i64 0,.ptr 1 0,.slo 3 0 nb 0,.slo 4 0 nj 0,.slo 5 0 na 0,.int .i64 (xar .add .i64 ln 1),.nils,.nils,.slo 6 0 n 0,.slo 7 0 n 0,.int .i64 ↑i,.slo 10 0 (cuN (xar .add .i64 ln 1) lx dx) 0,.int .i64 (cuZ lx dx),.any,.any,.any,.any,.any] [sN [.nils],sN [.slo 2 0 ni 0],sC ax 5,sC bx 2,sC jx 4,sC kx 1,sC rx 1,sC wx 1,sC lx 1,sC dx 1,sC (cuX (xar .add .i64 ln 1) lx dx) 4] gt4))
 else(
 ck (d8o nk nk lx dx) <|
 K .normal [.str s,.ptr 0 0,.int .i64 0,.int .i64 0,.int .i64 0,.ptr 1 0,.slo 3 0 nb 0,.slo 4 0 nj 0,.slo 5 0 na 0,.int .i64 (xar .add .i64 ln 1),.nils,.nils,.slo 6 0 n 0,.slo 7 0 n 0,.int .i64 ↑i,.slo 10 0 (cuN (xar .add .i64 ln 1) lx dx) 0,.int .i64 (cuZ lx dx),.any,.any,.any,.any,.any] [sN [.nils],sN [.slo 2 0 ni 0],sC ax 5,sC bx 2,sC jx 4,sC kx 1,sC rx 1,sC wx 1,sC lx 1,sC dx 1,sC (cuX (xar .add .i64 ln 1) lx dx) 4] gt4)):=by kernel_rfl
abbrev b3f (ni:Nat) (ax:List LV) (bx:List LV) (jx:List LV) (kx:List LV) (rx:List LV) (wx:List LV) (vx:List LV):List (Option LB):=[sN [.nils],sN [.slo 2 0 ni 0],sC ax 5,sC bx 2,sC jx 4,sC kx 1,sC rx 1,sC wx 1,sC vx 4]
theorem g6h (s:List UInt8) (ni nb nj na n:Nat) (ln:Int) (i m:Nat) (e:Int) (ax bx jx kx rx wx vx:List LV) (K:Pk):(xsp prog c0b 60 228 (seg pmC 7 2) (a1p 228 (pmU s nb nj na n ln i 0 m e)) (mkS (pmK ni ax bx jx kx rx wx vx) gt4) (vK paX K))=(
 bif xcm .gtr (↑m) 0 then(
 ck (xle 1 m) <|
 ck (xle 1 (xln vx)) <|
 ck (isS (a0b vx 0)) <|
 bif xcm .gtr (↑(a0z (asS (a0b vx 0)))) 0 then(
 ck (xle 1 m) <|
 ck (xle 1 (xln vx)) <|
 ck (isS (a0b vx 0)) <|
 ck (xle 1 m) <|
 ck (xle 1 (xln vx)) <|
 ck (isS (a0b vx 0)) <|
 ck (xnn (xar .sub .i64 (↑(a0z (asS (a0b vx 0)))) 1)) <|
 ck (xle (a0a (a0c (xar .sub .i64 (↑(a0z (asS (a0b vx 0)))) 1)) 1) (a0z (asS (a0b vx 0)))) <|
 bif xcm .eql (a1i (asS (a0b vx 0)) (a0c (xar .sub .i64 (↑(a0z (asS (a0b vx 0)))) 1))) 58 then(
 ck (xle 1 m) <|
 ck (xle 1 (xln vx)) <|
 ck (isS (a0b vx 0)) <|
 ck (xle 1 m) <|
 ck (xle 1 (xln vx)) <|
 ck (isS (a0b vx 0)) <|
 ck (xnn (xar .sub .i64 (↑(a0z (asS (a0b vx 0)))) 1)) <|
 ck (xle (a0c (xar .sub .i64 (↑(a0z (asS (a0b vx 0)))) 1)) (a0z (asS (a0b vx 0)))) <|
 ck (xle 1 m) <|
 ck (xle 4 (xln vx)) <|
 ck (isB (a0b vx 3)) <|
 bif asB (a0b vx 3) then(
 ck (xle 1 m) <|
 ck (xle 3 (xln vx)) <|
 ck (isI .i64 (a0b vx 2)) <|
 ck (xle 3 (xln vx)) <|
 ck (isI .i64 (a0b vx 2)) <|
 ck (xcm .eql (asI (a0b vx 2)) (asI (a0b vx 2))) <|
 ck (xle 3 (xln vx)) <|
 ck (isI .i64 (a0b vx 2)) <|
 ck (xcm .eql (asI (a0b vx 2)) (asI (a0b vx 2))) <|
 K .ret [.str s,.ptr 0 0,.int .i64 ln,.int .i64 (asI (a0b vx 2)),.int .i64 12,.ptr 1 0,.slo 3 0 nb 0,.slo 4 0 nj 0,.slo 5 0 na 0,.int .i64 ln,.nils,.nils,.slo 6 0 n 0,.slo 7 0 n 0,.int .i64 ↑i,.slo 8 0 m 0,.int .i64 e,.any,.any,.any,.any,.any] (b3f ni ax bx jx kx rx wx vx) gt4)
 else(
 ck (xle (a0z (a0v (asS (a0b vx 0)) 0 (a0c (xar .sub .i64 (↑(a0z (asS (a0b vx 0)))) 1)))) 1000000000) <|
 bif a3i (a9l (a0v (asS (a0b vx 0)) 0 (a0c (xar .sub .i64 (↑(a0z (asS (a0b vx 0)))) 1)))) then(
 ck (xle 1 m) <|
 ck (xle 3 (xln vx)) <|
 ck (isI .i64 (a0b vx 2)) <|
 ck (xle 3 (xln vx)) <|
 ck (isI .i64 (a0b vx 2)) <|
 ck (xcm .eql (asI (a0b vx 2)) (asI (a0b vx 2))) <|
 ck (xle 3 (xln vx)) <|
 ck (isI .i64 (a0b vx 2)) <|
 ck (xcm .eql (asI (a0b vx 2)) (asI (a0b vx 2))) <|
 K .ret [.str s,.ptr 0 0,.int .i64 ln,.int .i64 (asI (a0b vx 2)),.int .i64 12,.ptr 1 0,.slo 3 0 nb 0,.slo 4 0 nj 0,.slo 5 0 na 0,.int .i64 ln,.nils,.nils,.slo 6 0 n 0,.slo 7 0 n 0,.int .i64 ↑i,.slo 8 0 m 0,.int .i64 e,.any,.any,.any,.any,.any] (b3f ni ax bx jx kx rx wx vx) gt4)
 else(
 ck (d4l nb bx) <|
 bif xcm .geq (xfW bx (a0v (asS (a0b vx 0)) 0 (a0c (xar .sub .i64 (↑(a0z (asS (a0b vx 0)))) 1)))) 0 then(
 ck (xle 1 m) <|
 ck (xle 3 (xln vx)) <|
 ck (isI .i64 (a0b vx 2)) <|
 ck (xle 3 (xln vx)) <|
 ck (isI .i64 (a0b vx 2)) <|
 ck (xcm .eql (asI (a0b vx 2)) (asI (a0b vx 2))) <|
 ck (xle 3 (xln vx)) <|
 ck (isI .i64 (a0b vx 2)) <|
 ck (xcm .eql (asI (a0b vx 2)) (asI (a0b vx 2))) <|
 K .ret [.str s,.ptr 0 0,.int .i64 ln,.int .i64 (asI (a0b vx 2)),.int .i64 12,.ptr 1 0,.slo 3 0 nb 0,.slo 4 0 nj 0,.slo 5 0 na 0,.int .i64 ln,.nils,.nils,.slo 6 0 n 0,.slo 7 0 n 0,.int .i64 ↑i,.slo 8 0 m 0,.int .i64 e,.any,.any,.any,.any,.any] (b3f ni ax bx jx kx rx wx vx) gt4)
 else(
 ck (xle (a0a nb 1) 1000000) <|
 ck (xle (a0a 0 (a1t nb 2)) (xln bx)) <|
 ck (xle 1 m) <|
 ck (xle m m) <|
 K .normal [.str s,.ptr 0 0,.int .i64 0,.int .i64 0,.int .i64 0,.ptr 1 0,.slo 10 0 (a0a nb 1) 0,.slo 4 0 nj 0,.slo 5 0 na 0,.int .i64 ln,.nils,.nils,.slo 6 0 n 0,.slo 7 0 n 0,.int .i64 ↑i,.slo 8 4 (c3g m 1) 1,.int .i64 e,.any,.any,.any,.any,.any] [sN [.nils],sN [.slo 2 0 ni 0],sC ax 5,sD,sC jx 4,sC kx 1,sC rx 1,sC wx 1,sC vx 4,sN [.str (a0v (asS (a0b vx 0)) 0 (a0c (xar .sub .i64 (↑(a0z (asS (a0b vx 0)))) 1))),.int .i64 ↑ni],sC (a6n (a3o bx 0 (a1t nb 2)) [.str (a0v (asS (a0b vx 0)) 0 (a0c (xar .sub .i64 (↑(a0z (asS (a0b vx 0)))) 1))),.int .i64 ↑ni]) 2] gt4))))
 else(
 K .normal [.str s,.ptr 0 0,.int .i64 0,.int .i64 0,.int .i64 0,.ptr 1 0,.slo 3 0 nb 0,.slo 4 0 nj 0,.slo 5 0 na 0,.int .i64 ln,.nils,.nils,.slo 6 0 n 0,.slo 7 0 n 0,.int .i64 ↑i,.slo 8 0 m 0,.int .i64 e,.any,.any,.any,.any,.any] (b3f ni ax bx jx kx rx wx vx) gt4))
 else(
 K .normal [.str s,.ptr 0 0,.int .i64 0,.int .i64 0,.int .i64 0,.ptr 1 0,.slo 3 0 nb 0,.slo 4 0 nj 0,.slo 5 0 na 0,.int .i64 ln,.nils,.nils,.slo 6 0 n 0,.slo 7 0 n 0,.int .i64 ↑i,.slo 8 0 m 0,.int .i64 e,.any,.any,.any,.any,.any] (b3f ni ax bx jx kx rx wx vx) gt4))
 else(
 K .normal [.str s,.ptr 0 0,.int .i64 0,.int .i64 0,.int .i64 0,.ptr 1 0,.slo 3 0 nb 0,.slo 4 0 nj 0,.slo 5 0 na 0,.int .i64 ln,.nils,.nils,.slo 6 0 n 0,.slo 7 0 n 0,.int .i64 ↑i,.slo 8 0 m 0,.int .i64 e,.any,.any,.any,.any,.any] (b3f ni ax bx jx kx rx wx vx) gt4)):=by kernel_rfl
abbrev d0u (ni:Nat) (ax:List LV) (bx:List LV) (jx:List LV) (kx:List LV) (rx:List LV) (wx:List LV) (vx:List LV):List (Option LB):=[sN [.nils],sN [.slo 2 0 ni 0],sC ax 5,sC bx 2,sC jx 4,sC kx 1,sC rx 1,sC wx 1,sC vx 4]
theorem g6f (s:List UInt8) (ni nb nj na n:Nat) (ln:Int) (i o m:Nat) (e:Int) (ax bx jx kx rx wx vx:List LV) (K:Pk):(xsp prog c0b 60 228 (seg pmC 9 2) (a1p 228 (pmU s nb nj na n ln i o m e)) (mkS (pmK ni ax bx jx kx rx wx vx) gt4) (vK paX K))=(
 bif xcm .eql (↑m) 0 then(
 K (.exit 1) [.str s,.ptr 0 0,.int .i64 0,.int .i64 0,.int .i64 0,.ptr 1 0,.slo 3 0 nb 0,.slo 4 0 nj 0,.slo 5 0 na 0,.int .i64 ln,.nils,.nils,.slo 6 0 n 0,.slo 7 0 n 0,.int .i64 ↑i,.slo 8 o m 0,.int .i64 e,.any,.any,.any,.any,.any] (d0u ni ax bx jx kx rx wx vx) gt4)
 else(
 K .normal [.str s,.ptr 0 0,.int .i64 0,.int .i64 0,.int .i64 0,.ptr 1 0,.slo 3 0 nb 0,.slo 4 0 nj 0,.slo 5 0 na 0,.int .i64 ln,.nils,.nils,.slo 6 0 n 0,.slo 7 0 n 0,.int .i64 ↑i,.slo 8 o m 0,.int .i64 e,.any,.any,.any,.any,.any] (d0u ni ax bx jx kx rx wx vx) gt4)):=by kernel_rfl
abbrev c4g (ni:Nat) (ln:Int) (o:Nat) (e:Int) (ax:List LV) (bx:List LV) (jx:List LV) (kx:List LV) (rx:List LV) (wx:List LV) (vx:List LV):List (Option LB):=[sN [.nils],sN [.slo 2 0 ni 0],sC ax 5,sC bx 2,sC jx 4,sC kx 1,sC rx 1,sC wx 1,sC vx 4,sN [.int .i64 (f0v o vx e ln ↑ni),.int .i64 (iiA o vx e ln ↑ni),.int .i64 (iiB o vx e ln ↑ni),.int .i64 (iiC o vx e ln ↑ni),.int .u64 (iiN o vx e ln ↑ni)],sN [.str (d9f o vx e ln ↑ni),.int .i64 (f0w o vx e ln ↑ni),.int .i64 (f0x o vx e ln ↑ni),.bool (f0y o vx e ln ↑ni)],sN [.int .i64 (d2f o vx e ln ↑ni),.int .i64 (d2g o vx e ln ↑ni),.int .i64 (c8t o vx e ln ↑ni)]]
theorem g6e (s:List UInt8) (ni nb nj na n:Nat) (ln:Int) (i o m:Nat) (e:Int) (ax bx jx kx rx wx vx:List LV) (K:Pk):(xsp prog c0b 60 228 (seg pmC 11 4) (a1p 228 (pmU s nb nj na n ln i o m e)) (mkS (pmK ni ax bx jx kx rx wx vx) gt4) (vK paX K))=(
 ck (b6j b8t) <|
 ck (f0s o m vx) <|
 bif xcm .neq (c8t o vx e ln ↑ni) 0 then(
 ck (xcm .eql (d2f o vx e ln ↑ni) (d2f o vx e ln ↑ni)) <|
 ck (xcm .eql (d2f o vx e ln ↑ni) (d2f o vx e ln ↑ni)) <|
 ck (xcm .eql (d2g o vx e ln ↑ni) (d2g o vx e ln ↑ni)) <|
 ck (xcm .eql (d2g o vx e ln ↑ni) (d2g o vx e ln ↑ni)) <|
 ck (xcm .eql (c8t o vx e ln ↑ni) (c8t o vx e ln ↑ni)) <|
 ck (xcm .eql (c8t o vx e ln ↑ni) (c8t o vx e ln ↑ni)) <|
 K .ret [.str s,.ptr 0 0,.int .i64 (d2f o vx e ln ↑ni),.int .i64 (d2g o vx e ln ↑ni),.int .i64 (c8t o vx e ln ↑ni),.ptr 1 0,.slo 3 0 nb 0,.slo 4 0 nj 0,.slo 5 0 na 0,.int .i64 ln,.nils,.nils,.slo 6 0 n 0,.slo 7 0 n 0,.int .i64 ↑i,.slo 8 o m 0,.int .i64 e,.ptr 9 0,.ptr 10 0,.any,.any,.any] (c4g ni ln o e ax bx jx kx rx wx vx) gt4)
 else(
 K .normal [.str s,.ptr 0 0,.int .i64 0,.int .i64 0,.int .i64 0,.ptr 1 0,.slo 3 0 nb 0,.slo 4 0 nj 0,.slo 5 0 na 0,.int .i64 ln,.nils,.nils,.slo 6 0 n 0,.slo 7 0 n 0,.int .i64 ↑i,.slo 8 o m 0,.int .i64 e,.ptr 9 0,.ptr 10 0,.any,.any,.bool (a3h .neq (d9f o vx e ln ↑ni) [])] (c4g ni ln o e ax bx jx kx rx wx vx) gt4)):=by kernel_rfl
theorem g5x (s:List UInt8) (ni nb nj na n:Nat) (ln:Int) (i o m:Nat) (e:Int) (xo xa xb xc xn:Int) (js:List UInt8) (jl jc:Int) (jb:Bool) (ax bx jx kx rx wx vx:List LV) (K:Pk):(b8e prog c0b 60 228 (a4i pmE 0) (a1p 228 (pmU s nb nj na n ln i o m e++[(19,.ptr 9 0),(20,.ptr 10 0),(175,.bool true)])) (mkS (pmK ni ax bx jx kx rx wx vx++[.cells [.int .i64 xo,.int .i64 xa,.int .i64 xb,.int .i64 xc,.int .u64 xn] none,.cells [.str js,.int .i64 jl,.int .i64 jc,.bool jb] none]) gt4) (vK paX K))=(
 (
 ck (xle (a0a nj 1) 1000000) <|
 ck (xle (a0a 0 (a1t nj 4)) (xln jx)) <|
 ck (xle (a0a na 1) 1000000) <|
 ck (xle (a0a 0 (a1t na 1)) (xln kx)) <|
 ck (a3h .eql js js) <|
 ck (xcm .eql jl jl) <|
 ck (xcm .eql jc jc) <|
 ck (xbq jb jb) <|
 ck (a3h .eql js js) <|
 ck (xcm .eql jl jl) <|
 ck (xcm .eql jc jc) <|
 ck (xbq jb jb) <|
 ck (xeq ni ni) <|
 ck (xeq ni ni) <|
 ck (xeq ni ni) <|
 ck (xeq ni ni) <|
 K .normal [.str s,.ptr 0 0,.int .i64 0,.int .i64 0,.int .i64 0,.ptr 1 0,.slo 3 0 nb 0,.slo 12 0 (a0a nj 1) 0,.slo 14 0 (a0a na 1) 0,.int .i64 ln,.nils,.nils,.slo 6 0 n 0,.slo 7 0 n 0,.int .i64 ↑i,.slo 8 o m 0,.int .i64 e,.ptr 9 0,.ptr 10 0,.any,.any,.bool true] [sN [.nils],sN [.slo 2 0 ni 0],sC ax 5,sC bx 2,sD,sD,sC rx 1,sC wx 1,sC vx 4,sN [.int .i64 xo,.int .i64 xa,.int .i64 xb,.int .i64 xc,.int .u64 xn],sN [.str js,.int .i64 jl,.int .i64 jc,.bool jb],sN [.str js,.int .i64 jl,.int .i64 jc,.bool jb],sC (a6n (a3o jx 0 (a1t nj 4)) [.str js,.int .i64 jl,.int .i64 jc,.bool jb]) 4,sN [.int .i64 ↑ni],sC (a6n (a3o kx 0 (a1t na 1)) [.int .i64 ↑ni]) 1] gt4)
 ∧ (
 (
 ck (xle (a0a nj 1) 1000000) <|
 ck (xle (a0a 0 (a1t nj 4)) (xln jx)) <|
 ck (xle (a0a na 1) 1000000) <|
 ck (xle (a0a 0 (a1t na 1)) (xln kx)) <|
 ck (a3h .eql js js) <|
 ck (xcm .eql jl jl) <|
 ck (xcm .eql jc jc) <|
 ck (xbq jb jb) <|
 ck (a3h .eql js js) <|
 ck (xcm .eql jl jl) <|
 ck (xcm .eql jc jc) <|
 ck (xbq jb jb) <|
 ck (xeq ni ni) <|
 ck (xeq ni ni) <|
 ck (xeq ni ni) <|
 ck (xeq ni ni) <|
 K .normal [.str s,.ptr 0 0,.int .i64 0,.int .i64 0,.int .i64 0,.ptr 1 0,.slo 3 0 nb 0,.slo 13 0 (a0a nj 1) 0,.slo 14 0 (a0a na 1) 0,.int .i64 ln,.nils,.nils,.slo 6 0 n 0,.slo 7 0 n 0,.int .i64 ↑i,.slo 8 o m 0,.int .i64 e,.ptr 9 0,.ptr 10 0,.any,.any,.bool true] [sN [.nils],sN [.slo 2 0 ni 0],sC ax 5,sC bx 2,sD,sD,sC rx 1,sC wx 1,sC vx 4,sN [.int .i64 xo,.int .i64 xa,.int .i64 xb,.int .i64 xc,.int .u64 xn],sN [.str js,.int .i64 jl,.int .i64 jc,.bool jb],sN [.str js,.int .i64 jl,.int .i64 jc,.bool jb],sN [.int .i64 ↑ni],sC (a6n (a3o jx 0 (a1t nj 4)) [.str js,.int .i64 jl,.int .i64 jc,.bool jb]) 4,sC (a6n (a3o kx 0 (a1t na 1)) [.int .i64 ↑ni]) 1] gt4)
 ∧ (
 ck (xle (a0a nj 1) 1000000) <|
 ck (xle (a0a 0 (a1t nj 4)) (xln jx)) <|
 ck (xle (a0a na 1) 1000000) <|
 ck (xle (a0a 0 (a1t na 1)) (xln kx)) <|
 ck (xeq ni ni) <|
 ck (xeq ni ni) <|
 ck (xeq ni ni) <|
 ck (xeq ni ni) <|
 ck (a3h .eql js js) <|
 ck (xcm .eql jl jl) <|
 ck (xcm .eql jc jc) <|
 ck (xbq jb jb) <|
 ck (a3h .eql js js) <|
 ck (xcm .eql jl jl) <|
 ck (xcm .eql jc jc) <|
 ck (xbq jb jb) <|
 K .normal [.str s,.ptr 0 0,.int .i64 0,.int .i64 0,.int .i64 0,.ptr 1 0,.slo 3 0 nb 0,.slo 13 0 (a0a nj 1) 0,.slo 14 0 (a0a na 1) 0,.int .i64 ln,.nils,.nils,.slo 6 0 n 0,.slo 7 0 n 0,.int .i64 ↑i,.slo 8 o m 0,.int .i64 e,.ptr 9 0,.ptr 10 0,.any,.any,.bool true] [sN [.nils],sN [.slo 2 0 ni 0],sC ax 5,sC bx 2,sD,sD,sC rx 1,sC wx 1,sC vx 4,sN [.int .i64 xo,.int .i64 xa,.int .i64 xb,.int .i64 xc,.int .u64 xn],sN [.str js,.int .i64 jl,.int .i64 jc,.bool jb],sN [.int .i64 ↑ni],sN [.str js,.int .i64 jl,.int .i64 jc,.bool jb],sC (a6n (a3o jx 0 (a1t nj 4)) [.str js,.int .i64 jl,.int .i64 jc,.bool jb]) 4,sC (a6n (a3o kx 0 (a1t na 1)) [.int .i64 ↑ni]) 1] gt4))):=by kernel_rfl
theorem g5w (s:List UInt8) (ni nb nj na n:Nat) (ln:Int) (i o m:Nat) (e:Int) (xo xa xb xc xn:Int) (js:List UInt8) (jl jc:Int) (jb:Bool) (ax bx jx kx rx wx vx:List LV) (K:Pk):(a1h prog c0b 60 228 (c2s (a4i pmC 15)) (a1p 228 (pmU s nb nj na n ln i o m e++[(19,.ptr 9 0),(20,.ptr 10 0),(175,.bool false)])) (mkS (pmK ni ax bx jx kx rx wx vx++[.cells [.int .i64 xo,.int .i64 xa,.int .i64 xb,.int .i64 xc,.int .u64 xn] none,.cells [.str js,.int .i64 jl,.int .i64 jc,.bool jb] none]) gt4) (vK paX K))=(
 K .normal [.str s,.ptr 0 0,.int .i64 0,.int .i64 0,.int .i64 0,.ptr 1 0,.slo 3 0 nb 0,.slo 4 0 nj 0,.slo 5 0 na 0,.int .i64 ln,.nils,.nils,.slo 6 0 n 0,.slo 7 0 n 0,.int .i64 ↑i,.slo 8 o m 0,.int .i64 e,.ptr 9 0,.ptr 10 0,.any,.any,.bool false] [sN [.nils],sN [.slo 2 0 ni 0],sC ax 5,sC bx 2,sC jx 4,sC kx 1,sC rx 1,sC wx 1,sC vx 4,sN [.int .i64 xo,.int .i64 xa,.int .i64 xb,.int .i64 xc,.int .u64 xn],sN [.str js,.int .i64 jl,.int .i64 jc,.bool jb]] gt4):=by kernel_rfl
theorem g5v (s:List UInt8) (ni nb nj na n:Nat) (ln:Int) (i o m:Nat) (e:Int) (xo xa xb xc xn:Int) (js:List UInt8) (jl jc:Int) (jb:Bool) (ax bx jx kx rx wx vx:List LV) (K:Pk):(xsp prog c0b 60 228 (pmC.drop 16) (a1p 228 (pmU s nb nj na n ln i o m e++[(19,.ptr 9 0),(20,.ptr 10 0)])) (mkS (pmK ni ax bx jx kx rx wx vx++[.cells [.int .i64 xo,.int .i64 xa,.int .i64 xb,.int .i64 xc,.int .u64 xn] none,.cells [.str js,.int .i64 jl,.int .i64 jc,.bool jb] none]) gt4) (vK paX K))=(
 ck (xle (a0a ni 1) 1000000) <|
 ck (xle (a0a 0 (a1t ni 5)) (xln ax)) <|
 K .normal [.str s,.ptr 0 0,.int .i64 0,.int .i64 0,.int .i64 0,.ptr 1 0,.slo 3 0 nb 0,.slo 4 0 nj 0,.slo 5 0 na 0,.int .i64 ln,.nils,.nils,.slo 6 0 n 0,.slo 7 0 n 0,.int .i64 ↑i,.slo 8 o m 0,.int .i64 e,.ptr 9 0,.ptr 10 0,.any,.any,.any] [sN [.nils],sN [.slo 12 0 (a0a ni 1) 0],sD,sC bx 2,sC jx 4,sC kx 1,sC rx 1,sC wx 1,sC vx 4,sN [.int .i64 xo,.int .i64 xa,.int .i64 xb,.int .i64 xc,.int .u64 xn],sN [.str js,.int .i64 jl,.int .i64 jc,.bool jb],sN [.int .i64 xo,.int .i64 xa,.int .i64 xb,.int .i64 xc,.int .u64 xn],sC (a6n (a3o ax 0 (a1t ni 5)) [.int .i64 xo,.int .i64 xa,.int .i64 xb,.int .i64 xc,.int .u64 xn]) 5] gt4):=by kernel_rfl
theorem g6d (s:List UInt8) (ni nb nj na nk n:Nat) (ln:Int) (i:Nat) (ax bx jx kx rx wx lx dx:List LV) (K:Pk):(xsp prog c0b 60 228 (pmB.drop 3) (a1p 228 (pmT s nb nj na nk n ln i)) (mkS (pmH ni ax bx jx kx rx wx lx dx) gt4) (vK paX K))=(
 K .normal [.str s,.ptr 0 0,.int .i64 0,.int .i64 0,.int .i64 0,.ptr 1 0,.slo 3 0 nb 0,.slo 4 0 nj 0,.slo 5 0 na 0,.int .i64 ln,.slo 8 0 nk 0,.slo 9 0 nk 0,.slo 6 0 n 0,.slo 7 0 n 0,.int .i64 (xar .add .i64 (↑i) 1),.any,.any,.any,.any,.any,.any,.any] [sN [.nils],sN [.slo 2 0 ni 0],sC ax 5,sC bx 2,sC jx 4,sC kx 1,sC rx 1,sC wx 1,sC lx 1,sC dx 1] gt4):=by kernel_rfl
theorem g6c (s:List UInt8) (ni nb nj na nk n:Nat) (ln:Int) (i:Nat) (ax bx jx kx rx wx lx dx:List LV) (K:Pk):(xsp prog c0b 60 228 (seg (sp prog 18) 14 1) (a1p 228 (pmT s nb nj na nk n ln i)) (mkS (pmH ni ax bx jx kx rx wx lx dx) gt4) (vK paX K))=(
 K .normal [.str s,.ptr 0 0,.int .i64 0,.int .i64 0,.int .i64 0,.ptr 1 0,.slo 3 0 nb 0,.slo 4 0 nj 0,.slo 5 0 na 0,.int .i64 ln,.slo 8 0 nk 0,.slo 9 0 nk 0,.slo 6 0 n 0,.slo 7 0 n 0,.int .i64 ↑i,.any,.any,.any,.any,.int .i64 0,.any,.any] [sN [.nils],sN [.slo 2 0 ni 0],sC ax 5,sC bx 2,sC jx 4,sC kx 1,sC rx 1,sC wx 1,sC lx 1,sC dx 1] gt4):=by kernel_rfl
theorem g6b (s:List UInt8) (ni nb nj na:Nat) (i:Nat) (ax bx jx kx:List LV) (K:Pk):(a1h prog c0b 60 228 (a1w (a4i (sp prog 18) 15)) (a1p 228 (pmZ s nb nj na i)) (mkS (pmY ni ax bx jx kx) gt4) (vK paX K))=(
 bif xcm .lss ↑i ↑nj then(
 ck (xle (a0a (a0c ↑i) 1) nj) <|
 ck (xle (a0a (xix 0 (a0c ↑i) 4) 1) (xln jx)) <|
 ck (isS (a0b jx (xix 0 (a0c ↑i) 4))) <|
 ck (d4l nb bx) <|
 bif xcm .lss (xfW bx (asS (a0b jx (xix 0 (a0c ↑i) 4)))) 0 then(
 ck (xle (a0a (a0c ↑i) 1) nj) <|
 ck (xle (a0a (a0a (xix 0 (a0c ↑i) 4) 1) 1) (xln jx)) <|
 ck (isI .i64 (a0b jx (a0a (xix 0 (a0c ↑i) 4) 1))) <|
 ck (xle (a0a (a0c ↑i) 1) nj) <|
 ck (xle (a0a (a0a (xix 0 (a0c ↑i) 4) 2) 1) (xln jx)) <|
 ck (isI .i64 (a0b jx (a0a (xix 0 (a0c ↑i) 4) 2))) <|
 ck (xle (a0a (a0a (xix 0 (a0c ↑i) 4) 1) 1) (xln jx)) <|
 ck (isI .i64 (a0b jx (a0a (xix 0 (a0c ↑i) 4) 1))) <|
 ck (xcm .eql (asI (a0b jx (a0a (xix 0 (a0c ↑i) 4) 1))) (asI (a0b jx (a0a (xix 0 (a0c ↑i) 4) 1)))) <|
 ck (xle (a0a (a0a (xix 0 (a0c ↑i) 4) 1) 1) (xln jx)) <|
 ck (isI .i64 (a0b jx (a0a (xix 0 (a0c ↑i) 4) 1))) <|
 ck (xcm .eql (asI (a0b jx (a0a (xix 0 (a0c ↑i) 4) 1))) (asI (a0b jx (a0a (xix 0 (a0c ↑i) 4) 1)))) <|
 ck (xle (a0a (a0a (xix 0 (a0c ↑i) 4) 2) 1) (xln jx)) <|
 ck (isI .i64 (a0b jx (a0a (xix 0 (a0c ↑i) 4) 2))) <|
 ck (xcm .eql (asI (a0b jx (a0a (xix 0 (a0c ↑i) 4) 2))) (asI (a0b jx (a0a (xix 0 (a0c ↑i) 4) 2)))) <|
 ck (xle (a0a (a0a (xix 0 (a0c ↑i) 4) 2) 1) (xln jx)) <|
 ck (isI .i64 (a0b jx (a0a (xix 0 (a0c ↑i) 4) 2))) <|
 ck (xcm .eql (asI (a0b jx (a0a (xix 0 (a0c ↑i) 4) 2))) (asI (a0b jx (a0a (xix 0 (a0c ↑i) 4) 2)))) <|
 K .ret [.str s,.ptr 0 0,.int .i64 (asI (a0b jx (a0a (xix 0 (a0c ↑i) 4) 1))),.int .i64 (asI (a0b jx (a0a (xix 0 (a0c ↑i) 4) 2))),.int .i64 12,.ptr 1 0,.slo 3 0 nb 0,.slo 4 0 nj 0,.slo 5 0 na 0,.any,.any,.any,.any,.any,.any,.any,.any,.any,.any,.int .i64 ↑i,.any,.any] [sN [.nils],sN [.slo 2 0 ni 0],sC ax 5,sC bx 2,sC jx 4,sC kx 1] gt4)
 else(
 ck (xle (a0a (a0c ↑i) 1) na) <|
 ck (xle (a0a (xix 0 (a0c ↑i) 1) 1) (xln kx)) <|
 ck (isI .i64 (a0b kx (xix 0 (a0c ↑i) 1))) <|
 ck (xnn (asI (a0b kx (xix 0 (a0c ↑i) 1)))) <|
 ck (xle (a0a (a0c (asI (a0b kx (xix 0 (a0c ↑i) 1)))) 1) ni) <|
 ck (xle (a0a (a0a (xix 0 (a0c (asI (a0b kx (xix 0 (a0c ↑i) 1)))) 5) 3) 1) (xln ax)) <|
 K .normal [.str s,.ptr 0 0,.int .i64 0,.int .i64 0,.int .i64 0,.ptr 1 0,.slo 3 0 nb 0,.slo 4 0 nj 0,.slo 5 0 na 0,.any,.any,.any,.any,.any,.any,.any,.any,.any,.any,.int .i64 (xar .add .i64 (↑i) 1),.any,.any] [sN [.nils],sN [.slo 2 0 ni 0],sC (b7d ax (a0a (xix 0 (a0c (asI (a0b kx (xix 0 (a0c ↑i) 1)))) 5) 3) [.int .i64 (xfW bx (asS (a0b jx (xix 0 (a0c ↑i) 4))))]) 5,sC bx 2,sC jx 4,sC kx 1] gt4))
 else(
 K (.exit 2) [.str s,.ptr 0 0,.int .i64 0,.int .i64 0,.int .i64 0,.ptr 1 0,.slo 3 0 nb 0,.slo 4 0 nj 0,.slo 5 0 na 0,.any,.any,.any,.any,.any,.any,.any,.any,.any,.any,.int .i64 ↑i,.any,.any] [sN [.nils],sN [.slo 2 0 ni 0],sC ax 5,sC bx 2,sC jx 4,sC kx 1] gt4)):=by kernel_rfl
theorem g5u (s:List UInt8) (ni nb nj na:Nat) (i:Nat) (ax bx jx kx:List LV) (K:Pk):(xsp prog c0b 60 228 ((sp prog 18).drop 16) (a1p 228 (pmZ s nb nj na i)) (mkS (pmY ni ax bx jx kx) gt4) (vK paX K))=(
 K .ret [.str s,.ptr 0 0,.int .i64 0,.int .i64 0,.int .i64 0,.ptr 1 0,.slo 3 0 nb 0,.slo 4 0 nj 0,.slo 5 0 na 0,.any,.any,.any,.any,.any,.any,.any,.any,.any,.any,.int .i64 ↑i,.any,.any] [sN [.slo 2 0 ni 0],sN [.slo 2 0 ni 0],sC ax 5,sC bx 2,sC jx 4,sC kx 1] gt4):=by kernel_rfl
end
end Go.Lev
