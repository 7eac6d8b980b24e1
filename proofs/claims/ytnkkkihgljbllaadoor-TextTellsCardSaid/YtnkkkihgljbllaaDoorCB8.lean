/- text: two rows of instructions: Same -/
import Derived.Test.YtnkkkihgljbllaaDoorCQ9
import Derived.Test.YtnkkkihgljbllaaDoorLc
import Derived.Test.YtnkkkihgljbllaaDoorChecked
import Derived.KernelRfl
namespace Go.Lev
set_option linter.unusedSimpArgs false
set_option linter.unusedVariables false
open Go.RowKit
open Go.Proofs.Tryd (prog)
set_option maxRecDepth 100000
noncomputable section
abbrev f7p (n m k:Nat):List (Nat×LV):=[(0,.slo 0 0 n 0),(1,.slo 1 0 m 0),(5,.int .i64 k)]
abbrev d4h (cs ds:List LV):List LB:=[.cells cs (some 5),.cells ds (some 5)]
abbrev f6k:List Nat:=[0,1,4,5]
theorem f7o (n m:Nat) (cs ds:List LV) (K:Pk):(xsp prog (fun _=>none) 40 26 (seg (sp prog 15) 0 4) (tm0 [.slo 0 0 n 0,.slo 1 0 m 0]) (mkS (d4h cs ds)) (vK f6k K))=(
 bif xcm .neq ↑n ↑m then(
 K .ret [.slo 0 0 n 0,.slo 1 0 m 0,.bool false,.tup []] [sC cs 5,sC ds 5] [])
 else(
 K .normal [.slo 0 0 n 0,.slo 1 0 m 0,.bool false,.int .i64 0] [sC cs 5,sC ds 5] [])):=by kernel_rfl
theorem f7n (n m k:Nat) (cs ds:List LV) (K:Pk):(a1h prog (fun _=>none) 40 26 (a1w (a4i (sp prog 15) 4)) (a1p 26 (f7p n m k)) (mkS (d4h cs ds)) (vK f6k K))=(
 bif xcm .lss ↑k ↑n then(
 ck (xle (a0a (a0c ↑k) 1) n) <|
 ck (xle (a0a (xix 0 (a0c ↑k) 5) 5) (xln cs)) <|
 ck (isI .i64 (a0b cs (xix 0 (a0c ↑k) 5))) <|
 ck (isI .i64 (a0b cs (a0a (xix 0 (a0c ↑k) 5) 1))) <|
 ck (isI .i64 (a0b cs (a0a (a0a (xix 0 (a0c ↑k) 5) 1) 1))) <|
 ck (isI .i64 (a0b cs (a0a (a0a (a0a (xix 0 (a0c ↑k) 5) 1) 1) 1))) <|
 ck (isI .u64 (a0b cs (a0a (a0a (a0a (a0a (xix 0 (a0c ↑k) 5) 1) 1) 1) 1))) <|
 ck (xle (a0a (a0c ↑k) 1) m) <|
 ck (xle (a0a (xix 0 (a0c ↑k) 5) 5) (xln ds)) <|
 ck (isI .i64 (a0b ds (xix 0 (a0c ↑k) 5))) <|
 ck (isI .i64 (a0b ds (a0a (xix 0 (a0c ↑k) 5) 1))) <|
 ck (isI .i64 (a0b ds (a0a (a0a (xix 0 (a0c ↑k) 5) 1) 1))) <|
 ck (isI .i64 (a0b ds (a0a (a0a (a0a (xix 0 (a0c ↑k) 5) 1) 1) 1))) <|
 ck (isI .u64 (a0b ds (a0a (a0a (a0a (a0a (xix 0 (a0c ↑k) 5) 1) 1) 1) 1))) <|
 bif a3i (c5q (xcm .eql (asI (a0b cs (xix 0 (a0c ↑k) 5))) (asI (a0b ds (xix 0 (a0c ↑k) 5)))) (c5q (xcm .eql (asI (a0b cs (a0a (xix 0 (a0c ↑k) 5) 1))) (asI (a0b ds (a0a (xix 0 (a0c ↑k) 5) 1)))) (c5q (xcm .eql (asI (a0b cs (a0a (a0a (xix 0 (a0c ↑k) 5) 1) 1))) (asI (a0b ds (a0a (a0a (xix 0 (a0c ↑k) 5) 1) 1)))) (c5q (xcm .eql (asI (a0b cs (a0a (a0a (a0a (xix 0 (a0c ↑k) 5) 1) 1) 1))) (asI (a0b ds (a0a (a0a (a0a (xix 0 (a0c ↑k) 5) 1) 1) 1)))) (c5q (xcm .eql (asI (a0b cs (a0a (a0a (a0a (a0a (xix 0 (a0c ↑k) 5) 1) 1) 1) 1))) (asI (a0b ds (a0a (a0a (a0a (a0a (xix 0 (a0c ↑k) 5) 1) 1) 1) 1)))) true))))) then(
 K .ret [.slo 0 0 n 0,.slo 1 0 m 0,.bool false,.int .i64 ↑k] [sC cs 5,sC ds 5] [])
 else(
 K .normal [.slo 0 0 n 0,.slo 1 0 m 0,.any,.int .i64 (xar .add .i64 (↑k) 1)] [sC cs 5,sC ds 5] []))
 else(
 K (.exit 0) [.slo 0 0 n 0,.slo 1 0 m 0,.any,.int .i64 ↑k] [sC cs 5,sC ds 5] [])):=by kernel_rfl
theorem f7m (cs ds:List LV) (K:Pk):(xsp prog (fun _=>none) 40 26 ((sp prog 15).drop 5) (a1p 26 []) (mkS (d4h cs ds)) (vK f6k K))=(
 K .ret [.any,.any,.bool true,.any] [sC cs 5,sC ds 5] []):=by kernel_rfl
def f0u (x y:b9y):Bool:=decide (x.op=y.op∧x.a=y.a∧x.b=y.b∧x.c=y.c∧x.n=y.n)
theorem c6k {x y:b9y}:f0u x y=true↔x=y:=by
 obtain⟨a,b,c,d,e⟩:=x
 obtain⟨a',b',c',d',e'⟩:=y
 simp [f0u]
theorem f9l (x y:b9y):c5q (xcm .eql x.op y.op) (c5q (xcm .eql x.a y.a) (c5q (xcm .eql x.b y.b) (c5q (xcm .eql x.c y.c) (c5q (xcm .eql x.n y.n) true))))=f0u x y:=by
 rw [Bool.eq_iff_iff,f0u]
 simp [f1p,a9o]
theorem d4r {a b:List b9y} (h:a0f a9m a=a0f a9m b):a=b:=by rw [← b6q a,h,b6q]
def b1e (n m:Nat) (cs ds:List LV):Bool:=@decide (n=m∧cs=ds) (Classical.propDecidable _)
theorem d4f (xs ys:List b9y) (hn:xs.length≤1000000) (hm:ys.length≤1000000):a0k prog 15 [.slo 0 0 xs.length 0,.slo 1 0 ys.length 0] (mkS (d4h (a0f a9m xs) (a0f a9m ys)))
  fun l s=>l=.bool (b1e xs.length ys.length (a0f a9m xs) (a0f a9m ys))∧s=mkS (d4h (a0f a9m xs) (a0f a9m ys)):=by
 refine a0k.mono (a0k.g9n (Q:=fun l b=>l=.bool (b1e xs.length ys.length (a0f a9m xs) (a0f a9m ys))∧b=d4h (a0f a9m xs) (a0f a9m ys)) 26 2 f6k [4] (by kernel_rfl) rfl rfl rfl ?_) fun l s' ⟨b0,⟨h1,h2⟩,h3⟩=>⟨h1,by rw [h3,h2]⟩
 have nx:=b6l xs
 have ny:=b6l ys
 have lx:=f4a xs; have ly:=f4a ys
 refine SSp.to a0j (n:=40) (g:=[]) 4 4 rfl (σ:={_k:Unit // xs.length=ys.length}) (fun _=>f7p xs.length ys.length 0) (fun _=>d4h (a0f a9m xs) (a0f a9m ys)) (a0y (Nat.le_refl _)) (by kernel_rfl) ?_ fun⟨_,hnm⟩=>?_
 ·rw [f7o,f1m]
  by_cases e:xs.length=ys.length
  ·simp only [e,decide_true,Bool.not_true,cond_false]
   exact⟨rfl,⟨(),e⟩,[.id 0,.id 1],by(exact zC)⟩
  ·simp only [e,decide_false,Bool.not_false,cond_true]
   have hs:b1e xs.length ys.length (a0f a9m xs) (a0f a9m ys)=false:=by simp only [b1e,decide_eq_false_iff_not]; exact fun k=>e k.1
   exact⟨trivial,rfl,_,_,[.id 0,.id 1],⟨rfl,rfl⟩,by rw [hs]; (exact zC)⟩
 refine SSp.code_to (g:=[]) 5 rfl (σ:={_k:Unit // xs=ys}) (fun _=>[]) (fun _=>d4h (a0f a9m xs) (a0f a9m ys)) (by kernel_rfl) ?_ fun⟨_,hall⟩=>?_
 ·refine a0p.g9s a0j (n:=40) 0 (by kernel_rfl) (σ:={k:Nat // k≤xs.length∧∀ i (h:i < xs.length) (h':i < ys.length),i < k→xs[i]=ys[i]}) (fun k=>f7p xs.length ys.length k.1) (fun _=>d4h (a0f a9m xs) (a0f a9m ys)) (fun k=>xs.length - k.1) (fun _=>Nat.le_refl _) (fun⟨k,hk,hall⟩=>?_) ⟨0,Nat.zero_le _,fun i _ _ hi=>absurd hi (by omega)⟩
  dsimp only
  rw [f7n,f1n]
  refine d9e (fun h0=>?_) (fun h0=>⟨rfl,⟨(),List.ext_getElem hnm fun i h1 h2=>hall i h1 h2 (by omega)⟩,[.id 0,.id 1],by(exact zC)⟩)
  have h1:k < ys.length:=by omega
  have e3:xar .add .i64 (k:Int) 1=((k+1:Nat):Int):=a7t h0 (by omega)
  have a0:=f4g h0; have a1:=f4f h0; have a2:=f4e h0; have a3:=f4d h0; have a4:=f4c h0
  have b0:=f4g h1; have b1:=f4f h1; have b2:=f4e h1; have b3:=f4d h1; have b4:=f4c h1
  have q1:k * 5+1+1=k * 5+2:=by omega
  have q2:k * 5+2+1=k * 5+3:=by omega
  have q3:k * 5+3+1=k * 5+4:=by omega
  simp only [a2w,a5j,a1o,a2g,a3e,Nat.zero_add,lx,ly,q1,q2,q3,a0,a1,a2,a3,a4,b0,b1,b2,b3,b4,e3,a2q,a3d,f9l,show xle (k+1) xs.length=true from a1n (by omega),show xle (k+1) ys.length=true from a1n (by omega),show xle (k * 5+5) (xs.length * 5)=true from a1n (by omega),show xle (k * 5+5) (ys.length * 5)=true from a1n (by omega),cond_true]
  by_cases e:xs[k]=ys[k]
  ·simp only [c6k.2 e,b8h,cond_false]
   exact⟨rfl,⟨k+1,h0,fun i h2 h3 hi=>by rcases Nat.lt_succ_iff_lt_or_eq.1 hi with hi | rfl; exact hall i h2 h3 hi; exact e⟩,by simp only; omega,[.id 0,.id 1],by(exact zC)⟩
  ·have hs:b1e xs.length ys.length (a0f a9m xs) (a0f a9m ys)=false:=by
    simp only [b1e,decide_eq_false_iff_not]
    intro q
    have:=d4r q.2
    subst this
    exact e rfl
   have ht:f0u xs[k] ys[k]=false:=by
    cases q:f0u xs[k] ys[k]
    ·rfl
    ·exact absurd (c6k.1 q) e
   simp only [ht,b8i,cond_true]
   exact⟨trivial,rfl,_,_,[.id 0,.id 1],⟨rfl,rfl⟩,by rw [hs]; (exact zC)⟩
 refine SSp.last a0j (n:=40) (a0y (Nat.le_refl _)) ?_
 rw [f7m]
 have hs:b1e xs.length ys.length (a0f a9m xs) (a0f a9m ys)=true:=by
  simp only [b1e,decide_eq_true_eq]; exact⟨hnm,by rw [hall]⟩
 exact⟨trivial,rfl,_,_,[.id 0,.id 1],⟨rfl,rfl⟩,by rw [hs]; (exact zC)⟩
def okE (n:Nat) (cs:List LV):Bool:=@decide (∃ L:List b9y,cs=a0f a9m L∧L.length=n∧n≤1000000) (Classical.propDecidable _)
theorem b8x {n:Nat} {cs:List LV}:okE n cs=true↔∃ L:List b9y,cs=a0f a9m L∧L.length=n∧n≤1000000:=by simp only [okE,decide_eq_true_eq]
theorem d6e {n:Nat} {cs:List LV} (h:okE n cs=true):a1q cs=true:=by obtain⟨L,rfl,_⟩:=b8x.1 h; exact b6l L
theorem d7q (n m:Nat) (cs ds:List LV) (h1:okE n cs=true) (h2:okE m ds=true):a0k prog 15 [.slo 0 0 n 0,.slo 1 0 m 0] (mkS [.cells cs (some 5),.cells ds (some 5)]) fun l s=>l=.bool (b1e n m cs ds)∧s=mkS [.cells cs (some 5),.cells ds (some 5)]:=by
 obtain⟨L,rfl,rfl,k1⟩:=b8x.1 h1
 obtain⟨M,rfl,rfl,k2⟩:=b8x.1 h2
 exact d4f L M k1 k2
def saG:Gc:=fun args s=>match args,s.g with
 | [.slo a 0 n 0,.slo b 0 m 0],[]=>(match s.h.get a with
   | some (.cells cs (some 5))=>(match s.h.get b with
     | some (.cells ds (some 5))=>cond (a3q [a,b]) (match s.lay [a,b] [.cells cs (some 5),.cells ds (some 5)] [] with
       | some s'=>some ([okE n cs,okE m ds],.bool (b1e n m cs ds),s')
       | none=>none) none
     | _=>none)
   | _=>none)
 | _,_=>none
theorem f2g:GOk prog 15 saG:=by
 intro args s bs l s' hg hb hfr
 unfold saG at hg
 split at hg
 ·rename_i a n b m hgl
  split at hg
  ·rename_i cs hb0
   split at hg
   ·rename_i ds hb1
    cases hbc:a3q [a,b] with
    | false=>rw [hbc] at hg; cases hg
    | true =>
      rw [hbc] at hg
      simp only [cond_true] at hg
      split at hg
      ·rename_i s1 hs1
       simp only [Option.some.injEq,Prod.mk.injEq] at hg
       obtain⟨rfl,rfl,rfl⟩:=hg
       simp only [a0g] at hb
       obtain⟨k1,k2,_⟩:=hb
       have n1:=d6e k1; have n2:=d6e k2
       refine a0k.lay (bs:=[.cells cs (some 5),.cells ds (some 5)]) (args0:=[.slo 0 0 n 0,.slo 1 0 m 0]) (bs':=[.cells cs (some 5),.cells ds (some 5)]) (v0:=.bool (b1e n m cs ds)) hfr hs1 (a4t hbc)
        ⟨⟨a3j hfr hb0,_,hb0,a0e (by(exact zId)),fun κ hκ=>a0e (by(exact zId))⟩,⟨a3j hfr hb1,_,hb1,a0e (by(exact zId)),fun κ hκ=>a0e (by(exact zId))⟩,trivial⟩ (by(exact zTl)) ?_
        fun κ h1 h2=>⟨⟨a0e (by(exact zId)),a0e (by(exact zId)),trivial⟩,a5r⟩
       rw [hgl]; exact(d7q n m cs ds k1 k2)
      ·cases hg
   ·cases hg
  ·cases hg
 ·cases hg
end
end Go.Lev
