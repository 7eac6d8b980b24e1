import Derived.Test.YtnkkkihgljbllaaDoorLc
import Derived.Test.YtnkkkihgljbllaaDoorChecked
import Derived.KernelRfl
import Derived.Test.YtnkkkihgljbllaaDoorCX3
/- text: the reference's cut: its trees -/
namespace Go.Lev
set_option linter.unusedSimpArgs false
set_option linter.unusedVariables false
open Go.RowKit
open Go.Proofs.Tryd (prog)
set_option maxRecDepth 100000
noncomputable section
abbrev cuL:List Nat:=[0,1,2,6,7,8,9,10,11,12,13]
abbrev f5j (n:Nat) (ln:Int) (e i:Nat):List (Nat×LV):=[(0,.slo 0 0 n 0),(1,.slo 1 0 n 0),(2,.int .i64 ln),(6,.nils),(7,.int .i64 0),(8,.int .i64 e),(9,.int .i64 i)]
abbrev d4x (n:Nat) (ln:Int) (e m i:Nat):List (Nat×LV):=[(0,.slo 0 0 n 0),(1,.slo 1 0 n 0),(2,.int .i64 ln),(6,.nils),(7,.int .i64 0),(8,.int .i64 e),(10,.slo 2 0 m 0),(11,.int .i64 i)]
abbrev f5i (n:Nat) (ln:Int) (e m i k:Nat):List (Nat×LV):=[(0,.slo 0 0 n 0),(1,.slo 1 0 n 0),(2,.int .i64 ln),(6,.nils),(7,.int .i64 0),(8,.int .i64 e),(10,.slo 2 0 m 0),(11,.int .i64 i),(12,.ptr 3 0),(13,.int .i64 k)]
abbrev d9y (lx bx:List LV):List LB:=[.cells lx (some 1),.cells bx (some 1)]
abbrev d2y (lx bx wx:List LV):List LB:=[.cells lx (some 1),.cells bx (some 1),.cells wx (some 4)]
abbrev f5k (lx bx wx:List LV) (ln f:Int) (b:Bool):List LB:=[.cells lx (some 1),.cells bx (some 1),.cells wx (some 4),.cells [.str [],.int .i64 ln,.int .i64 f,.bool b] none]
abbrev cuB:List Code:=a3l (a1w (a4i (sp prog 34) 6))
abbrev cuC:List Code:=a3l (b9t (a4i cuB 2))
theorem g8y (n:Nat) (ln:Int) (lx bx:List LV) (K:Pk):(xsp prog (fun _=>none) 40 92 (seg (sp prog 34) 0 3) (tm0 [.slo 0 0 n 0,.slo 1 0 n 0,.int .i64 ln]) (mkS (d9y lx bx) []) (vK cuL K))=(
 K .normal [.slo 0 0 n 0,.slo 1 0 n 0,.int .i64 ln,.nils,.int .i64 0,.int .i64 ↑n,.int .i64 0,.tup [],.tup [],.tup [],.tup []] [sC lx 1,sC bx 1] []):=by kernel_rfl
theorem g8q (n:Nat) (ln:Int) (i:Nat) (lx bx:List LV) (K:Pk):(a1h prog (fun _=>none) 40 92 (a1w (a4i (sp prog 34) 3)) (a1p 92 (f5j n ln n i)) (mkS (d9y lx bx) []) (vK cuL K))=(
 bif xcm .lss ↑i ↑n then(
 ck (xle (a0a (a0c ↑i) 1) n) <|
 ck (xle (a0a (xix 0 (a0c ↑i) 1) 1) (xln lx)) <|
 ck (isI .i32 (a0b lx (xix 0 (a0c ↑i) 1))) <|
 bif xcm .eql (asI (a0b lx (xix 0 (a0c ↑i) 1))) 59 then(
 K (.exit 0) [.slo 0 0 n 0,.slo 1 0 n 0,.int .i64 ln,.nils,.int .i64 0,.int .i64 ↑i,.int .i64 ↑i,.any,.any,.any,.any] [sC lx 1,sC bx 1] [])
 else(
 K .normal [.slo 0 0 n 0,.slo 1 0 n 0,.int .i64 ln,.nils,.int .i64 0,.int .i64 ↑n,.int .i64 (xar .add .i64 (↑i) 1),.any,.any,.any,.any] [sC lx 1,sC bx 1] []))
 else(
 K (.exit 0) [.slo 0 0 n 0,.slo 1 0 n 0,.int .i64 ln,.nils,.int .i64 0,.int .i64 ↑n,.int .i64 ↑i,.any,.any,.any,.any] [sC lx 1,sC bx 1] [])):=by kernel_rfl
theorem g8x (n:Nat) (ln:Int) (e i:Nat) (lx bx:List LV) (K:Pk):(xsp prog (fun _=>none) 40 92 (seg (sp prog 34) 4 2) (a1p 92 (f5j n ln e i)) (mkS (d9y lx bx) []) (vK cuL K))=(
 K .normal [.slo 0 0 n 0,.slo 1 0 n 0,.int .i64 ln,.nils,.int .i64 0,.int .i64 ↑e,.int .i64 ↑i,.nils,.int .i64 0,.any,.any] [sC lx 1,sC bx 1] []):=by kernel_rfl
theorem g8v (n:Nat) (ln:Int) (e m i:Nat) (lx bx wx:List LV) (K:Pk):(xsp prog (fun _=>none) 40 92 (seg cuB 0 2) (a1p 92 (d4x n ln e m i)) (mkS (d2y lx bx wx) []) (vK cuL K))=(
 bif xcm .lss ↑i ↑e then(
 K .normal [.slo 0 0 n 0,.slo 1 0 n 0,.int .i64 ln,.nils,.int .i64 0,.int .i64 ↑e,.any,.slo 2 0 m 0,.int .i64 ↑i,.any,.any] [sC lx 1,sC bx 1,sC wx 4] [])
 else(
 K (.exit 2) [.slo 0 0 n 0,.slo 1 0 n 0,.int .i64 ln,.nils,.int .i64 0,.int .i64 ↑e,.any,.slo 2 0 m 0,.int .i64 ↑i,.any,.any] [sC lx 1,sC bx 1,sC wx 4] [])):=by kernel_rfl
theorem g8u (n:Nat) (ln:Int) (e m i:Nat) (lx bx wx:List LV) (K:Pk):(xsp prog (fun _=>none) 40 92 (seg cuC 0 4) (a1p 92 (d4x n ln e m i)) (mkS (d2y lx bx wx) []) (vK cuL K))=(
 ck (xle (a0a (a0c ↑i) 1) n) <|
 ck (xle (a0a (xix 0 (a0c ↑i) 1) 1) (xln lx)) <|
 ck (isI .i32 (a0b lx (xix 0 (a0c ↑i) 1))) <|
 bif xcm .eql (asI (a0b lx (xix 0 (a0c ↑i) 1))) 32 then(
 K (.exit 3) [.slo 0 0 n 0,.slo 1 0 n 0,.int .i64 ln,.nils,.int .i64 0,.int .i64 ↑e,.any,.slo 2 0 m 0,.int .i64 ↑i,.any,.any] [sC lx 1,sC bx 1,sC wx 4] [])
 else(
 ck (xle (a0a (a0c ↑i) 1) n) <|
 ck (xle (a0a (xix 0 (a0c ↑i) 1) 1) (xln lx)) <|
 ck (isI .i32 (a0b lx (xix 0 (a0c ↑i) 1))) <|
 bif xcm .eql (asI (a0b lx (xix 0 (a0c ↑i) 1))) 9 then(
 K (.exit 3) [.slo 0 0 n 0,.slo 1 0 n 0,.int .i64 ln,.nils,.int .i64 0,.int .i64 ↑e,.any,.slo 2 0 m 0,.int .i64 ↑i,.any,.any] [sC lx 1,sC bx 1,sC wx 4] [])
 else(
 K .normal [.slo 0 0 n 0,.slo 1 0 n 0,.int .i64 ln,.nils,.int .i64 0,.int .i64 ↑e,.any,.slo 2 0 m 0,.int .i64 ↑i,.ptr 3 0,.int .i64 ↑i] [sC lx 1,sC bx 1,sC wx 4,sN [.str [],.int .i64 ln,.int .i64 (xar .add .i64 (↑i) 1),.bool false]] []))):=by kernel_rfl
abbrev c5g (ln:Int) (f:Int) (b:Bool) (lx:List LV) (bx:List LV) (wx:List LV):List (Option LB):=[sC lx 1,sC bx 1,sC wx 4,sN [.str [],.int .i64 ln,.int .i64 f,.bool b]]
theorem g8t (n:Nat) (ln f:Int) (e m i k:Nat) (b:Bool) (lx bx wx:List LV) (K:Pk):(a1h prog (fun _=>none) 40 92 (a1w (a4i cuC 4)) (a1p 92 (f5i n ln e m i k)) (mkS (f5k lx bx wx ln f b) []) (vK cuL K))=(
 bif xcm .lss ↑k ↑e then(
 ck (xle (a0a (a0c ↑k) 1) n) <|
 ck (xle (a0a (xix 0 (a0c ↑k) 1) 1) (xln lx)) <|
 ck (isI .i32 (a0b lx (xix 0 (a0c ↑k) 1))) <|
 bif xcm .neq (asI (a0b lx (xix 0 (a0c ↑k) 1))) 32 then(
 ck (xle (a0a (a0c ↑k) 1) n) <|
 ck (xle (a0a (xix 0 (a0c ↑k) 1) 1) (xln lx)) <|
 ck (isI .i32 (a0b lx (xix 0 (a0c ↑k) 1))) <|
 bif xcm .neq (asI (a0b lx (xix 0 (a0c ↑k) 1))) 9 then(
 bif b then(
 K .normal [.slo 0 0 n 0,.slo 1 0 n 0,.int .i64 ln,.nils,.int .i64 0,.int .i64 ↑e,.any,.slo 2 0 m 0,.int .i64 ↑i,.ptr 3 0,.int .i64 (xar .add .i64 (↑k) 1)] [sC lx 1,sC bx 1,sC wx 4,sN [.str [],.int .i64 ln,.int .i64 f,.bool true]] [])
 else(
 ck (xle (a0a (a0c ↑k) 1) n) <|
 ck (xle (a0a (xix 0 (a0c ↑k) 1) 1) (xln bx)) <|
 ck (isB (a0b bx (xix 0 (a0c ↑k) 1))) <|
 K .normal [.slo 0 0 n 0,.slo 1 0 n 0,.int .i64 ln,.nils,.int .i64 0,.int .i64 ↑e,.any,.slo 2 0 m 0,.int .i64 ↑i,.ptr 3 0,.int .i64 (xar .add .i64 (↑k) 1)] [sC lx 1,sC bx 1,sC wx 4,sN [.str [],.int .i64 ln,.int .i64 f,.bool (asB (a0b bx (xix 0 (a0c ↑k) 1)))]] []))
 else(
 K (.exit 4) [.slo 0 0 n 0,.slo 1 0 n 0,.int .i64 ln,.nils,.int .i64 0,.int .i64 ↑e,.any,.slo 2 0 m 0,.int .i64 ↑i,.ptr 3 0,.int .i64 ↑k] (c5g ln f b lx bx wx) []))
 else(
 K (.exit 4) [.slo 0 0 n 0,.slo 1 0 n 0,.int .i64 ln,.nils,.int .i64 0,.int .i64 ↑e,.any,.slo 2 0 m 0,.int .i64 ↑i,.ptr 3 0,.int .i64 ↑k] (c5g ln f b lx bx wx) []))
 else(
 K (.exit 4) [.slo 0 0 n 0,.slo 1 0 n 0,.int .i64 ln,.nils,.int .i64 0,.int .i64 ↑e,.any,.slo 2 0 m 0,.int .i64 ↑i,.ptr 3 0,.int .i64 ↑k] (c5g ln f b lx bx wx) [])):=by kernel_rfl
theorem g8s (n:Nat) (ln f:Int) (e m i k:Nat) (b:Bool) (lx bx wx:List LV) (K:Pk):(xsp prog (fun _=>none) 40 92 (cuC.drop 5) (a1p 92 (f5i n ln e m i k)) (mkS (f5k lx bx wx ln f b) []) (vK cuL K))=(
 ck (xle (a0c ↑i) (a0c ↑k)) <|
 ck (xle (a0c ↑k) n) <|
 ck (xle (a0a (xix 0 (a0c ↑i) 1) (a1t (c3g (a0c ↑k) (a0c ↑i)) 1)) (xln lx)) <|
 ck (c7r (a3o lx (xix 0 (a0c ↑i) 1) (a1t (c3g (a0c ↑k) (a0c ↑i)) 1))) <|
 ck (xle (a0a m 1) 1000000) <|
 ck (xle (a0a 0 (a1t m 4)) (xln wx)) <|
 K .normal [.slo 0 0 n 0,.slo 1 0 n 0,.int .i64 ln,.nils,.int .i64 0,.int .i64 ↑e,.any,.slo 5 0 (a0a m 1) 0,.int .i64 ↑k,.ptr 3 0,.int .i64 ↑k] [sC lx 1,sC bx 1,sD,sN [.str (c7s (a3o lx (xix 0 (a0c ↑i) 1) (a1t (c3g (a0c ↑k) (a0c ↑i)) 1))),.int .i64 ln,.int .i64 f,.bool b],sN [.str (c7s (a3o lx (xix 0 (a0c ↑i) 1) (a1t (c3g (a0c ↑k) (a0c ↑i)) 1))),.int .i64 ln,.int .i64 f,.bool b],sC (a6n (a3o wx 0 (a1t m 4)) [.str (c7s (a3o lx (xix 0 (a0c ↑i) 1) (a1t (c3g (a0c ↑k) (a0c ↑i)) 1))),.int .i64 ln,.int .i64 f,.bool b]) 4] []):=by kernel_rfl
theorem g8r (n:Nat) (ln:Int) (e m i:Nat) (lx bx wx:List LV) (K:Pk):(xsp prog (fun _=>none) 40 92 (cuB.drop 3) (a1p 92 (d4x n ln e m i)) (mkS (d2y lx bx wx) []) (vK cuL K))=(
 K .normal [.slo 0 0 n 0,.slo 1 0 n 0,.int .i64 ln,.nils,.int .i64 0,.int .i64 ↑e,.any,.slo 2 0 m 0,.int .i64 (xar .add .i64 (↑i) 1),.any,.any] [sC lx 1,sC bx 1,sC wx 4] []):=by kernel_rfl
theorem g8p (n:Nat) (ln:Int) (e m i:Nat) (lx bx wx:List LV) (K:Pk):(xsp prog (fun _=>none) 40 92 ((sp prog 34).drop 7) (a1p 92 (d4x n ln e m i)) (mkS (d2y lx bx wx) []) (vK cuL K))=(
 K .ret [.slo 0 0 n 0,.slo 1 0 n 0,.int .i64 ln,.slo 2 0 m 0,.int .i64 (xar .add .i64 (↑e) 1),.int .i64 ↑e,.any,.slo 2 0 m 0,.int .i64 ↑i,.any,.any] [sC lx 1,sC bx 1,sC wx 4] []):=by kernel_rfl
end
end Go.Lev
/- text: the reference's cut: the words of a line -/
namespace Go.Lev
set_option linter.unusedSimpArgs false
set_option linter.unusedVariables false
open Go.RowKit
open Go.Proofs.Tryd (prog)
set_option maxRecDepth 100000
noncomputable section
structure RW where
 s:List UInt8
 ln:Int
 cl:Int
 bd:Bool
abbrev rwC (x:RW):List LV:=[.str x.s,.int .i64 x.ln,.int .i64 x.cl,.bool x.bd]
theorem b5p (x:RW):(rwC x).length=4:=rfl
theorem d3o (xs:List RW):(a0f rwC xs).length=xs.length * 4:=a1v b5p xs
theorem a3k (xs:List RW):a1q (a0f rwC xs)=true:=a1y (fun _=>rfl) xs
theorem d7r (xs:List RW) (x:RW):a6n (a3o (a0f rwC xs) 0 (a1t xs.length 4)) [.str x.s,.int .i64 x.ln,.int .i64 x.cl,.bool x.bd]=a0f rwC (xs++[x]):=by
 rw [a3r (by rw [d3o]; show xs.length * 4≤xs.length * 4; omega),a1r]; rfl
abbrev tkR (x:Tk):List LV:=[.int .i32 x.1]
abbrev tkB (x:Tk):List LV:=[.bool x.2]
theorem c9s (x:Tk):(tkR x).length=1:=rfl
theorem c9v (x:Tk):(tkB x).length=1:=rfl
theorem d4b (xs:List Tk):(a0f tkR xs).length=xs.length:=by rw [a1v c9s]; omega
theorem d4d (xs:List Tk):(a0f tkB xs).length=xs.length:=by rw [a1v c9v]; omega
theorem a6e (xs:List Tk):a1q (a0f tkR xs)=true:=a1y (fun _=>rfl) xs
theorem a6f (xs:List Tk):a1q (a0f tkB xs)=true:=a1y (fun _=>rfl) xs
theorem b5i {xs:List Tk} {i:Nat} (h:i < xs.length):a0b (a0f tkR xs) i=.int .i32 xs[i].1:=by
 have:=a2s (f:=tkR) c9s (j:=0) h (by omega)
 rw [show i * 1+0=i by omega] at this; exact this
theorem c9u {xs:List Tk} {i:Nat} (h:i < xs.length):a0b (a0f tkB xs) i=.bool xs[i].2:=by
 have:=a2s (f:=tkB) c9v (j:=0) h (by omega)
 rw [show i * 1+0=i by omega] at this; exact this
theorem b2z:∀ xs:List Tk,a0f tkR xs=xs.map fun x=>LV.int .i32 x.1
 | []=>rfl
 | x::r=>by simp [a0f,b2z r]
def c0c (r:Int):Bool:=decide (r=32) || decide (r=9)
structure CS where
 ws:List RW
 l:List Tk
 c:Int
 f:Int
def d7t (l:List Tk) (ln f:Int):RW:=⟨b4z (l.map (·.1)),ln,f,l.any (·.2)⟩
def cuW (ln:Int) (S:CS):List RW:=if S.l=[] then S.ws else S.ws++[d7t S.l ln S.f]
def cuS (ln:Int) (S:CS) (x:Tk):CS:=if c0c x.1=true then⟨cuW ln S,[],S.c+1,S.f⟩ else⟨S.ws,S.l++[x],S.c+1,if S.l=[] then S.c else S.f⟩
def cuE (l:List Tk):List Tk:=l.takeWhile fun x=>decide (x.1≠59)
def cuR (ln:Int) (l:List Tk):CS:=l.foldl (cuS ln) ⟨[],[],1,0⟩
def cuF (ln:Int) (l:List Tk):List RW:=cuW ln (cuR ln (cuE l))
theorem d2z (l:List Tk):(cuE l).length≤l.length:=by
 unfold cuE
 induction l with
 | nil=>simp
 | cons x r ih=>rw [List.takeWhile_cons]; split <;> simp only [List.length_cons,List.length_nil] <;> omega
theorem c0o {α} {l:List α} {k:Nat} (h:k < l.length):l.take (k+1)=l.take k++[l[k]]:=by
 rw [List.take_add_one,List.getElem?_eq_getElem h]; rfl
theorem b7h {α} {l:List α} {i k:Nat} (h:k < l.length) (hi:i≤k):(l.drop i).take (k+1 - i)=(l.drop i).take (k - i)++[l[k]]:=by
 rw [show k+1 - i=(k - i)+1 by omega,List.take_add_one,List.getElem?_drop,show i+(k - i)=k by omega,List.getElem?_eq_getElem h]; rfl
theorem b9r {ln:Int} {l:List Tk} {k:Nat} (h:k < l.length):cuR ln (l.take (k+1))=cuS ln (cuR ln (l.take k)) l[k]:=by
 unfold cuR
 rw [c0o h,List.foldl_append]; rfl
def CuI (ln:Int) (l:List Tk) (e:Nat) (ws:List RW) (i:Nat):Prop :=
 ws.length≤i∧((i≤e∧∃ f,cuR ln (l.take i)=⟨ws,[],(i:Int)+1,f⟩)∨(i=e+1∧ws=cuF ln l))
structure CuY where
 ws:List RW
 i:Nat
theorem g1o (ln:Int) (l:List Tk) (hl:l.length≤100000):a0k prog 34 [.slo 0 0 l.length 0,.slo 1 0 l.length 0,.int .i64 ln] (mkS (d9y (a0f tkR l) (a0f tkB l)) []) fun v st=>v=.tup [.slo 2 0 (cuF ln l).length 0,.int .i64 (((cuE l).length:Int)+1)]∧st=mkS (d2y (a0f tkR l) (a0f tkB l) (a0f rwC (cuF ln l))) []:=by
 refine a0k.mono (a0k.g9n (Q:=fun v b=>v=.tup [.slo 2 0 (cuF ln l).length 0,.int .i64 (((cuE l).length:Int)+1)]∧b=d2y (a0f tkR l) (a0f tkB l) (a0f rwC (cuF ln l))) 92 2 cuL [6,7] (by kernel_rfl) rfl rfl rfl ?_) fun l s' ⟨b0,⟨h1,h2⟩,h3⟩=>⟨h1,by rw [h3,h2]⟩
 have nl:=a6e l; have nb:=a6f l
 have ll:=d4b l; have lb:=d4d l
 refine SSp.to a0j (n:=40) (g:=[]) 3 3 rfl (σ:=Unit) (fun _=>f5j l.length ln l.length 0) (fun _=>d9y (a0f tkR l) (a0f tkB l)) (a0y (Nat.le_of_ble_eq_true rfl)) (by kernel_rfl) ?_ fun _=>?_
 ·rw [g8y]; exact⟨rfl,(),[.id 0,.id 1],by(exact zC)⟩
 refine SSp.code_to (g:=[]) 4 rfl (σ:={p:Nat×Nat // p.1≤l.length∧cuE l=l.take p.1}) (fun p=>f5j l.length ln p.1.1 p.1.2) (fun _=>d9y (a0f tkR l) (a0f tkB l)) (by kernel_rfl) ?_ fun⟨⟨e,ei⟩,he,hE⟩=>?_
 ·refine a0p.g9s a0j (n:=40) (n0:=2) 0 (by kernel_rfl) (σ:={i:Nat // i≤l.length∧cuE l=l.take i++cuE (l.drop i)}) (fun i=>f5j l.length ln l.length i.1) (fun _=>d9y (a0f tkR l) (a0f tkB l)) (fun i=>l.length - i.1) (fun _=>Nat.le_of_ble_eq_true rfl) (fun⟨i,hi,hN⟩=>?_) ⟨0,Nat.zero_le _,rfl⟩
  dsimp only at hi hN ⊢
  rw [g8q]
  by_cases h:i < l.length
  ·have v0:=b5i h
   have x0:xle (i+1) l.length=true:=a1n (by omega)
   have e3:xar .add .i64 (i:Int) 1=((i+1:Nat):Int):=a7t h (by omega)
   have hD:l.drop i=l[i]::l.drop (i+1):=List.drop_eq_getElem_cons h
   simp only [show xcm .lss ((i:Nat):Int) ((l.length:Nat):Int)=true from a6j (by omega),a2w,a5j,a1o,a2g,a3e,Nat.zero_add,Nat.mul_one,ll,x0,v0,e3,a2q,a3d,decide_true,cond_true]
   by_cases hr:l[i].1=59
   ·simp only [show xcm .eql l[i].1 59=true from a2i hr,cond_true]
    have hz:cuE (l.drop i)=[]:=by rw [hD,cuE,List.takeWhile_cons,if_neg (by simp [hr])]
    rw [hz,List.append_nil] at hN
    exact⟨rfl,⟨(i,i),hi,hN⟩,[.id 0,.id 1],by(exact zC)⟩
   ·simp only [show xcm .eql l[i].1 59=false from a2c hr,cond_false]
    have hz:cuE (l.drop i)=l[i]::cuE (l.drop (i+1)):=by rw [hD,cuE,List.takeWhile_cons,if_pos (by simp [hr])]; rfl
    refine⟨rfl,⟨i+1,by omega,?_⟩,by dsimp only; omega,[.id 0,.id 1],by(exact zC)⟩
    rw [hN,hz,c0o h,List.append_assoc]; rfl
  ·simp only [show xcm .lss ((i:Nat):Int) ((l.length:Nat):Int)=false from a6h (by omega),cond_false]
   have hM:=hN
   obtain rfl:i=l.length:=by omega
   rw [List.drop_length] at hM
   exact⟨rfl,⟨(l.length,l.length),Nat.le_refl _,by rw [hM]; simp [cuE]⟩,[.id 0,.id 1],by(exact zC)⟩
 dsimp only at he hE ⊢
 have eL:(cuE l).length=e:=by rw [hE,List.length_take]; omega
 refine SSp.to a0j (n:=40) (g:=[]) 2 6 rfl (σ:=Unit) (fun _=>d4x l.length ln e 0 0) (fun _=>d2y (a0f tkR l) (a0f tkB l) []) (a0y (Nat.le_of_ble_eq_true rfl)) (by kernel_rfl) ?_ fun _=>?_
 ·rw [g8x]; exact⟨rfl,(),[.id 0,.id 1,.none],by(exact zC)⟩
 refine SSp.code_to (g:=[]) 7 rfl (σ:=Nat) (fun i=>d4x l.length ln e (cuF ln l).length i) (fun _=>d2y (a0f tkR l) (a0f tkB l) (a0f rwC (cuF ln l))) (by kernel_rfl) ?_ fun i=>?_
 ·refine a0p.g9t 2 (by kernel_rfl) (n0:=2) (σ:={p:CuY // CuI ln l e p.ws p.i}) (fun p=>d4x l.length ln e p.1.ws.length p.1.i) (fun p=>d2y (a0f tkR l) (a0f tkB l) (a0f rwC p.1.ws)) (fun p=>e+1 - p.1.i) (fun _=>Nat.le_of_ble_eq_true rfl) (fun⟨⟨ws,i⟩,hI⟩=>?_) ⟨⟨[],0⟩,by simp,.inl ⟨Nat.zero_le _,0,rfl⟩⟩
  dsimp only at hI ⊢
  have nw:=a3k ws
  have lw:=d3o ws
  refine SSp.to a0j (n:=40) (g:=[]) 2 2 rfl (σ:={_u:Unit // i < e}) (fun _=>d4x l.length ln e ws.length i) (fun _=>d2y (a0f tkR l) (a0f tkB l) (a0f rwC ws)) (a0y (Nat.le_of_ble_eq_true rfl)) (by kernel_rfl) ?_ fun⟨_,hie⟩=>?_
  ·rw [g8v]
   by_cases h:i < e
   ·simp only [show xcm .lss ((i:Nat):Int) ((e:Nat):Int)=true from a6j (by omega),cond_true]
    exact⟨rfl,⟨(),h⟩,[.id 0,.id 1,.id 2],by(exact zC)⟩
   ·simp only [show xcm .lss ((i:Nat):Int) ((e:Nat):Int)=false from a6h (by omega),cond_false]
    have hF:ws=cuF ln l:=by
     rcases hI.2 with⟨h1,f,h2⟩ | ⟨h1,h2⟩
     ·obtain rfl:i=e:=by omega
      unfold cuF; rw [hE,h2]; rfl
     ·exact h2
    subst hF
    exact⟨rfl,i,[.id 0,.id 1,.id 2],by(exact zC)⟩
  obtain⟨hwl,f,hC⟩:ws.length≤i∧∃ f,cuR ln (l.take i)=⟨ws,[],(i:Int)+1,f⟩:=by
   refine⟨hI.1,?_⟩
   rcases hI.2 with⟨h1,h2⟩ | ⟨h1,h2⟩
   ·exact h2
   ·omega
  have hil:i < l.length:=by omega
  refine SSp.code_to (g:=[]) 3 rfl (σ:={p:CuY // CuI ln l e p.ws (p.i+1)∧i≤p.i∧p.i≤e}) (fun p=>d4x l.length ln e p.1.ws.length p.1.i) (fun p=>d2y (a0f tkR l) (a0f tkB l) (a0f rwC p.1.ws)) (by kernel_rfl) ?_ fun⟨⟨ws1,i1⟩,hI1,hi1,hi2⟩=>?_
  ·refine a0p.h0p 3 (by kernel_rfl) ?_
   refine SSp.to a0j (n:=40) (g:=[]) 4 4 rfl (σ:={_u:Unit // c0c l[i].1=false}) (fun _=>f5i l.length ln e ws.length i i) (fun _=>f5k (a0f tkR l) (a0f tkB l) (a0f rwC ws) ln ((i:Int)+1) false) (a0y (Nat.le_of_ble_eq_true rfl)) (by kernel_rfl) ?_ fun⟨_,hb⟩=>?_
   ·rw [g8u]
    have v0:=b5i hil
    have x0:xle (i+1) l.length=true:=a1n (by omega)
    have e3:xar .add .i64 (i:Int) 1=(i:Int)+1:=a5c (by omega) (by omega)
    have fin:c0c l[i].1=true→CuI ln l e ws (i+1):=fun hz=>⟨by omega,.inl ⟨by omega,f,by rw [b9r hil,hC,cuS,if_pos hz]; simp [cuW]⟩⟩
    simp only [a2w,a5j,a1o,a2g,a3e,Nat.zero_add,Nat.mul_one,ll,x0,v0,e3,a2q,a3d,decide_true,cond_true]
    by_cases h1:l[i].1=32
    ·simp only [show xcm .eql l[i].1 32=true from a2i h1,cond_true]
     exact⟨rfl,⟨⟨ws,i⟩,fin (by simp [c0c,h1]),by simp,by dsimp only; omega⟩,[.id 0,.id 1,.id 2],by(exact zC)⟩
    simp only [show xcm .eql l[i].1 32=false from a2c h1,cond_false]
    by_cases h2:l[i].1=9
    ·simp only [show xcm .eql l[i].1 9=true from a2i h2,cond_true]
     exact⟨rfl,⟨⟨ws,i⟩,fin (by simp [c0c,h2]),by simp,by dsimp only; omega⟩,[.id 0,.id 1,.id 2],by(exact zC)⟩
    ·simp only [show xcm .eql l[i].1 9=false from a2c h2,cond_false]
     exact⟨rfl,⟨(),by simp [c0c,h1,h2]⟩,[.id 0,.id 1,.id 2,.id 3],by(exact zC)⟩
   refine SSp.code_to (g:=[]) 5 rfl (σ:={p:Nat×Bool // i < p.1∧p.1≤e∧cuR ln (l.take p.1)=⟨ws,(l.drop i).take (p.1 - i),(p.1:Int)+1,(i:Int)+1⟩∧p.2=((l.drop i).take (p.1 - i)).any (·.2)∧(p.1=e∨∃ h:p.1 < l.length,c0c l[p.1].1=true)}) (fun p=>f5i l.length ln e ws.length i p.1.1) (fun p=>f5k (a0f tkR l) (a0f tkB l) (a0f rwC ws) ln ((i:Int)+1) p.1.2) (by kernel_rfl) ?_ fun⟨⟨k,b⟩,hk1,hk2,hk3,hk4,hk5⟩=>?_
   ·refine a0p.g9s a0j (n:=40) (n0:=2) 4 (by kernel_rfl) (σ:={p:Nat×Bool // i≤p.1∧p.1≤e∧(∃ f',cuR ln (l.take p.1)=⟨ws,(l.drop i).take (p.1 - i),(p.1:Int)+1,f'⟩∧(i < p.1→f'=(i:Int)+1))∧p.2=((l.drop i).take (p.1 - i)).any (·.2)}) (fun p=>f5i l.length ln e ws.length i p.1.1) (fun p=>f5k (a0f tkR l) (a0f tkB l) (a0f rwC ws) ln ((i:Int)+1) p.1.2) (fun p=>e - p.1.1) (fun _=>Nat.le_of_ble_eq_true rfl) (fun⟨⟨k,b⟩,hk1,hk2,hk3,hk4⟩=>?_) ⟨(i,false),Nat.le_refl _,by dsimp only; omega,⟨f,by rw [hC]; simp,fun h=>absurd h (Nat.lt_irrefl _)⟩,by simp⟩
    dsimp only at hk1 hk2 hk3 hk4 ⊢
    obtain⟨f',hk3,hf⟩:=hk3
    rw [g8t]
    have fin:(k=e∨∃ h:k < l.length,c0c l[k].1=true)→i < k∧k≤e∧cuR ln (l.take k)=⟨ws,(l.drop i).take (k - i),(k:Int)+1,(i:Int)+1⟩∧b=((l.drop i).take (k - i)).any (·.2)∧(k=e∨∃ h:k < l.length,c0c l[k].1=true):=fun hz=>by
     have:i < k:=by
      rcases hz with hz | ⟨hz1,hz2⟩
      ·omega
      ·rcases Nat.lt_or_ge i k with q | q
       ·exact q
       ·obtain rfl:i=k:=by omega
        rw [hb] at hz2; cases hz2
     exact⟨this,hk2,by rw [hk3,hf this],hk4,hz⟩
    by_cases h:k < e
    ·have hkl:k < l.length:=by omega
     have v0:=b5i hkl; have v1:=c9u hkl
     have x0:xle (k+1) l.length=true:=a1n (by omega)
     have e3:xar .add .i64 (k:Int) 1=((k+1:Nat):Int):=a7t hkl (by omega)
     have wB:∀ x,isB (.bool x)=true:=fun _=>rfl
     have wA:∀ x,asB (.bool x)=x:=fun _=>rfl
     simp only [show xcm .lss ((k:Nat):Int) ((e:Nat):Int)=true from a6j (by omega),a2w,a5j,a1o,a2g,a3e,Nat.zero_add,Nat.mul_one,ll,lb,x0,v0,v1,e3,wB,wA,a2q,a3d,decide_true,cond_true]
     by_cases h1:l[k].1=32
     ·simp only [show xcm .neq l[k].1 32=false from a9b h1,cond_false]
      exact⟨rfl,⟨(k,b),fin (.inr ⟨hkl,by simp [c0c,h1]⟩)⟩,[.id 0,.id 1,.id 2,.id 3],by(exact zC)⟩
     simp only [show xcm .neq l[k].1 32=true from a8n h1,cond_true]
     by_cases h2:l[k].1=9
     ·simp only [show xcm .neq l[k].1 9=false from a9b h2,cond_false]
      exact⟨rfl,⟨(k,b),fin (.inr ⟨hkl,by simp [c0c,h2]⟩)⟩,[.id 0,.id 1,.id 2,.id 3],by(exact zC)⟩
     simp only [show xcm .neq l[k].1 9=true from a8n h2,cond_true]
     have hn:c0c l[k].1=false:=by simp [c0c,h1,h2]
     have nxt:∀ b',b'=(b || l[k].2)→i≤k+1∧k+1≤e∧(∃ f',cuR ln (l.take (k+1))=⟨ws,(l.drop i).take (k+1 - i),((k+1:Nat):Int)+1,f'⟩∧(i < k+1→f'=(i:Int)+1))∧b'=((l.drop i).take (k+1 - i)).any (·.2):=fun b' hb'=>by
      refine⟨by omega,by omega,?_,?_⟩
      ·rw [b9r hkl,hk3,cuS,if_neg (by rw [hn]; simp),b7h hkl hk1]
       refine⟨_,rfl,fun _=>?_⟩
       dsimp only
       by_cases q:i=k
       ·subst q; rw [if_pos (by simp)]
       ·rw [if_neg]
        ·exact hf (by omega)
        ·intro z
         have:=congrArg List.length z
         rw [List.length_take,List.length_drop,List.length_nil] at this
         omega
      ·rw [hb',b7h hkl hk1,List.any_append,← hk4]; simp
     cases b with
     | true =>
       simp only [cond_true]
       exact⟨rfl,⟨(k+1,true),nxt true (by simp)⟩,by dsimp only; omega,[.id 0,.id 1,.id 2,.id 3],by(exact zC)⟩
     | false =>
       simp only [cond_false]
       exact⟨rfl,⟨(k+1,l[k].2),nxt _ (by simp)⟩,by dsimp only; omega,[.id 0,.id 1,.id 2,.id 3],by(exact zC)⟩
    ·simp only [show xcm .lss ((k:Nat):Int) ((e:Nat):Int)=false from a6h (by omega),cond_false]
     exact⟨rfl,⟨(k,b),fin (.inl (by omega))⟩,[.id 0,.id 1,.id 2,.id 3],by(exact zC)⟩
   dsimp only at hk1 hk2 hk3 hk4 hk5 ⊢
   refine SSp.last a0j (n:=40) (a0y (Nat.le_of_ble_eq_true rfl)) ?_
   rw [g8s]
   have hsl:a3o (a0f tkR l) i (k - i)=a0f tkR ((l.drop i).take (k - i)):=by
    rw [b2z,b2z,List.map_take,List.map_drop]; rfl
   have hen:c7s (a0f tkR ((l.drop i).take (k - i)))=b4z (((l.drop i).take (k - i)).map (·.1)):=by
    rw [b2z,c7s,List.map_map]; rfl
   have hi3:c7r (a0f tkR ((l.drop i).take (k - i)))=true:=by
    rw [b2z,c7r,List.all_map,List.all_eq_true]; intro x _; rfl
   have hsne:(l.drop i).take (k - i)≠[]:=by
    intro z
    have:=congrArg List.length z
    rw [List.length_take,List.length_drop,List.length_nil] at this
    omega
   have y1:xle i k=true:=a1n (by omega)
   have y2:xle k l.length=true:=a1n (by omega)
   have y3:xle (i+(k - i)) l.length=true:=a1n (by omega)
   have y4:xle (ws.length+1) 1000000=true:=a1n (by omega)
   have y5:xle (ws.length * 4) (ws.length * 4)=true:=a1n (Nat.le_refl _)
   have hp:=d7r ws (d7t ((l.drop i).take (k - i)) ln ((i:Int)+1))
   rw [a2g] at hp
   have hp':a6n (a3o (a0f rwC ws) 0 (ws.length * 4)) [.str (b4z (((l.drop i).take (k - i)).map (·.1))),.int .i64 ln,.int .i64 ((i:Int)+1),.bool b]=a0f rwC (ws++[d7t ((l.drop i).take (k - i)) ln ((i:Int)+1)]):=by rw [← hp,hk4]; rfl
   have nw2:=a3k (ws++[d7t ((l.drop i).take (k - i)) ln ((i:Int)+1)])
   have wsub:∀ a b:Nat,c3g a b=a - b:=fun _ _=>rfl
   simp only [a2w,a5j,a1o,a2g,a3e,wsub,Nat.zero_add,Nat.mul_one,ll,lw,hsl,hen,hi3,y1,y2,y3,y4,y5,hp',cond_true]
   rw [show ws.length+1=(ws++[d7t ((l.drop i).take (k - i)) ln ((i:Int)+1)]).length by simp]
   refine⟨rfl,⟨⟨ws++[d7t ((l.drop i).take (k - i)) ln ((i:Int)+1)],k⟩,⟨?_,?_⟩,by dsimp only; omega,hk2⟩,[.id 0,.id 1,.id 5],by(exact zC)⟩
   ·dsimp only; rw [List.length_append]; simp; omega
   ·dsimp only
    have hW:cuW ln (cuR ln (l.take k))=ws++[d7t ((l.drop i).take (k - i)) ln ((i:Int)+1)]:=by
     rw [hk3,cuW,if_neg hsne]
    by_cases q:k=e
    ·subst q
     exact .inr ⟨rfl,by rw [cuF,hE,hW]⟩
    ·rcases hk5 with h5 | ⟨h5,h6⟩
     ·exact absurd h5 q
     ·refine .inl ⟨by omega,(i:Int)+1,?_⟩
      rw [b9r h5,cuS,if_pos h6,hW,hk3]; simp
  dsimp only at hI1 hi1 hi2 ⊢
  have nw1:=a3k ws1
  refine SSp.last a0j (n:=40) (a0y (Nat.le_of_ble_eq_true rfl)) ?_
  rw [g8r]
  have e3:xar .add .i64 (i1:Int) 1=((i1+1:Nat):Int):=by rw [a5c (by omega) (by omega)]; rfl
  rw [e3]
  exact⟨rfl,⟨⟨ws1,i1+1⟩,hI1⟩,by dsimp only; omega,[.id 0,.id 1,.id 2],by(exact zC)⟩
 refine SSp.last a0j (n:=40) (a0y (Nat.le_of_ble_eq_true rfl)) ?_
 have nF:=a3k (cuF ln l)
 rw [g8p]
 have e3:xar .add .i64 (e:Int) 1=((cuE l).length:Int)+1:=by rw [eL]; exact a5c (by omega) (by omega)
 rw [e3]
 exact⟨trivial,rfl,.tup [.slo 2 0 (cuF ln l).length 0,.int .i64 (((cuE l).length:Int)+1)],_,[.id 0,.id 1,.id 2],⟨rfl,rfl⟩,by(exact zC)⟩
def tkD:List LV→List LV→List Tk
 | .int _ r::a,.bool b::c=>(r,b)::tkD a c
 | _,_=>[]
theorem b5j:∀ l:List Tk,tkD (a0f tkR l) (a0f tkB l)=l
 | []=>rfl
 | x::r=>by simp [a0f,tkD,b5j r]
def d8o (n m:Nat) (lx bx:List LV):Bool:=@decide (∃ l:List Tk,lx=a0f tkR l∧bx=a0f tkB l∧l.length=n∧m=n∧n≤100000) (Classical.propDecidable _)
def cuX (ln:Int) (lx bx:List LV):List LV:=a0f rwC (cuF ln (tkD lx bx))
def cuN (ln:Int) (lx bx:List LV):Nat:=(cuF ln (tkD lx bx)).length
def cuZ (lx bx:List LV):Int:=((cuE (tkD lx bx)).length:Int)+1
theorem b8v {n m:Nat} {lx bx:List LV}:d8o n m lx bx=true↔∃ l:List Tk,lx=a0f tkR l∧bx=a0f tkB l∧l.length=n∧m=n∧n≤100000:=by simp only [d8o,decide_eq_true_eq]
theorem g8w (n m:Nat) (ln:Int) (lx bx:List LV) (k1:d8o n m lx bx=true):a0k prog 34 [.slo 0 0 n 0,.slo 1 0 m 0,.int .i64 ln] (mkS [.cells lx (some 1),.cells bx (some 1)] []) fun v st=>v=.tup [.slo 2 0 (cuN ln lx bx) 0,.int .i64 (cuZ lx bx)]∧st=mkS [.cells lx (some 1),.cells bx (some 1),.cells (cuX ln lx bx) (some 4)] []:=by
 obtain⟨l,rfl,rfl,rfl,rfl,hl⟩:=b8v.1 k1
 rw [cuN,cuZ,cuX,b5j]
 exact g1o ln l hl
def cuG:Gc:=fun args s=>match args,s.g with
 | [.slo a 0 n 0,.slo b 0 m 0,.int .i64 ln],[]=>(match s.h.get a with
   | some (.cells lx (some 1))=>(match s.h.get b with
     | some (.cells bx (some 1))=>cond (a3q [a,b]) (match s.lay [a,b] [.cells lx (some 1),.cells bx (some 1)] [.cells (cuX ln lx bx) (some 4)] with
       | some s'=>some ([d8o n m lx bx],.tup [.slo s.n 0 (cuN ln lx bx) 0,.int .i64 (cuZ lx bx)],s')
       | none=>none) none
     | _=>none)
   | _=>none)
 | _,_=>none
theorem f5l:GOk prog 34 cuG:=by
 intro args s bs l s' hg hb hfr
 unfold cuG at hg
 split at hg
 ·rename_i a n b m ln hgl
  split at hg
  ·rename_i lx hb0
   split at hg
   ·rename_i bx hb1
    cases hbc:a3q [a,b] with
    | false=>rw [hbc] at hg; cases hg
    | true =>
      rw [hbc] at hg
      simp only [cond_true] at hg
      split at hg
      ·rename_i s1 hs1
       simp only [Option.some.injEq,Prod.mk.injEq] at hg
       obtain⟨rfl,rfl,rfl⟩:=hg
       simp only [a0g] at hb
       obtain⟨k1,_⟩:=hb
       obtain⟨zl,ze,zf,_,_,_⟩:=b8v.1 k1; have n1:a1q lx=true:=ze▸a6e zl; have n2:a1q bx=true:=zf▸a6f zl; have n3:a1q (cuX ln lx bx)=true:=a3k _
       refine a0k.lay (bs:=[.cells lx (some 1),.cells bx (some 1)]) (args0:=[.slo 0 0 n 0,.slo 1 0 m 0,.int .i64 ln]) (bs':=[.cells lx (some 1),.cells bx (some 1),.cells (cuX ln lx bx) (some 4)]) (v0:=.tup [.slo 2 0 (cuN ln lx bx) 0,.int .i64 (cuZ lx bx)]) hfr hs1 (a4t hbc)
        ⟨⟨a3j hfr hb0,_,hb0,a0e (by(exact zId)),fun κ hκ=>a0e (by(exact zId))⟩,⟨a3j hfr hb1,_,hb1,a0e (by(exact zId)),fun κ hκ=>a0e (by(exact zId))⟩,trivial⟩ (by(exact zTl)) ?_
        fun κ h1 h2=>⟨⟨a0e (by(exact zId)),a0e (by(exact zId)),a0e (by(exact zId)),trivial⟩,(b6a (a0d (a0n (h2 0 (by simp))) (a0d (a1u) a0u)))⟩
       rw [hgl]; exact(g8w n m ln lx bx k1)
      ·cases hg
   ·cases hg
  ·cases hg
 ·cases hg
end
end Go.Lev
