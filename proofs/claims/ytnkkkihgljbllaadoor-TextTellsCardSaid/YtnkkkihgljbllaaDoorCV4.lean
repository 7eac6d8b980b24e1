import Derived.Test.YtnkkkihgljbllaaDoorLc
import Derived.Test.YtnkkkihgljbllaaDoorChecked
import Derived.KernelRfl
/- text: a text cut into lines of words: its trees -/
namespace Go.Lev
set_option linter.unusedSimpArgs false
set_option linter.unusedVariables false
open Go.RowKit
open Go.Proofs.Tryd (prog)
set_option maxRecDepth 100000
noncomputable section
abbrev slL:List Nat:=[0,2,3,4,5,12,13,25]
abbrev snX:Cx:=fun _=>none
abbrev snC (t:List UInt8) (nl nw:Nat) (e c s f:Int) (m:Bool):List LV:=[.str t,.slo 1 0 nl 0,.slo 2 0 nw 0,.int .i64 e,.int .i64 c,.int .i64 s,.int .i64 f,.bool m]
abbrev snT (t:List UInt8):List (Nat×LV):=[(0,.str t),(2,.nils),(3,.ptr 0 0),(12,.ptr 3 0)]
abbrev f6j (t:List UInt8) (i:Nat) (r:Int):List (Nat×LV):=[(0,.str t),(2,.nils),(3,.ptr 0 0),(12,.ptr 3 0),(13,.tup [.bool true,.int .i64 (.ofNat i),.int .i32 r])]
abbrev d7p (t:List UInt8):List (Nat×LV):=[(0,.str t),(2,.nils),(3,.ptr 0 0)]
abbrev f7k (t:List UInt8) (q:Bool):List (Nat×LV):=[(0,.str t),(2,.nils),(3,.ptr 0 0),(25,.bool q)]
abbrev snP (t:List UInt8) (nl nw:Nat) (f:Int) (lx wx:List LV) (p:Nat) (o:LB):List LB:=[.cells [.str t,.slo 1 0 nl 0,.nils,.int .i64 (Int.ofNat 0),.int .i64 (Int.ofNat 1),.int .i64 (Int.negSucc 0),.int .i64 f,.bool false] none,.cells lx (some 2),.cells wx (some 2),.iter t p,o,.dead]
abbrev snQ (t:List UInt8) (nl:Nat) (f:Int) (lx:List LV) (p:Nat) (o:LB):List LB:=[.cells [.str t,.slo 1 0 nl 0,.nils,.int .i64 (Int.ofNat 0),.int .i64 (Int.ofNat 1),.int .i64 (Int.negSucc 0),.int .i64 f,.bool false] none,.cells lx (some 2),.dead,.iter t p,.dead,.dead,o,.dead]
abbrev snH (t:List UInt8) (nl nw:Nat) (e c s f:Int) (m:Bool) (lx wx:List LV) (p:Nat) (o:LB):List LB:=[.cells (snC t nl nw e c s f m) none,.cells lx (some 2),.cells wx (some 2),.iter t p,o,.dead]
theorem g3z (t:List UInt8) (K:Pk):(xsp prog snX 60 34 (seg (sp prog 46) 0 4) (tm0 [.str t]) (mkS [] []) (vK slL K))=(
 K .normal [.str t,.nils,.ptr 0 0,.tup [],.tup [],.ptr 1 0,.tup [],.tup []] [sN [.str t,.nils,.nils,.int .i64 0,.int .i64 1,.int .i64 (-1),.int .i64 0,.bool false],some (.iter t 0)] []):=by kernel_rfl
theorem g1z (t:List UInt8) (nl nw:Nat) (e c s f:Int) (m:Bool) (lx wx:List LV) (p:Nat) (o:LB) (K:Pk):(xsp prog snX 60 34 (seg (a3l (a1w (a4i (sp prog 46) 4))) 0 2) (a1p 34 (snT t)) (mkS (snH t nl nw e c s f m lx wx p o) []) (vK slL K))=(
 bif xle (a0a p 1) (a0z t) then(
 K .normal [.str t,.nils,.ptr 0 0,.any,.any,.ptr 3 0,.tup [.bool true,.int .i64 (Int.ofNat p),.int .i32 (xrn t p)],.any] [sN [.str t,.slo 1 0 nl 0,.slo 2 0 nw 0,.int .i64 e,.int .i64 c,.int .i64 s,.int .i64 f,.bool m],sC lx 2,sC wx 2,some (.iter t (a0a p (xrw t p))),some o,sD] [])
 else(
 K (.exit 0) [.str t,.nils,.ptr 0 0,.any,.any,.ptr 3 0,.tup [.bool false],.any] [sN [.str t,.slo 1 0 nl 0,.slo 2 0 nw 0,.int .i64 e,.int .i64 c,.int .i64 s,.int .i64 f,.bool m],sC lx 2,sC wx 2,some (.iter t p),some o,sD] [])):=by kernel_rfl
abbrev b5n (t:List UInt8) (nl:Nat) (nw:Nat) (e:Int) (c:Int) (s:Int) (f:Int) (m:Bool) (lx:List LV) (wx:List LV) (p:Nat) (o:LB):List (Option LB):=[sN [.str t,.slo 1 0 nl 0,.slo 2 0 nw 0,.int .i64 e,.int .i64 (xar .add .i64 c 1),.int .i64 s,.int .i64 f,.bool m],sC lx 2,sC wx 2,some (.iter t p),some o,sD]
abbrev c3z (t:List UInt8) (nl:Nat) (nw:Nat) (e:Int) (c:Int) (s:Int) (f:Int) (m:Bool) (lx:List LV) (wx:List LV) (p:Nat) (o:LB) (i:Nat):List (Option LB):=[sN [.str t,.slo 1 0 nl 0,.slo 7 0 (a0a nw 1) 0,.int .i64 e,.int .i64 (xar .add .i64 c 1),.int .i64 (-1),.int .i64 f,.bool m],sC lx 2,sD,some (.iter t p),some o,sD,sN [.str (a0v t (a0c s) i),.int .i64 f],sC (a6n (a3o wx 0 (a1t nw 2)) [.str (a0v t (a0c s) i),.int .i64 f]) 2]
theorem g3y (t:List UInt8) (nl nw:Nat) (e c s f:Int) (m:Bool) (lx wx:List LV) (p:Nat) (o:LB) (i:Nat) (r:Int) (K:Pk):(xsp prog snX 60 34 ((a3l (a1w (a4i (sp prog 46) 4))).drop 2) (a1p 34 (f6j t i r)) (mkS (snH t nl nw e c s f m lx wx p o) []) (vK slL K))=(
 bif xcm .eql r 10 then(
 bif a3i m then(
 bif xcm .neq s (-1) then(
 ck (xnn s) <|
 ck (xle (a0c s) i) <|
 ck (xle i (a0z t)) <|
 ck (xle (a0a nw 1) 1000000) <|
 ck (xle (a0a 0 (a1t nw 2)) (xln wx)) <|
 ck (xeq nw nw) <|
 ck (xeq nw nw) <|
 ck (xle (a0a nl 1) 1000000) <|
 ck (xle (a0a 0 (a1t nl 2)) (xln lx)) <|
 ck (xeq nl nl) <|
 ck (xeq nl nl) <|
 K .normal [.str t,.nils,.ptr 0 0,.int .i64 (Int.ofNat i),.int .i32 r,.ptr 3 0,.tup [.bool true,.int .i64 (Int.ofNat i),.int .i32 r],.any] [sN [.str t,.slo 9 0 (a0a nl 1) 0,.nils,.int .i64 0,.int .i64 1,.int .i64 (-1),.int .i64 f,.bool false],sD,sD,some (.iter t p),some o,sD,sN [.str (a0v t (a0c s) i),.int .i64 f],sC (a6n (a3o wx 0 (a1t nw 2)) [.str (a0v t (a0c s) i),.int .i64 f]) 2,sN [.slo 7 0 (a0a nw 1) 0,.int .i64 c],sC (a6n (a3o lx 0 (a1t nl 2)) [.slo 7 0 (a0a nw 1) 0,.int .i64 c]) 2] [])
 else(
 ck (xle (a0a nl 1) 1000000) <|
 ck (xle (a0a 0 (a1t nl 2)) (xln lx)) <|
 ck (xeq nl nl) <|
 ck (xeq nl nl) <|
 K .normal [.str t,.nils,.ptr 0 0,.int .i64 (Int.ofNat i),.int .i32 r,.ptr 3 0,.tup [.bool true,.int .i64 (Int.ofNat i),.int .i32 r],.any] [sN [.str t,.slo 7 0 (a0a nl 1) 0,.nils,.int .i64 0,.int .i64 1,.int .i64 (-1),.int .i64 f,.bool false],sD,sC wx 2,some (.iter t p),some o,sD,sN [.slo 2 0 nw 0,.int .i64 c],sC (a6n (a3o lx 0 (a1t nl 2)) [.slo 2 0 nw 0,.int .i64 c]) 2] []))
 else(
 ck (xle (a0a nl 1) 1000000) <|
 ck (xle (a0a 0 (a1t nl 2)) (xln lx)) <|
 ck (xeq nl nl) <|
 ck (xeq nl nl) <|
 K .normal [.str t,.nils,.ptr 0 0,.int .i64 (Int.ofNat i),.int .i32 r,.ptr 3 0,.tup [.bool true,.int .i64 (Int.ofNat i),.int .i32 r],.any] [sN [.str t,.slo 7 0 (a0a nl 1) 0,.nils,.int .i64 0,.int .i64 1,.int .i64 (-1),.int .i64 f,.bool false],sD,sC wx 2,some (.iter t p),some o,sD,sN [.slo 2 0 nw 0,.int .i64 e],sC (a6n (a3o lx 0 (a1t nl 2)) [.slo 2 0 nw 0,.int .i64 e]) 2] []))
 else(
 bif m then(
 K .normal [.str t,.nils,.ptr 0 0,.int .i64 (Int.ofNat i),.int .i32 r,.ptr 3 0,.tup [.bool true,.int .i64 (Int.ofNat i),.int .i32 r],.any] (b5n t nl nw e c s f m lx wx p o) [])
 else(
 bif xcm .eql r 59 then(
 bif xcm .neq s (-1) then(
 ck (xnn s) <|
 ck (xle (a0c s) i) <|
 ck (xle i (a0z t)) <|
 ck (xle (a0a nw 1) 1000000) <|
 ck (xle (a0a 0 (a1t nw 2)) (xln wx)) <|
 ck (xeq nw nw) <|
 ck (xeq nw nw) <|
 K .normal [.str t,.nils,.ptr 0 0,.int .i64 (Int.ofNat i),.int .i32 r,.ptr 3 0,.tup [.bool true,.int .i64 (Int.ofNat i),.int .i32 r],.any] [sN [.str t,.slo 1 0 nl 0,.slo 7 0 (a0a nw 1) 0,.int .i64 c,.int .i64 (xar .add .i64 c 1),.int .i64 (-1),.int .i64 f,.bool true],sC lx 2,sD,some (.iter t p),some o,sD,sN [.str (a0v t (a0c s) i),.int .i64 f],sC (a6n (a3o wx 0 (a1t nw 2)) [.str (a0v t (a0c s) i),.int .i64 f]) 2] [])
 else(
 K .normal [.str t,.nils,.ptr 0 0,.int .i64 (Int.ofNat i),.int .i32 r,.ptr 3 0,.tup [.bool true,.int .i64 (Int.ofNat i),.int .i32 r],.any] [sN [.str t,.slo 1 0 nl 0,.slo 2 0 nw 0,.int .i64 c,.int .i64 (xar .add .i64 c 1),.int .i64 s,.int .i64 f,.bool true],sC lx 2,sC wx 2,some (.iter t p),some o,sD] []))
 else(
 bif xcm .eql r 32 then(
 bif xcm .neq s (-1) then(
 ck (xnn s) <|
 ck (xle (a0c s) i) <|
 ck (xle i (a0z t)) <|
 ck (xle (a0a nw 1) 1000000) <|
 ck (xle (a0a 0 (a1t nw 2)) (xln wx)) <|
 ck (xeq nw nw) <|
 ck (xeq nw nw) <|
 K .normal [.str t,.nils,.ptr 0 0,.int .i64 (Int.ofNat i),.int .i32 r,.ptr 3 0,.tup [.bool true,.int .i64 (Int.ofNat i),.int .i32 r],.any] (c3z t nl nw e c s f m lx wx p o i) [])
 else(
 K .normal [.str t,.nils,.ptr 0 0,.int .i64 (Int.ofNat i),.int .i32 r,.ptr 3 0,.tup [.bool true,.int .i64 (Int.ofNat i),.int .i32 r],.any] (b5n t nl nw e c s f m lx wx p o) []))
 else(
 bif xcm .eql r 9 then(
 bif xcm .neq s (-1) then(
 ck (xnn s) <|
 ck (xle (a0c s) i) <|
 ck (xle i (a0z t)) <|
 ck (xle (a0a nw 1) 1000000) <|
 ck (xle (a0a 0 (a1t nw 2)) (xln wx)) <|
 ck (xeq nw nw) <|
 ck (xeq nw nw) <|
 K .normal [.str t,.nils,.ptr 0 0,.int .i64 (Int.ofNat i),.int .i32 r,.ptr 3 0,.tup [.bool true,.int .i64 (Int.ofNat i),.int .i32 r],.any] (c3z t nl nw e c s f m lx wx p o i) [])
 else(
 K .normal [.str t,.nils,.ptr 0 0,.int .i64 (Int.ofNat i),.int .i32 r,.ptr 3 0,.tup [.bool true,.int .i64 (Int.ofNat i),.int .i32 r],.any] (b5n t nl nw e c s f m lx wx p o) []))
 else(
 bif xcm .eql s (-1) then(
 K .normal [.str t,.nils,.ptr 0 0,.int .i64 (Int.ofNat i),.int .i32 r,.ptr 3 0,.tup [.bool true,.int .i64 (Int.ofNat i),.int .i32 r],.any] [sN [.str t,.slo 1 0 nl 0,.slo 2 0 nw 0,.int .i64 e,.int .i64 (xar .add .i64 c 1),.int .i64 (Int.ofNat i),.int .i64 c,.bool m],sC lx 2,sC wx 2,some (.iter t p),some o,sD] [])
 else(
 K .normal [.str t,.nils,.ptr 0 0,.int .i64 (Int.ofNat i),.int .i32 r,.ptr 3 0,.tup [.bool true,.int .i64 (Int.ofNat i),.int .i32 r],.any] (b5n t nl nw e c s f m lx wx p o) []))))))):=by kernel_rfl
theorem g3x (t:List UInt8) (nl nw:Nat) (e c s f:Int) (m:Bool) (lx wx:List LV) (p:Nat) (o:LB) (K:Pk):(xsp prog snX 60 34 (seg (sp prog 46) 5 1) (a1p 34 (d7p t)) (mkS (snH t nl nw e c s f m lx wx p o) []) (vK slL K))=(
 K .normal [.str t,.nils,.ptr 0 0,.any,.any,.any,.any,.bool (xcm .gtr c 1)] [sN [.str t,.slo 1 0 nl 0,.slo 2 0 nw 0,.int .i64 e,.int .i64 c,.int .i64 s,.int .i64 f,.bool m],sC lx 2,sC wx 2,some (.iter t p),some o,sD] []):=by kernel_rfl
theorem g1y (t:List UInt8) (nl nw:Nat) (e c s f:Int) (m:Bool) (lx wx:List LV) (p:Nat) (o:LB) (q:Bool) (K:Pk):(a1h prog snX 60 34 (a4i (sp prog 46) 6) (a1p 34 (f7k t q)) (mkS (snH t nl nw e c s f m lx wx p o) []) (vK slL K))=(
 bif q then(
 bif a3i m then(
 bif xcm .neq s (-1) then(
 ck (xnn s) <|
 ck (xle (a0c s) (a0c ↑(a0z t))) <|
 ck (xle (a0c ↑(a0z t)) (a0z t)) <|
 ck (xle (a0a nw 1) 1000000) <|
 ck (xle (a0a 0 (a1t nw 2)) (xln wx)) <|
 ck (xeq nw nw) <|
 ck (xeq nw nw) <|
 ck (xle (a0a nl 1) 1000000) <|
 ck (xle (a0a 0 (a1t nl 2)) (xln lx)) <|
 ck (xeq nl nl) <|
 ck (xeq nl nl) <|
 K .normal [.str t,.nils,.ptr 0 0,.any,.any,.any,.any,.bool q] [sN [.str t,.slo 9 0 (a0a nl 1) 0,.nils,.int .i64 0,.int .i64 1,.int .i64 (-1),.int .i64 f,.bool false],sD,sD,some (.iter t p),some o,sD,sN [.str (a0v t (a0c s) (a0c ↑(a0z t))),.int .i64 f],sC (a6n (a3o wx 0 (a1t nw 2)) [.str (a0v t (a0c s) (a0c ↑(a0z t))),.int .i64 f]) 2,sN [.slo 7 0 (a0a nw 1) 0,.int .i64 c],sC (a6n (a3o lx 0 (a1t nl 2)) [.slo 7 0 (a0a nw 1) 0,.int .i64 c]) 2] [])
 else(
 ck (xle (a0a nl 1) 1000000) <|
 ck (xle (a0a 0 (a1t nl 2)) (xln lx)) <|
 ck (xeq nl nl) <|
 ck (xeq nl nl) <|
 K .normal [.str t,.nils,.ptr 0 0,.any,.any,.any,.any,.bool q] [sN [.str t,.slo 7 0 (a0a nl 1) 0,.nils,.int .i64 0,.int .i64 1,.int .i64 (-1),.int .i64 f,.bool false],sD,sC wx 2,some (.iter t p),some o,sD,sN [.slo 2 0 nw 0,.int .i64 c],sC (a6n (a3o lx 0 (a1t nl 2)) [.slo 2 0 nw 0,.int .i64 c]) 2] []))
 else(
 ck (xle (a0a nl 1) 1000000) <|
 ck (xle (a0a 0 (a1t nl 2)) (xln lx)) <|
 ck (xeq nl nl) <|
 ck (xeq nl nl) <|
 K .normal [.str t,.nils,.ptr 0 0,.any,.any,.any,.any,.bool q] [sN [.str t,.slo 7 0 (a0a nl 1) 0,.nils,.int .i64 0,.int .i64 1,.int .i64 (-1),.int .i64 f,.bool false],sD,sC wx 2,some (.iter t p),some o,sD,sN [.slo 2 0 nw 0,.int .i64 e],sC (a6n (a3o lx 0 (a1t nl 2)) [.slo 2 0 nw 0,.int .i64 e]) 2] []))
 else(
 K .normal [.str t,.nils,.ptr 0 0,.any,.any,.any,.any,.bool q] [sN [.str t,.slo 1 0 nl 0,.slo 2 0 nw 0,.int .i64 e,.int .i64 c,.int .i64 s,.int .i64 f,.bool m],sC lx 2,sC wx 2,some (.iter t p),some o,sD] [])):=by kernel_rfl
theorem g3w (t:List UInt8) (nl nw:Nat) (e c s f:Int) (m:Bool) (lx wx:List LV) (p:Nat) (o:LB) (K:Pk):(xsp prog snX 60 34 ((sp prog 46).drop 7) (a1p 34 (d7p t)) (mkS (snH t nl nw e c s f m lx wx p o) []) (vK slL K))=(
 K .ret [.str t,.slo 1 0 nl 0,.ptr 0 0,.any,.any,.any,.any,.any] [sN [.str t,.slo 1 0 nl 0,.slo 2 0 nw 0,.int .i64 e,.int .i64 c,.int .i64 s,.int .i64 f,.bool m],sC lx 2,sC wx 2,some (.iter t p),some o,sD] []):=by kernel_rfl
theorem g3u (t:List UInt8) (nl:Nat) (f:Int) (lx:List LV) (p:Nat) (o:LB) (K:Pk):(xsp prog snX 60 34 (seg (a3l (a1w (a4i (sp prog 46) 4))) 0 0) (a1p 34 (snT t)) (mkS (snQ t nl f lx p o) []) (vK slL K))=(
 K .normal [.str t,.nils,.ptr 0 0,.any,.any,.ptr 3 0,.any,.any] [sN [.str t,.slo 1 0 nl 0,.nils,.int .i64 0,.int .i64 1,.int .i64 (-1),.int .i64 f,.bool false],sC lx 2,sD,some (.iter t p),sD,sD,some o,sD] []):=by kernel_rfl
theorem g3v (t:List UInt8) (nl:Nat) (f:Int) (lx:List LV) (p:Nat) (o:LB) (K:Pk):(xsp prog snX 60 34 ((sp prog 46).drop 7) (a1p 34 (d7p t)) (mkS (snQ t nl f lx p o) []) (vK slL K))=(
 K .ret [.str t,.slo 1 0 nl 0,.ptr 0 0,.any,.any,.any,.any,.any] [sN [.str t,.slo 1 0 nl 0,.nils,.int .i64 0,.int .i64 1,.int .i64 (-1),.int .i64 f,.bool false],sC lx 2,sD,some (.iter t p),sD,sD,some o,sD] []):=by kernel_rfl
end
end Go.Lev
/- text: a text cut into lines of words, as lists; split -/
namespace Go.Lev
set_option linter.unusedSimpArgs false
set_option linter.unusedVariables false
open Go.RowKit
open Go.Proofs.Tryd (prog)
set_option maxRecDepth 100000
noncomputable section
abbrev Wd:=List UInt8×Int
abbrev wdC (x:Wd):List LV:=[.str x.1,.int .i64 x.2]
structure LnS where
 ws:List Wd
 e:Int
structure LnV where
 v:Value
 s:LnS
abbrev lnC (x:LnV):List LV:=[.val x.v,.int .i64 x.s.e]
theorem d7k (x:Wd):(wdC x).length=2:=rfl
theorem c4r (x:LnV):(lnC x).length=2:=rfl
theorem f6g (xs:List Wd):(a0f wdC xs).length=xs.length * 2:=a1v d7k xs
theorem d4p (xs:List LnV):(a0f lnC xs).length=xs.length * 2:=a1v c4r xs
theorem a3g (xs:List Wd):a1q (a0f wdC xs)=true:=a1y (fun _=>rfl) xs
theorem a5z (xs:List LnV):a1q (a0f lnC xs)=true:=a1y (fun _=>rfl) xs
theorem c9o (xs:List Wd) (a:List UInt8) (z:Int):a6n (a3o (a0f wdC xs) 0 (xs.length * 2)) [.str a,.int .i64 z]=a0f wdC (xs++[(a,z)]):=by
 rw [a3r (by rw [f6g]; omega),a1r]; rfl
theorem d3a (xs:List Wd):(a0f wdC xs).all b3h=true:=by
 induction xs with
 | nil=>rfl
 | cons x r ih=>rw [a0f,List.all_append,ih]; rfl
theorem f5n (xs:List LnV):(a0f lnC xs).all b3h=true:=by
 induction xs with
 | nil=>rfl
 | cons x r ih=>rw [a0f,List.all_append,ih]; rfl
structure SpS where
 ws:List Wd
 e:Int
 c:Int
 s:Int
 f:Int
 m:Bool
def spW (t:List UInt8) (S:SpS) (i:Nat):List Wd:=if S.s = -1 then S.ws else S.ws++[(a0v t (a0c S.s) i,S.f)]
def spL (t:List UInt8) (S:SpS) (i:Nat):LnS:=if S.m then⟨S.ws,S.e⟩ else⟨spW t S i,S.c⟩
def spN (S:SpS):SpS:=⟨[],0,1,-1,S.f,false⟩
def spR (t:List UInt8) (S:SpS) (i:Nat) (r:Int):SpS :=
 if S.m then { S with c:=S.c+1 }
 else if r=59 then⟨spW t S i,S.c,S.c+1,-1,S.f,true⟩
 else if r=32∨r=9 then⟨spW t S i,S.e,S.c+1,-1,S.f,false⟩
 else if S.s = -1 then⟨S.ws,S.e,S.c+1,i,S.c,false⟩
 else { S with c:=S.c+1 }
def spG (t:List UInt8) (p:Nat) (S:SpS):List LnS :=
 if h:p < t.length then
  if xrn t p=10 then spL t S p::spG t (p+xrw t p) (spN S) else spG t (p+xrw t p) (spR t S p (xrn t p))
 else if 1 < S.c then [spL t S t.length] else []
termination_by t.length - p
decreasing_by all_goals (have:=b1o h; omega)
def spZ:SpS:=⟨[],0,1,-1,0,false⟩
def spA (t:List UInt8):List LnS:=spG t 0 spZ
structure c7l (t:List UInt8) (p:Nat) (S:SpS):Prop where
 ht:t.length≤4000
 hp:p≤t.length
 hc:1≤S.c∧S.c≤p+1
 hf:0≤S.f∧S.f≤p+1
 hs:S.s = -1∨0≤S.s∧S.s≤p
 hw:S.ws.length≤p
theorem c3w {t:List UInt8} {S:SpS} {i:Nat}:(spW t S i).length≤S.ws.length+1:=by unfold spW; split <;> simp
theorem c7l.next {t:List UInt8} {p:Nat} {S:SpS} (h:c7l t p S) (hp:p < t.length) (r:Int):c7l t (p+xrw t p) (spR t S p r):=by
 have hw:=b1o hp
 obtain⟨h1,h2,h3,h4,h5,h6⟩:=h
 have hl:=c3w (t:=t) (S:=S) (i:=p)
 unfold spR
 split
 ·exact⟨h1,hw.2,⟨by first | exact .inl rfl | (simp only; omega) | (exact .inl trivial) | (dsimp only; omega),by first | exact .inl rfl | (simp only; omega) | (exact .inl trivial) | (dsimp only; omega)⟩,⟨by first | exact .inl rfl | (simp only; omega) | (exact .inl trivial) | (dsimp only; omega),by first | exact .inl rfl | (simp only; omega) | (exact .inl trivial) | (dsimp only; omega)⟩,by first | exact .inl rfl | (simp only; omega) | (exact .inl trivial) | (dsimp only; omega),by first | exact .inl rfl | (simp only; omega) | (exact .inl trivial) | (dsimp only; omega)⟩
 ·split
  ·exact⟨h1,hw.2,⟨by first | exact .inl rfl | (simp only; omega) | (exact .inl trivial) | (dsimp only; omega),by first | exact .inl rfl | (simp only; omega) | (exact .inl trivial) | (dsimp only; omega)⟩,⟨by first | exact .inl rfl | (simp only; omega) | (exact .inl trivial) | (dsimp only; omega),by first | exact .inl rfl | (simp only; omega) | (exact .inl trivial) | (dsimp only; omega)⟩,by first | exact .inl rfl | (simp only; omega) | (exact .inl trivial) | (dsimp only; omega),by first | exact .inl rfl | (simp only; omega) | (exact .inl trivial) | (dsimp only; omega)⟩
  ·split
   ·exact⟨h1,hw.2,⟨by first | exact .inl rfl | (simp only; omega) | (exact .inl trivial) | (dsimp only; omega),by first | exact .inl rfl | (simp only; omega) | (exact .inl trivial) | (dsimp only; omega)⟩,⟨by first | exact .inl rfl | (simp only; omega) | (exact .inl trivial) | (dsimp only; omega),by first | exact .inl rfl | (simp only; omega) | (exact .inl trivial) | (dsimp only; omega)⟩,by first | exact .inl rfl | (simp only; omega) | (exact .inl trivial) | (dsimp only; omega),by first | exact .inl rfl | (simp only; omega) | (exact .inl trivial) | (dsimp only; omega)⟩
   ·split
    ·exact⟨h1,hw.2,⟨by first | exact .inl rfl | (simp only; omega) | (exact .inl trivial) | (dsimp only; omega),by first | exact .inl rfl | (simp only; omega) | (exact .inl trivial) | (dsimp only; omega)⟩,⟨by first | exact .inl rfl | (simp only; omega) | (exact .inl trivial) | (dsimp only; omega),by first | exact .inl rfl | (simp only; omega) | (exact .inl trivial) | (dsimp only; omega)⟩,by first | exact .inl rfl | (simp only; omega) | (exact .inl trivial) | (dsimp only; omega),by first | exact .inl rfl | (simp only; omega) | (exact .inl trivial) | (dsimp only; omega)⟩
    ·exact⟨h1,hw.2,⟨by first | exact .inl rfl | (simp only; omega) | (exact .inl trivial) | (dsimp only; omega),by first | exact .inl rfl | (simp only; omega) | (exact .inl trivial) | (dsimp only; omega)⟩,⟨by first | exact .inl rfl | (simp only; omega) | (exact .inl trivial) | (dsimp only; omega),by first | exact .inl rfl | (simp only; omega) | (exact .inl trivial) | (dsimp only; omega)⟩,by first | exact .inl rfl | (simp only; omega) | (exact .inl trivial) | (dsimp only; omega),by first | exact .inl rfl | (simp only; omega) | (exact .inl trivial) | (dsimp only; omega)⟩
theorem c7l.line {t:List UInt8} {p:Nat} {S:SpS} (h:c7l t p S) (hp:p < t.length):c7l t (p+xrw t p) (spN S):=by
 have hw:=b1o hp
 obtain⟨h1,h2,h3,h4,h5,h6⟩:=h
 exact⟨h1,hw.2,⟨by simp only [spN]; omega,by simp only [spN]; omega⟩,⟨by simp only [spN]; omega,by simp only [spN]; omega⟩,.inl rfl,by simp [spN]⟩
theorem c7l.zero {t:List UInt8} (h:t.length≤4000):c7l t 0 spZ:=⟨h,by omega,⟨by simp [spZ],by simp [spZ]⟩,⟨by simp [spZ],by simp [spZ]⟩,.inl rfl,by simp [spZ]⟩
structure StL (q:SQ) (ls:List LnV):Prop where
 c:∀ W,q.F W→∀ x∈ls,a3b W x.v x.s.ws.length (a0f wdC x.s.ws)
theorem StL.push {q q':SQ} {ls:List LnV} {v:Value} {L:LnS} {n:Nat} {cs:List LV} (h:StL q ls) (hn:n=L.ws.length) (hc:cs=a0f wdC L.ws) (hq:q'.F=fun W=>q.F W∧a3b W v n cs):StL q' (ls++[⟨v,L⟩]):=by
 subst hn hc
 refine⟨fun W hW x hx=>?_⟩
 rw [hq] at hW
 rcases List.mem_append.1 hx with hx | hx
 ·exact h.c W hW.1 x hx
 ·rw [List.mem_singleton.1 hx]; exact hW.2
theorem StL.nil:StL d7n []:=⟨fun _ _ x hx=>by simp at hx⟩
theorem f3r (ls:List LnV) (a b:LV):(a0f lnC ls++[a,b])[ls.length * 2]? = some a:=by
 rw [List.getElem?_append_right (by rw [d4p]; omega),d4p]; simp
theorem d6k (ls:List LnV) (a:LV) (v:Value) (L:LnS):(a0f lnC ls++[a,.int .i64 L.e]).set (ls.length * 2) (.val v)=a0f lnC (ls++[⟨v,L⟩]):=by
 rw [List.set_append_right _ _ (by rw [d4p]; omega),d4p,a1r]; simp [a0f]
theorem c6f {ρ : a2o}:∀ {cs:List LV},a1q cs=true→a5i ρ cs cs
 | [],_=>a0u
 | c::cs,h=>by
   have h':=a4c.1 h
   exact a0d (a1b (h' c (by simp))) (c6f (a4c.2 fun x hx=>h' x (by simp [hx])))
theorem d1g {ρ : a2o}:∀ {a a' b b':List LV},a5i ρ a a'→a5i ρ b b'→a5i ρ (a++b) (a'++b')
 | [],[],b,b',_,k=>k
 | x::a,y::a',b,b',h,k=>by simp only [a5i] at h; exact a0d h.1 (d1g h.2 k)
 | [],_::_,b,b',h,k=>by simp only [a5i] at h
 | _::_,[],b,b',h,k=>by simp only [a5i] at h
theorem a2k {ρ : a2o} {c:Nat} {cs tl tl':List LV} {op:Option Nat} (hno:a1q cs=true) (h:a5i ρ tl tl') (k:LV.any ∉ tl):LBW ρ (.id c) (.cells (cs++tl) op) (some (.cells (cs++tl') op)) :=
 a0o (d1g (c6f hno) h) fun hm=>(List.mem_append.1 hm).elim (fun h=>b2i hno h) k
structure LpX (t:List UInt8) where
 q:SQ
 ls:List LnV
 S:SpS
 pd:Option LnS
 p:Nat
 hS:StL q ls
 hO:c7l t p S
 hl:ls.length+pd.toList.length≤p
 hR:ls.map LnV.s++(pd.toList++spG t p S)=spA t
 hP:∀ L,pd=some L→S=spN S
structure FnX (t:List UInt8) where
 q:SQ
 ls:List LnV
 S:SpS
 pd:Option LnS
 hS:StL q ls
 hR:ls.map LnV.s++pd.toList=spA t
abbrev lpG (t:List UInt8) (o:LB) (ls:List LnV) (S:SpS) (p:Nat) (pd:Option LnS):List LB:=match pd with
 | none=>snH t ls.length S.ws.length S.e S.c S.s S.f S.m (a0f lnC ls) (a0f wdC S.ws) p o
 | some L=>snP t (ls.length+1) L.ws.length S.f (a0f lnC ls++[.slo 2 0 L.ws.length 0,.int .i64 L.e]) (a0f wdC L.ws) p o
theorem d6l (ls:List LnV) (tl:List LV):a6n (a3o (a0f lnC ls) 0 (ls.length * 2)) tl=a0f lnC ls++tl:=by
 rw [a3r (by rw [d4p]; omega)]; rfl
set_option maxHeartbeats 4000000 in
theorem c5x (t:List UInt8) (o:LB) (ls:List LnV) (S:SpS) (p:Nat) (ho:o=.dead∨∃ F,o=.obj stF [.fact F] 5) (hO:c7l t p S) (hl:ls.length≤p) (hp:p < t.length) (K:Pk)
  (hK:∀ (S':SpS) (pd:Option LnS) (ρ : List Src) (vs:List LV) (bs:List (Option LB)),spG t p S=pd.toList++spG t (p+xrw t p) S'→c7l t (p+xrw t p) S'→(∀ L,pd=some L→S'=spN S')→a4f 0 34 slL vs bs ρ (snT t) (lpG t o ls S' (p+xrw t p) pd)→K .normal vs bs []) :
  xsp prog snX 60 34 ((a3l (a1w (a4i (sp prog 46) 4))).drop 2) (a1p 34 (f6j t p (xrn t p))) (mkS (lpG t o ls S (p+xrw t p) none) []) (vK slL K):=by
 obtain⟨ws,e,c,s,f,m⟩:=S
 have nl:=a5z ls; have nw:=a3g ws
 have lnn:=d4p ls; have wnn:=f6g ws
 have wp:=c9o ws
 have lcat:=d6l ls
 have z1:xle (ls.length+1) 1000000=true:=a1n (by have:=hO.ht; omega)
 have z2:xle (ls.length * 2) (ls.length * 2)=true:=a1n (Nat.le_refl _)
 have z3:xeq ls.length ls.length=true:=c2x rfl
 have hw:=b1o hp
 have hO1:=hO.line hp
 have hO2:=hO.next hp (xrn t p)
 have e1:xar .add .i64 c 1=c+1:=by have:=hO.hc; have:=hO.ht; dsimp only at *; exact a5c (by show _≤c+1; omega) (by show c+1≤_; omega)
 dsimp only [lpG]
 rw [g3y]; simp only [b5n,c3z]
 by_cases r1:xrn t p=10
 ·have y1:xcm .eql (xrn t p) 10=true:=a2i r1
  have hG:spG t p ⟨ws,e,c,s,f,m⟩=[spL t ⟨ws,e,c,s,f,m⟩ p]++spG t (p+xrw t p) ⟨[],0,1,-1,f,false⟩:=by rw [spG,dif_pos hp,if_pos r1]; rfl
  rcases ho with rfl | ⟨F,rfl⟩
  ·cases m with
   | true =>
     have hR : [spL t ⟨ws,e,c,s,f,true⟩ p]=[⟨ws,e⟩]:=by simp [spL]
     have y2:a3i true=false:=rfl
     simp only [y1,y2,z1,z2,z3,wnn,lnn,lcat,a2g,a1o,a3e,Nat.zero_add,cond_true,cond_false]
     refine hK ⟨[],0,1,-1,f,false⟩ (some ⟨ws,e⟩) [.id 0,.id 7,.id 2,.id 3,.id 4,.id 5] _ _ (by rw [hG,hR]; first | done | rfl) hO1 (fun _ _=>rfl) ?_
     (refine⟨by kernel_rfl,?_,?_⟩ <;> repeat first | exact a1d | refine a0w ?_ ?_ | exact a0x | refine a0r ?_ ?_ | exact a0u | refine a0d ?_ ?_ | exact a1e | exact a2e | exact a0e (by assumption) | exact a2m rfl | refine a2k (by assumption) ?_ (by simp) | refine a0o ?_ (by simp) | exact a1b rfl | exact a2v rfl | exact a0n rfl)
   | false =>
     have y2:a3i false=true:=rfl
     by_cases hs:s = -1
     ·have hR : [spL t ⟨ws,e,c,s,f,false⟩ p]=[⟨ws,c⟩]:=by simp [spL,spW,hs]
      have y3:xcm .neq s (-1)=false:=a9b hs
      simp only [y1,y2,y3,z1,z2,z3,wnn,lnn,lcat,a2g,a1o,a3e,Nat.zero_add,cond_true,cond_false]
      refine hK ⟨[],0,1,-1,f,false⟩ (some ⟨ws,c⟩) [.id 0,.id 7,.id 2,.id 3,.id 4,.id 5] _ _ (by rw [hG,hR]; first | done | rfl) hO1 (fun _ _=>rfl) ?_
      (refine⟨by kernel_rfl,?_,?_⟩ <;> repeat first | exact a1d | refine a0w ?_ ?_ | exact a0x | refine a0r ?_ ?_ | exact a0u | refine a0d ?_ ?_ | exact a1e | exact a2e | exact a0e (by assumption) | exact a2m rfl | refine a2k (by assumption) ?_ (by simp) | refine a0o ?_ (by simp) | exact a1b rfl | exact a2v rfl | exact a0n rfl)
     ·have hR : [spL t ⟨ws,e,c,s,f,false⟩ p]=[⟨ws++[(a0v t (a0c s) p,f)],c⟩]:=by simp [spL,spW,hs]
      have y3:xcm .neq s (-1)=true:=a8n hs
      have x1:xnn s=true:=a4z.2 (by have:=hO.hs; dsimp only at this; omega)
      have x2:xle (a0c s) p=true:=a1n (by have:=hO.hs; dsimp only at this; unfold a0c; omega)
      have x3:xle p (a0z t)=true:=a1n (show p≤t.length by omega)
      have x4:xle (ws.length+1) 1000000=true:=a1n (by have:=hO.hw; have:=hO.ht; dsimp only at *; omega)
      have x5:xle (ws.length * 2) (ws.length * 2)=true:=a1n (Nat.le_refl _)
      have x6:xeq ws.length ws.length=true:=c2x rfl
      simp only [y1,y2,y3,z1,z2,z3,x1,x2,x3,x4,x5,x6,wnn,lnn,lcat,a2g,a1o,a3e,Nat.zero_add,cond_true,cond_false]
      have wp1:=wp (a0v t (a0c s) p) f
      have nw1:=a3g (ws++[(a0v t (a0c s) p,f)])
      have lw1:(ws++[(a0v t (a0c s) p,f)]).length=ws.length+1:=by simp
      refine hK ⟨[],0,1,-1,f,false⟩ (some ⟨ws++[(a0v t (a0c s) p,f)],c⟩) [.id 0,.id 9,.id 7,.id 3,.id 4,.id 5] _ _ (by rw [hG,hR]; first | done | rfl) hO1 (fun _ _=>rfl) ?_
      dsimp only [lpG]
      rw [lw1,← wp1]
      rw [← wp1] at nw1
      (refine⟨by kernel_rfl,?_,?_⟩ <;> repeat first | exact a1d | refine a0w ?_ ?_ | exact a0x | refine a0r ?_ ?_ | exact a0u | refine a0d ?_ ?_ | exact a1e | exact a2e | exact a0e (by assumption) | exact a2m rfl | refine a2k (by assumption) ?_ (by simp) | refine a0o ?_ (by simp) | exact a1b rfl | exact a2v rfl | exact a0n rfl)
  ·cases m with
   | true =>
     have hR : [spL t ⟨ws,e,c,s,f,true⟩ p]=[⟨ws,e⟩]:=by simp [spL]
     have y2:a3i true=false:=rfl
     simp only [y1,y2,z1,z2,z3,wnn,lnn,lcat,a2g,a1o,a3e,Nat.zero_add,cond_true,cond_false]
     refine hK ⟨[],0,1,-1,f,false⟩ (some ⟨ws,e⟩) [.id 0,.id 7,.id 2,.id 3,.id 4,.id 5] _ _ (by rw [hG,hR]; first | done | rfl) hO1 (fun _ _=>rfl) ?_
     (refine⟨by kernel_rfl,?_,?_⟩ <;> repeat first | exact a1d | refine a0w ?_ ?_ | exact a0x | refine a0r ?_ ?_ | exact a0u | refine a0d ?_ ?_ | exact a1e | exact a2e | exact a0e (by assumption) | exact a2m rfl | refine a2k (by assumption) ?_ (by simp) | refine a0o ?_ (by simp) | exact a1b rfl | exact a2v rfl | exact a0n rfl)
   | false =>
     have y2:a3i false=true:=rfl
     by_cases hs:s = -1
     ·have hR : [spL t ⟨ws,e,c,s,f,false⟩ p]=[⟨ws,c⟩]:=by simp [spL,spW,hs]
      have y3:xcm .neq s (-1)=false:=a9b hs
      simp only [y1,y2,y3,z1,z2,z3,wnn,lnn,lcat,a2g,a1o,a3e,Nat.zero_add,cond_true,cond_false]
      refine hK ⟨[],0,1,-1,f,false⟩ (some ⟨ws,c⟩) [.id 0,.id 7,.id 2,.id 3,.id 4,.id 5] _ _ (by rw [hG,hR]; first | done | rfl) hO1 (fun _ _=>rfl) ?_
      (refine⟨by kernel_rfl,?_,?_⟩ <;> repeat first | exact a1d | refine a0w ?_ ?_ | exact a0x | refine a0r ?_ ?_ | exact a0u | refine a0d ?_ ?_ | exact a1e | exact a2e | exact a0e (by assumption) | exact a2m rfl | refine a2k (by assumption) ?_ (by simp) | refine a0o ?_ (by simp) | exact a1b rfl | exact a2v rfl | exact a0n rfl)
     ·have hR : [spL t ⟨ws,e,c,s,f,false⟩ p]=[⟨ws++[(a0v t (a0c s) p,f)],c⟩]:=by simp [spL,spW,hs]
      have y3:xcm .neq s (-1)=true:=a8n hs
      have x1:xnn s=true:=a4z.2 (by have:=hO.hs; dsimp only at this; omega)
      have x2:xle (a0c s) p=true:=a1n (by have:=hO.hs; dsimp only at this; unfold a0c; omega)
      have x3:xle p (a0z t)=true:=a1n (show p≤t.length by omega)
      have x4:xle (ws.length+1) 1000000=true:=a1n (by have:=hO.hw; have:=hO.ht; dsimp only at *; omega)
      have x5:xle (ws.length * 2) (ws.length * 2)=true:=a1n (Nat.le_refl _)
      have x6:xeq ws.length ws.length=true:=c2x rfl
      simp only [y1,y2,y3,z1,z2,z3,x1,x2,x3,x4,x5,x6,wnn,lnn,lcat,a2g,a1o,a3e,Nat.zero_add,cond_true,cond_false]
      have wp1:=wp (a0v t (a0c s) p) f
      have nw1:=a3g (ws++[(a0v t (a0c s) p,f)])
      have lw1:(ws++[(a0v t (a0c s) p,f)]).length=ws.length+1:=by simp
      refine hK ⟨[],0,1,-1,f,false⟩ (some ⟨ws++[(a0v t (a0c s) p,f)],c⟩) [.id 0,.id 9,.id 7,.id 3,.id 4,.id 5] _ _ (by rw [hG,hR]; first | done | rfl) hO1 (fun _ _=>rfl) ?_
      dsimp only [lpG]
      rw [lw1,← wp1]
      rw [← wp1] at nw1
      (refine⟨by kernel_rfl,?_,?_⟩ <;> repeat first | exact a1d | refine a0w ?_ ?_ | exact a0x | refine a0r ?_ ?_ | exact a0u | refine a0d ?_ ?_ | exact a1e | exact a2e | exact a0e (by assumption) | exact a2m rfl | refine a2k (by assumption) ?_ (by simp) | refine a0o ?_ (by simp) | exact a1b rfl | exact a2v rfl | exact a0n rfl)
 ·have y1:xcm .eql (xrn t p) 10=false:=a2c r1
  have hR:spG t p ⟨ws,e,c,s,f,m⟩=spG t (p+xrw t p) (spR t ⟨ws,e,c,s,f,m⟩ p (xrn t p)):=by rw [spG,dif_pos hp,if_neg r1]
  rcases ho with rfl | ⟨F,rfl⟩
  ·cases m with
   | true =>
     simp only [y1,e1,cond_true,cond_false]
     have eS:spR t ⟨ws,e,c,s,f,true⟩ p (xrn t p)=⟨ws,e,c+1,s,f,true⟩:=by simp [spR,spW]
     refine hK ⟨ws,e,c+1,s,f,true⟩ none [.id 0,.id 1,.id 2,.id 3,.id 4,.id 5] _ _ (by rw [hR,← eS]; rfl) (by rw [← eS]; exact hO2) (fun _ h=>by cases h) ?_
     (refine⟨by kernel_rfl,?_,?_⟩ <;> repeat first | exact a1d | refine a0w ?_ ?_ | exact a0x | refine a0r ?_ ?_ | exact a0u | refine a0d ?_ ?_ | exact a1e | exact a2e | exact a0e (by assumption) | exact a2m rfl | refine a2k (by assumption) ?_ (by simp) | refine a0o ?_ (by simp) | exact a1b rfl | exact a2v rfl | exact a0n rfl)
   | false =>
     by_cases r2:xrn t p=59
     ·have y2:xcm .eql (xrn t p) 59=true:=a2i r2
      by_cases hs:s = -1
      ·subst hs
       have y3:xcm .neq (-1) (-1)=false:=a9b rfl
       simp only [y1,y2,y3,e1,cond_true,cond_false]
       have eS:spR t ⟨ws,e,c,-1,f,false⟩ p (xrn t p)=⟨ws,c,c+1,-1,f,true⟩:=by simp [spR,spW,r2]
       refine hK ⟨ws,c,c+1,-1,f,true⟩ none [.id 0,.id 1,.id 2,.id 3,.id 4,.id 5] _ _ (by rw [hR,← eS]; rfl) (by rw [← eS]; exact hO2) (fun _ h=>by cases h) ?_
       (refine⟨by kernel_rfl,?_,?_⟩ <;> repeat first | exact a1d | refine a0w ?_ ?_ | exact a0x | refine a0r ?_ ?_ | exact a0u | refine a0d ?_ ?_ | exact a1e | exact a2e | exact a0e (by assumption) | exact a2m rfl | refine a2k (by assumption) ?_ (by simp) | refine a0o ?_ (by simp) | exact a1b rfl | exact a2v rfl | exact a0n rfl)
      ·have y3:xcm .neq s (-1)=true:=a8n hs
       have x1:xnn s=true:=a4z.2 (by have:=hO.hs; dsimp only at this; omega)
       have x2:xle (a0c s) p=true:=a1n (by have:=hO.hs; dsimp only at this; unfold a0c; omega)
       have x3:xle p (a0z t)=true:=a1n (show p≤t.length by omega)
       have x4:xle (ws.length+1) 1000000=true:=a1n (by have:=hO.hw; have:=hO.ht; dsimp only at *; omega)
       have x5:xle (ws.length * 2) (ws.length * 2)=true:=a1n (Nat.le_refl _)
       have x6:xeq ws.length ws.length=true:=c2x rfl
       simp only [y1,y2,y3,e1,x1,x2,x3,x4,x5,x6,wnn,lnn,lcat,a2g,a1o,a3e,Nat.zero_add,cond_true,cond_false]
       have eS:spR t ⟨ws,e,c,s,f,false⟩ p (xrn t p)=⟨ws++[(a0v t (a0c s) p,f)],c,c+1,-1,f,true⟩:=by simp [spR,spW,r2,hs]
       have wp1:=wp (a0v t (a0c s) p) f
       have nw1:=a3g (ws++[(a0v t (a0c s) p,f)])
       have lw1:(ws++[(a0v t (a0c s) p,f)]).length=ws.length+1:=by simp
       refine hK ⟨ws++[(a0v t (a0c s) p,f)],c,c+1,-1,f,true⟩ none [.id 0,.id 1,.id 7,.id 3,.id 4,.id 5] _ _ (by rw [hR,← eS]; rfl) (by rw [← eS]; exact hO2) (fun _ h=>by cases h) ?_
       dsimp only [lpG]
       rw [lw1,← wp1]
       rw [← wp1] at nw1
       (refine⟨by kernel_rfl,?_,?_⟩ <;> repeat first | exact a1d | refine a0w ?_ ?_ | exact a0x | refine a0r ?_ ?_ | exact a0u | refine a0d ?_ ?_ | exact a1e | exact a2e | exact a0e (by assumption) | exact a2m rfl | refine a2k (by assumption) ?_ (by simp) | refine a0o ?_ (by simp) | exact a1b rfl | exact a2v rfl | exact a0n rfl)
     ·have y2:xcm .eql (xrn t p) 59=false:=a2c r2
      by_cases r3:xrn t p=32
      ·have y4:xcm .eql (xrn t p) 32=true:=a2i r3
       by_cases hs:s = -1
       ·subst hs
        have y3:xcm .neq (-1) (-1)=false:=a9b rfl
        simp only [y1,y2,y3,y4,e1,cond_true,cond_false]
        have eS:spR t ⟨ws,e,c,-1,f,false⟩ p (xrn t p)=⟨ws,e,c+1,-1,f,false⟩:=by simp [spR,spW,r3]
        refine hK ⟨ws,e,c+1,-1,f,false⟩ none [.id 0,.id 1,.id 2,.id 3,.id 4,.id 5] _ _ (by rw [hR,← eS]; rfl) (by rw [← eS]; exact hO2) (fun _ h=>by cases h) ?_
        (refine⟨by kernel_rfl,?_,?_⟩ <;> repeat first | exact a1d | refine a0w ?_ ?_ | exact a0x | refine a0r ?_ ?_ | exact a0u | refine a0d ?_ ?_ | exact a1e | exact a2e | exact a0e (by assumption) | exact a2m rfl | refine a2k (by assumption) ?_ (by simp) | refine a0o ?_ (by simp) | exact a1b rfl | exact a2v rfl | exact a0n rfl)
       ·have y3:xcm .neq s (-1)=true:=a8n hs
        have x1:xnn s=true:=a4z.2 (by have:=hO.hs; dsimp only at this; omega)
        have x2:xle (a0c s) p=true:=a1n (by have:=hO.hs; dsimp only at this; unfold a0c; omega)
        have x3:xle p (a0z t)=true:=a1n (show p≤t.length by omega)
        have x4:xle (ws.length+1) 1000000=true:=a1n (by have:=hO.hw; have:=hO.ht; dsimp only at *; omega)
        have x5:xle (ws.length * 2) (ws.length * 2)=true:=a1n (Nat.le_refl _)
        have x6:xeq ws.length ws.length=true:=c2x rfl
        simp only [y1,y2,y3,y4,e1,x1,x2,x3,x4,x5,x6,wnn,lnn,lcat,a2g,a1o,a3e,Nat.zero_add,cond_true,cond_false]
        have eS:spR t ⟨ws,e,c,s,f,false⟩ p (xrn t p)=⟨ws++[(a0v t (a0c s) p,f)],e,c+1,-1,f,false⟩:=by simp [spR,spW,r3,hs]
        have wp1:=wp (a0v t (a0c s) p) f
        have nw1:=a3g (ws++[(a0v t (a0c s) p,f)])
        have lw1:(ws++[(a0v t (a0c s) p,f)]).length=ws.length+1:=by simp
        refine hK ⟨ws++[(a0v t (a0c s) p,f)],e,c+1,-1,f,false⟩ none [.id 0,.id 1,.id 7,.id 3,.id 4,.id 5] _ _ (by rw [hR,← eS]; rfl) (by rw [← eS]; exact hO2) (fun _ h=>by cases h) ?_
        dsimp only [lpG]
        rw [lw1,← wp1]
        rw [← wp1] at nw1
        (refine⟨by kernel_rfl,?_,?_⟩ <;> repeat first | exact a1d | refine a0w ?_ ?_ | exact a0x | refine a0r ?_ ?_ | exact a0u | refine a0d ?_ ?_ | exact a1e | exact a2e | exact a0e (by assumption) | exact a2m rfl | refine a2k (by assumption) ?_ (by simp) | refine a0o ?_ (by simp) | exact a1b rfl | exact a2v rfl | exact a0n rfl)
      ·have y4:xcm .eql (xrn t p) 32=false:=a2c r3
       by_cases r4:xrn t p=9
       ·have y5:xcm .eql (xrn t p) 9=true:=a2i r4
        by_cases hs:s = -1
        ·subst hs
         have y3:xcm .neq (-1) (-1)=false:=a9b rfl
         simp only [y1,y2,y3,y4,y5,e1,cond_true,cond_false]
         have eS:spR t ⟨ws,e,c,-1,f,false⟩ p (xrn t p)=⟨ws,e,c+1,-1,f,false⟩:=by simp [spR,spW,r4]
         refine hK ⟨ws,e,c+1,-1,f,false⟩ none [.id 0,.id 1,.id 2,.id 3,.id 4,.id 5] _ _ (by rw [hR,← eS]; rfl) (by rw [← eS]; exact hO2) (fun _ h=>by cases h) ?_
         (refine⟨by kernel_rfl,?_,?_⟩ <;> repeat first | exact a1d | refine a0w ?_ ?_ | exact a0x | refine a0r ?_ ?_ | exact a0u | refine a0d ?_ ?_ | exact a1e | exact a2e | exact a0e (by assumption) | exact a2m rfl | refine a2k (by assumption) ?_ (by simp) | refine a0o ?_ (by simp) | exact a1b rfl | exact a2v rfl | exact a0n rfl)
        ·have y3:xcm .neq s (-1)=true:=a8n hs
         have x1:xnn s=true:=a4z.2 (by have:=hO.hs; dsimp only at this; omega)
         have x2:xle (a0c s) p=true:=a1n (by have:=hO.hs; dsimp only at this; unfold a0c; omega)
         have x3:xle p (a0z t)=true:=a1n (show p≤t.length by omega)
         have x4:xle (ws.length+1) 1000000=true:=a1n (by have:=hO.hw; have:=hO.ht; dsimp only at *; omega)
         have x5:xle (ws.length * 2) (ws.length * 2)=true:=a1n (Nat.le_refl _)
         have x6:xeq ws.length ws.length=true:=c2x rfl
         simp only [y1,y2,y3,y4,y5,e1,x1,x2,x3,x4,x5,x6,wnn,lnn,lcat,a2g,a1o,a3e,Nat.zero_add,cond_true,cond_false]
         have eS:spR t ⟨ws,e,c,s,f,false⟩ p (xrn t p)=⟨ws++[(a0v t (a0c s) p,f)],e,c+1,-1,f,false⟩:=by simp [spR,spW,r4,hs]
         have wp1:=wp (a0v t (a0c s) p) f
         have nw1:=a3g (ws++[(a0v t (a0c s) p,f)])
         have lw1:(ws++[(a0v t (a0c s) p,f)]).length=ws.length+1:=by simp
         refine hK ⟨ws++[(a0v t (a0c s) p,f)],e,c+1,-1,f,false⟩ none [.id 0,.id 1,.id 7,.id 3,.id 4,.id 5] _ _ (by rw [hR,← eS]; rfl) (by rw [← eS]; exact hO2) (fun _ h=>by cases h) ?_
         dsimp only [lpG]
         rw [lw1,← wp1]
         rw [← wp1] at nw1
         (refine⟨by kernel_rfl,?_,?_⟩ <;> repeat first | exact a1d | refine a0w ?_ ?_ | exact a0x | refine a0r ?_ ?_ | exact a0u | refine a0d ?_ ?_ | exact a1e | exact a2e | exact a0e (by assumption) | exact a2m rfl | refine a2k (by assumption) ?_ (by simp) | refine a0o ?_ (by simp) | exact a1b rfl | exact a2v rfl | exact a0n rfl)
       ·have y5:xcm .eql (xrn t p) 9=false:=a2c r4
        by_cases hs:s = -1
        ·have y6:xcm .eql s (-1)=true:=a2i hs
         simp only [y1,y2,y4,y5,y6,e1,cond_true,cond_false]
         have eS:spR t ⟨ws,e,c,s,f,false⟩ p (xrn t p)=⟨ws,e,c+1,p,c,false⟩:=by simp [spR,spW,r2,r3,r4,hs]
         refine hK ⟨ws,e,c+1,p,c,false⟩ none [.id 0,.id 1,.id 2,.id 3,.id 4,.id 5] _ _ (by rw [hR,← eS]; rfl) (by rw [← eS]; exact hO2) (fun _ h=>by cases h) ?_
         (refine⟨by kernel_rfl,?_,?_⟩ <;> repeat first | exact a1d | refine a0w ?_ ?_ | exact a0x | refine a0r ?_ ?_ | exact a0u | refine a0d ?_ ?_ | exact a1e | exact a2e | exact a0e (by assumption) | exact a2m rfl | refine a2k (by assumption) ?_ (by simp) | refine a0o ?_ (by simp) | exact a1b rfl | exact a2v rfl | exact a0n rfl)
        ·have y6:xcm .eql s (-1)=false:=a2c hs
         simp only [y1,y2,y4,y5,y6,e1,cond_true,cond_false]
         have eS:spR t ⟨ws,e,c,s,f,false⟩ p (xrn t p)=⟨ws,e,c+1,s,f,false⟩:=by simp [spR,spW,r2,r3,r4,hs]
         refine hK ⟨ws,e,c+1,s,f,false⟩ none [.id 0,.id 1,.id 2,.id 3,.id 4,.id 5] _ _ (by rw [hR,← eS]; rfl) (by rw [← eS]; exact hO2) (fun _ h=>by cases h) ?_
         (refine⟨by kernel_rfl,?_,?_⟩ <;> repeat first | exact a1d | refine a0w ?_ ?_ | exact a0x | refine a0r ?_ ?_ | exact a0u | refine a0d ?_ ?_ | exact a1e | exact a2e | exact a0e (by assumption) | exact a2m rfl | refine a2k (by assumption) ?_ (by simp) | refine a0o ?_ (by simp) | exact a1b rfl | exact a2v rfl | exact a0n rfl)
  ·cases m with
   | true =>
     simp only [y1,e1,cond_true,cond_false]
     have eS:spR t ⟨ws,e,c,s,f,true⟩ p (xrn t p)=⟨ws,e,c+1,s,f,true⟩:=by simp [spR,spW]
     refine hK ⟨ws,e,c+1,s,f,true⟩ none [.id 0,.id 1,.id 2,.id 3,.id 4,.id 5] _ _ (by rw [hR,← eS]; rfl) (by rw [← eS]; exact hO2) (fun _ h=>by cases h) ?_
     (refine⟨by kernel_rfl,?_,?_⟩ <;> repeat first | exact a1d | refine a0w ?_ ?_ | exact a0x | refine a0r ?_ ?_ | exact a0u | refine a0d ?_ ?_ | exact a1e | exact a2e | exact a0e (by assumption) | exact a2m rfl | refine a2k (by assumption) ?_ (by simp) | refine a0o ?_ (by simp) | exact a1b rfl | exact a2v rfl | exact a0n rfl)
   | false =>
     by_cases r2:xrn t p=59
     ·have y2:xcm .eql (xrn t p) 59=true:=a2i r2
      by_cases hs:s = -1
      ·subst hs
       have y3:xcm .neq (-1) (-1)=false:=a9b rfl
       simp only [y1,y2,y3,e1,cond_true,cond_false]
       have eS:spR t ⟨ws,e,c,-1,f,false⟩ p (xrn t p)=⟨ws,c,c+1,-1,f,true⟩:=by simp [spR,spW,r2]
       refine hK ⟨ws,c,c+1,-1,f,true⟩ none [.id 0,.id 1,.id 2,.id 3,.id 4,.id 5] _ _ (by rw [hR,← eS]; rfl) (by rw [← eS]; exact hO2) (fun _ h=>by cases h) ?_
       (refine⟨by kernel_rfl,?_,?_⟩ <;> repeat first | exact a1d | refine a0w ?_ ?_ | exact a0x | refine a0r ?_ ?_ | exact a0u | refine a0d ?_ ?_ | exact a1e | exact a2e | exact a0e (by assumption) | exact a2m rfl | refine a2k (by assumption) ?_ (by simp) | refine a0o ?_ (by simp) | exact a1b rfl | exact a2v rfl | exact a0n rfl)
      ·have y3:xcm .neq s (-1)=true:=a8n hs
       have x1:xnn s=true:=a4z.2 (by have:=hO.hs; dsimp only at this; omega)
       have x2:xle (a0c s) p=true:=a1n (by have:=hO.hs; dsimp only at this; unfold a0c; omega)
       have x3:xle p (a0z t)=true:=a1n (show p≤t.length by omega)
       have x4:xle (ws.length+1) 1000000=true:=a1n (by have:=hO.hw; have:=hO.ht; dsimp only at *; omega)
       have x5:xle (ws.length * 2) (ws.length * 2)=true:=a1n (Nat.le_refl _)
       have x6:xeq ws.length ws.length=true:=c2x rfl
       simp only [y1,y2,y3,e1,x1,x2,x3,x4,x5,x6,wnn,lnn,lcat,a2g,a1o,a3e,Nat.zero_add,cond_true,cond_false]
       have eS:spR t ⟨ws,e,c,s,f,false⟩ p (xrn t p)=⟨ws++[(a0v t (a0c s) p,f)],c,c+1,-1,f,true⟩:=by simp [spR,spW,r2,hs]
       have wp1:=wp (a0v t (a0c s) p) f
       have nw1:=a3g (ws++[(a0v t (a0c s) p,f)])
       have lw1:(ws++[(a0v t (a0c s) p,f)]).length=ws.length+1:=by simp
       refine hK ⟨ws++[(a0v t (a0c s) p,f)],c,c+1,-1,f,true⟩ none [.id 0,.id 1,.id 7,.id 3,.id 4,.id 5] _ _ (by rw [hR,← eS]; rfl) (by rw [← eS]; exact hO2) (fun _ h=>by cases h) ?_
       dsimp only [lpG]
       rw [lw1,← wp1]
       rw [← wp1] at nw1
       (refine⟨by kernel_rfl,?_,?_⟩ <;> repeat first | exact a1d | refine a0w ?_ ?_ | exact a0x | refine a0r ?_ ?_ | exact a0u | refine a0d ?_ ?_ | exact a1e | exact a2e | exact a0e (by assumption) | exact a2m rfl | refine a2k (by assumption) ?_ (by simp) | refine a0o ?_ (by simp) | exact a1b rfl | exact a2v rfl | exact a0n rfl)
     ·have y2:xcm .eql (xrn t p) 59=false:=a2c r2
      by_cases r3:xrn t p=32
      ·have y4:xcm .eql (xrn t p) 32=true:=a2i r3
       by_cases hs:s = -1
       ·subst hs
        have y3:xcm .neq (-1) (-1)=false:=a9b rfl
        simp only [y1,y2,y3,y4,e1,cond_true,cond_false]
        have eS:spR t ⟨ws,e,c,-1,f,false⟩ p (xrn t p)=⟨ws,e,c+1,-1,f,false⟩:=by simp [spR,spW,r3]
        refine hK ⟨ws,e,c+1,-1,f,false⟩ none [.id 0,.id 1,.id 2,.id 3,.id 4,.id 5] _ _ (by rw [hR,← eS]; rfl) (by rw [← eS]; exact hO2) (fun _ h=>by cases h) ?_
        (refine⟨by kernel_rfl,?_,?_⟩ <;> repeat first | exact a1d | refine a0w ?_ ?_ | exact a0x | refine a0r ?_ ?_ | exact a0u | refine a0d ?_ ?_ | exact a1e | exact a2e | exact a0e (by assumption) | exact a2m rfl | refine a2k (by assumption) ?_ (by simp) | refine a0o ?_ (by simp) | exact a1b rfl | exact a2v rfl | exact a0n rfl)
       ·have y3:xcm .neq s (-1)=true:=a8n hs
        have x1:xnn s=true:=a4z.2 (by have:=hO.hs; dsimp only at this; omega)
        have x2:xle (a0c s) p=true:=a1n (by have:=hO.hs; dsimp only at this; unfold a0c; omega)
        have x3:xle p (a0z t)=true:=a1n (show p≤t.length by omega)
        have x4:xle (ws.length+1) 1000000=true:=a1n (by have:=hO.hw; have:=hO.ht; dsimp only at *; omega)
        have x5:xle (ws.length * 2) (ws.length * 2)=true:=a1n (Nat.le_refl _)
        have x6:xeq ws.length ws.length=true:=c2x rfl
        simp only [y1,y2,y3,y4,e1,x1,x2,x3,x4,x5,x6,wnn,lnn,lcat,a2g,a1o,a3e,Nat.zero_add,cond_true,cond_false]
        have eS:spR t ⟨ws,e,c,s,f,false⟩ p (xrn t p)=⟨ws++[(a0v t (a0c s) p,f)],e,c+1,-1,f,false⟩:=by simp [spR,spW,r3,hs]
        have wp1:=wp (a0v t (a0c s) p) f
        have nw1:=a3g (ws++[(a0v t (a0c s) p,f)])
        have lw1:(ws++[(a0v t (a0c s) p,f)]).length=ws.length+1:=by simp
        refine hK ⟨ws++[(a0v t (a0c s) p,f)],e,c+1,-1,f,false⟩ none [.id 0,.id 1,.id 7,.id 3,.id 4,.id 5] _ _ (by rw [hR,← eS]; rfl) (by rw [← eS]; exact hO2) (fun _ h=>by cases h) ?_
        dsimp only [lpG]
        rw [lw1,← wp1]
        rw [← wp1] at nw1
        (refine⟨by kernel_rfl,?_,?_⟩ <;> repeat first | exact a1d | refine a0w ?_ ?_ | exact a0x | refine a0r ?_ ?_ | exact a0u | refine a0d ?_ ?_ | exact a1e | exact a2e | exact a0e (by assumption) | exact a2m rfl | refine a2k (by assumption) ?_ (by simp) | refine a0o ?_ (by simp) | exact a1b rfl | exact a2v rfl | exact a0n rfl)
      ·have y4:xcm .eql (xrn t p) 32=false:=a2c r3
       by_cases r4:xrn t p=9
       ·have y5:xcm .eql (xrn t p) 9=true:=a2i r4
        by_cases hs:s = -1
        ·subst hs
         have y3:xcm .neq (-1) (-1)=false:=a9b rfl
         simp only [y1,y2,y3,y4,y5,e1,cond_true,cond_false]
         have eS:spR t ⟨ws,e,c,-1,f,false⟩ p (xrn t p)=⟨ws,e,c+1,-1,f,false⟩:=by simp [spR,spW,r4]
         refine hK ⟨ws,e,c+1,-1,f,false⟩ none [.id 0,.id 1,.id 2,.id 3,.id 4,.id 5] _ _ (by rw [hR,← eS]; rfl) (by rw [← eS]; exact hO2) (fun _ h=>by cases h) ?_
         (refine⟨by kernel_rfl,?_,?_⟩ <;> repeat first | exact a1d | refine a0w ?_ ?_ | exact a0x | refine a0r ?_ ?_ | exact a0u | refine a0d ?_ ?_ | exact a1e | exact a2e | exact a0e (by assumption) | exact a2m rfl | refine a2k (by assumption) ?_ (by simp) | refine a0o ?_ (by simp) | exact a1b rfl | exact a2v rfl | exact a0n rfl)
        ·have y3:xcm .neq s (-1)=true:=a8n hs
         have x1:xnn s=true:=a4z.2 (by have:=hO.hs; dsimp only at this; omega)
         have x2:xle (a0c s) p=true:=a1n (by have:=hO.hs; dsimp only at this; unfold a0c; omega)
         have x3:xle p (a0z t)=true:=a1n (show p≤t.length by omega)
         have x4:xle (ws.length+1) 1000000=true:=a1n (by have:=hO.hw; have:=hO.ht; dsimp only at *; omega)
         have x5:xle (ws.length * 2) (ws.length * 2)=true:=a1n (Nat.le_refl _)
         have x6:xeq ws.length ws.length=true:=c2x rfl
         simp only [y1,y2,y3,y4,y5,e1,x1,x2,x3,x4,x5,x6,wnn,lnn,lcat,a2g,a1o,a3e,Nat.zero_add,cond_true,cond_false]
         have eS:spR t ⟨ws,e,c,s,f,false⟩ p (xrn t p)=⟨ws++[(a0v t (a0c s) p,f)],e,c+1,-1,f,false⟩:=by simp [spR,spW,r4,hs]
         have wp1:=wp (a0v t (a0c s) p) f
         have nw1:=a3g (ws++[(a0v t (a0c s) p,f)])
         have lw1:(ws++[(a0v t (a0c s) p,f)]).length=ws.length+1:=by simp
         refine hK ⟨ws++[(a0v t (a0c s) p,f)],e,c+1,-1,f,false⟩ none [.id 0,.id 1,.id 7,.id 3,.id 4,.id 5] _ _ (by rw [hR,← eS]; rfl) (by rw [← eS]; exact hO2) (fun _ h=>by cases h) ?_
         dsimp only [lpG]
         rw [lw1,← wp1]
         rw [← wp1] at nw1
         (refine⟨by kernel_rfl,?_,?_⟩ <;> repeat first | exact a1d | refine a0w ?_ ?_ | exact a0x | refine a0r ?_ ?_ | exact a0u | refine a0d ?_ ?_ | exact a1e | exact a2e | exact a0e (by assumption) | exact a2m rfl | refine a2k (by assumption) ?_ (by simp) | refine a0o ?_ (by simp) | exact a1b rfl | exact a2v rfl | exact a0n rfl)
       ·have y5:xcm .eql (xrn t p) 9=false:=a2c r4
        by_cases hs:s = -1
        ·have y6:xcm .eql s (-1)=true:=a2i hs
         simp only [y1,y2,y4,y5,y6,e1,cond_true,cond_false]
         have eS:spR t ⟨ws,e,c,s,f,false⟩ p (xrn t p)=⟨ws,e,c+1,p,c,false⟩:=by simp [spR,spW,r2,r3,r4,hs]
         refine hK ⟨ws,e,c+1,p,c,false⟩ none [.id 0,.id 1,.id 2,.id 3,.id 4,.id 5] _ _ (by rw [hR,← eS]; rfl) (by rw [← eS]; exact hO2) (fun _ h=>by cases h) ?_
         (refine⟨by kernel_rfl,?_,?_⟩ <;> repeat first | exact a1d | refine a0w ?_ ?_ | exact a0x | refine a0r ?_ ?_ | exact a0u | refine a0d ?_ ?_ | exact a1e | exact a2e | exact a0e (by assumption) | exact a2m rfl | refine a2k (by assumption) ?_ (by simp) | refine a0o ?_ (by simp) | exact a1b rfl | exact a2v rfl | exact a0n rfl)
        ·have y6:xcm .eql s (-1)=false:=a2c hs
         simp only [y1,y2,y4,y5,y6,e1,cond_true,cond_false]
         have eS:spR t ⟨ws,e,c,s,f,false⟩ p (xrn t p)=⟨ws,e,c+1,s,f,false⟩:=by simp [spR,spW,r2,r3,r4,hs]
         refine hK ⟨ws,e,c+1,s,f,false⟩ none [.id 0,.id 1,.id 2,.id 3,.id 4,.id 5] _ _ (by rw [hR,← eS]; rfl) (by rw [← eS]; exact hO2) (fun _ h=>by cases h) ?_
         (refine⟨by kernel_rfl,?_,?_⟩ <;> repeat first | exact a1d | refine a0w ?_ ?_ | exact a0x | refine a0r ?_ ?_ | exact a0u | refine a0d ?_ ?_ | exact a1e | exact a2e | exact a0e (by assumption) | exact a2m rfl | refine a2k (by assumption) ?_ (by simp) | refine a0o ?_ (by simp) | exact a1b rfl | exact a2v rfl | exact a0n rfl)
set_option maxHeartbeats 4000000 in
theorem f2e (t:List UInt8) (o:LB) (ls:List LnV) (S:SpS) (ho:o=.dead∨∃ F,o=.obj stF [.fact F] 5) (hO:c7l t t.length S) (hl:ls.length≤t.length) (K:Pk)
  (hK:∀ (S':SpS) (pd:Option LnS) (ρ : List Src) (vs:List LV) (bs:List (Option LB)),[spL t S t.length]=pd.toList→a4f 0 34 slL vs bs ρ (d7p t) (lpG t o ls S' t.length pd)→K .normal vs bs []) :
  a1h prog snX 60 34 (a4i (sp prog 46) 6) (a1p 34 (f7k t true)) (mkS (lpG t o ls S t.length none) []) (vK slL K):=by
 obtain⟨ws,e,c,s,f,m⟩:=S
 have nl:=a5z ls; have nw:=a3g ws
 have lnn:=d4p ls; have wnn:=f6g ws
 have wp:=c9o ws
 have lcat:=d6l ls
 have z1:xle (ls.length+1) 1000000=true:=a1n (by have:=hO.ht; omega)
 have z2:xle (ls.length * 2) (ls.length * 2)=true:=a1n (Nat.le_refl _)
 have z3:xeq ls.length ls.length=true:=c2x rfl
 dsimp only [lpG]
 rw [g1y]
 have y1:true=true:=rfl
 rcases ho with rfl | ⟨F,rfl⟩
 ·cases m with
  | true =>
    have hR : [spL t ⟨ws,e,c,s,f,true⟩ t.length]=[⟨ws,e⟩]:=by simp [spL]
    have y2:a3i true=false:=rfl
    simp only [y2,z1,z2,z3,wnn,lnn,lcat,a2g,a1o,a3e,Nat.zero_add,cond_true,cond_false]
    refine hK ⟨[],0,1,-1,f,false⟩ (some ⟨ws,e⟩) [.id 0,.id 7,.id 2,.id 3,.id 4,.id 5] _ _ (by first | exact hR | (rw [hR]; rfl)) ?_
    (refine⟨by kernel_rfl,?_,?_⟩ <;> repeat first | exact a1d | refine a0w ?_ ?_ | exact a0x | refine a0r ?_ ?_ | exact a0u | refine a0d ?_ ?_ | exact a1e | exact a2e | exact a0e (by assumption) | exact a2m rfl | refine a2k (by assumption) ?_ (by simp) | refine a0o ?_ (by simp) | exact a1b rfl | exact a2v rfl | exact a0n rfl)
  | false =>
    have y2:a3i false=true:=rfl
    by_cases hs:s = -1
    ·have hR : [spL t ⟨ws,e,c,s,f,false⟩ t.length]=[⟨ws,c⟩]:=by simp [spL,spW,hs]
     have y3:xcm .neq s (-1)=false:=a9b hs
     simp only [y2,y3,z1,z2,z3,wnn,lnn,lcat,a2g,a1o,a3e,Nat.zero_add,cond_true,cond_false]
     refine hK ⟨[],0,1,-1,f,false⟩ (some ⟨ws,c⟩) [.id 0,.id 7,.id 2,.id 3,.id 4,.id 5] _ _ (by first | exact hR | (rw [hR]; rfl)) ?_
     (refine⟨by kernel_rfl,?_,?_⟩ <;> repeat first | exact a1d | refine a0w ?_ ?_ | exact a0x | refine a0r ?_ ?_ | exact a0u | refine a0d ?_ ?_ | exact a1e | exact a2e | exact a0e (by assumption) | exact a2m rfl | refine a2k (by assumption) ?_ (by simp) | refine a0o ?_ (by simp) | exact a1b rfl | exact a2v rfl | exact a0n rfl)
    ·have hR : [spL t ⟨ws,e,c,s,f,false⟩ t.length]=[⟨ws++[(a0v t (a0c s) t.length,f)],c⟩]:=by simp [spL,spW,hs]
     have y3:xcm .neq s (-1)=true:=a8n hs
     have x1:xnn s=true:=a4z.2 (by have:=hO.hs; dsimp only at this; omega)
     have x2:xle (a0c s) t.length=true:=a1n (by have:=hO.hs; dsimp only at this; unfold a0c; omega)
     have x3:xle t.length t.length=true:=a1n (show t.length≤t.length by omega)
     have x4:xle (ws.length+1) 1000000=true:=a1n (by have:=hO.hw; have:=hO.ht; dsimp only at *; omega)
     have x5:xle (ws.length * 2) (ws.length * 2)=true:=a1n (Nat.le_refl _)
     have x6:xeq ws.length ws.length=true:=c2x rfl
     have x7:a0c ((t.length:Nat):Int)=t.length:=rfl
     have x8:a0z t=t.length:=rfl
     simp only [y2,y3,z1,z2,z3,x7,x8,x1,x2,x3,x4,x5,x6,wnn,lnn,lcat,a2g,a1o,a3e,Nat.zero_add,cond_true,cond_false]
     have wp1:=wp (a0v t (a0c s) t.length) f
     have nw1:=a3g (ws++[(a0v t (a0c s) t.length,f)])
     have lw1:(ws++[(a0v t (a0c s) t.length,f)]).length=ws.length+1:=by simp
     refine hK ⟨[],0,1,-1,f,false⟩ (some ⟨ws++[(a0v t (a0c s) t.length,f)],c⟩) [.id 0,.id 9,.id 7,.id 3,.id 4,.id 5] _ _ (by first | exact hR | (rw [hR]; rfl)) ?_
     dsimp only [lpG]
     rw [lw1,← wp1]
     rw [← wp1] at nw1
     (refine⟨by kernel_rfl,?_,?_⟩ <;> repeat first | exact a1d | refine a0w ?_ ?_ | exact a0x | refine a0r ?_ ?_ | exact a0u | refine a0d ?_ ?_ | exact a1e | exact a2e | exact a0e (by assumption) | exact a2m rfl | refine a2k (by assumption) ?_ (by simp) | refine a0o ?_ (by simp) | exact a1b rfl | exact a2v rfl | exact a0n rfl)
 ·cases m with
  | true =>
    have hR : [spL t ⟨ws,e,c,s,f,true⟩ t.length]=[⟨ws,e⟩]:=by simp [spL]
    have y2:a3i true=false:=rfl
    simp only [y2,z1,z2,z3,wnn,lnn,lcat,a2g,a1o,a3e,Nat.zero_add,cond_true,cond_false]
    refine hK ⟨[],0,1,-1,f,false⟩ (some ⟨ws,e⟩) [.id 0,.id 7,.id 2,.id 3,.id 4,.id 5] _ _ (by first | exact hR | (rw [hR]; rfl)) ?_
    (refine⟨by kernel_rfl,?_,?_⟩ <;> repeat first | exact a1d | refine a0w ?_ ?_ | exact a0x | refine a0r ?_ ?_ | exact a0u | refine a0d ?_ ?_ | exact a1e | exact a2e | exact a0e (by assumption) | exact a2m rfl | refine a2k (by assumption) ?_ (by simp) | refine a0o ?_ (by simp) | exact a1b rfl | exact a2v rfl | exact a0n rfl)
  | false =>
    have y2:a3i false=true:=rfl
    by_cases hs:s = -1
    ·have hR : [spL t ⟨ws,e,c,s,f,false⟩ t.length]=[⟨ws,c⟩]:=by simp [spL,spW,hs]
     have y3:xcm .neq s (-1)=false:=a9b hs
     simp only [y2,y3,z1,z2,z3,wnn,lnn,lcat,a2g,a1o,a3e,Nat.zero_add,cond_true,cond_false]
     refine hK ⟨[],0,1,-1,f,false⟩ (some ⟨ws,c⟩) [.id 0,.id 7,.id 2,.id 3,.id 4,.id 5] _ _ (by first | exact hR | (rw [hR]; rfl)) ?_
     (refine⟨by kernel_rfl,?_,?_⟩ <;> repeat first | exact a1d | refine a0w ?_ ?_ | exact a0x | refine a0r ?_ ?_ | exact a0u | refine a0d ?_ ?_ | exact a1e | exact a2e | exact a0e (by assumption) | exact a2m rfl | refine a2k (by assumption) ?_ (by simp) | refine a0o ?_ (by simp) | exact a1b rfl | exact a2v rfl | exact a0n rfl)
    ·have hR : [spL t ⟨ws,e,c,s,f,false⟩ t.length]=[⟨ws++[(a0v t (a0c s) t.length,f)],c⟩]:=by simp [spL,spW,hs]
     have y3:xcm .neq s (-1)=true:=a8n hs
     have x1:xnn s=true:=a4z.2 (by have:=hO.hs; dsimp only at this; omega)
     have x2:xle (a0c s) t.length=true:=a1n (by have:=hO.hs; dsimp only at this; unfold a0c; omega)
     have x3:xle t.length t.length=true:=a1n (show t.length≤t.length by omega)
     have x4:xle (ws.length+1) 1000000=true:=a1n (by have:=hO.hw; have:=hO.ht; dsimp only at *; omega)
     have x5:xle (ws.length * 2) (ws.length * 2)=true:=a1n (Nat.le_refl _)
     have x6:xeq ws.length ws.length=true:=c2x rfl
     have x7:a0c ((t.length:Nat):Int)=t.length:=rfl
     have x8:a0z t=t.length:=rfl
     simp only [y2,y3,z1,z2,z3,x7,x8,x1,x2,x3,x4,x5,x6,wnn,lnn,lcat,a2g,a1o,a3e,Nat.zero_add,cond_true,cond_false]
     have wp1:=wp (a0v t (a0c s) t.length) f
     have nw1:=a3g (ws++[(a0v t (a0c s) t.length,f)])
     have lw1:(ws++[(a0v t (a0c s) t.length,f)]).length=ws.length+1:=by simp
     refine hK ⟨[],0,1,-1,f,false⟩ (some ⟨ws++[(a0v t (a0c s) t.length,f)],c⟩) [.id 0,.id 9,.id 7,.id 3,.id 4,.id 5] _ _ (by first | exact hR | (rw [hR]; rfl)) ?_
     dsimp only [lpG]
     rw [lw1,← wp1]
     rw [← wp1] at nw1
     (refine⟨by kernel_rfl,?_,?_⟩ <;> repeat first | exact a1d | refine a0w ?_ ?_ | exact a0x | refine a0r ?_ ?_ | exact a0u | refine a0d ?_ ?_ | exact a1e | exact a2e | exact a0e (by assumption) | exact a2m rfl | refine a2k (by assumption) ?_ (by simp) | refine a0o ?_ (by simp) | exact a1b rfl | exact a2v rfl | exact a0n rfl)
end
end Go.Lev
/- text: split -/
namespace Go.Lev
set_option linter.unusedSimpArgs false
set_option linter.unusedVariables false
open Go.RowKit
open Go.Proofs.Tryd (prog)
set_option maxRecDepth 100000
noncomputable section
theorem d0a (q:SQ) (γ : Nat):stB q γ = .dead∨∃ F,stB q γ = .obj stF [.fact F] γ:=by
 obtain⟨F,e,h⟩:=q
 cases e
 ·exact .inr ⟨F,rfl⟩
 ·exact .inl rfl
set_option maxHeartbeats 4000000 in
theorem d4e (t:List UInt8) (ht:t.length≤4000):a0k prog 46 [.str t] (mkS [] []) fun l s=>∃ (q:SQ) (ls:List LnV),StL q ls∧ls.map LnV.s=spA t∧l=.slo 0 0 ls.length 0∧s=mkS [.cells (a0f lnC ls) (some 2),stB q 2,.dead] []:=by
 refine a0k.mono (a0k.g9n (Q:=fun l b=>∃ (q:SQ) (ls:List LnV),StL q ls∧ls.map LnV.s=spA t∧l=.slo 0 0 ls.length 0∧b=[.cells (a0f lnC ls) (some 2),stB q 2,.dead]) 34 0 slL [2] (by kernel_rfl) rfl rfl rfl ?_) fun l s' ⟨b0,⟨q,ls,h1,h2,h3,h4⟩,h5⟩=>⟨q,ls,h1,h2,h3,by rw [h5,h4]⟩
 refine SSp.to a0j (n:=60) (g:=[]) 4 4 rfl (σ:=Unit) (fun _=>snT t) (fun _=>lpG t (stB d7n 5) [] spZ 0 none) (a0y (Nat.zero_le _)) (by kernel_rfl) ?_ fun _=>?_
 ·rw [g3z]; exact⟨rfl,(),[.id 0,.none,.none,.id 1,.none,.none],by(exact zC)⟩
 refine SSp.code_to (g:=[]) 5 rfl (σ:={x:SQ×List LnV×SpS // StL x.1 x.2.1∧c7l t t.length x.2.2∧x.2.1.length≤t.length∧x.2.1.map LnV.s++spG t t.length x.2.2=spA t}) (fun _=>d7p t) (fun x=>lpG t (stB x.1.1 5) x.1.2.1 x.1.2.2 t.length none) (by kernel_rfl) ?_ fun⟨⟨q,ls,S⟩,hS,hO,hl,hR⟩=>?_
 ·refine a0p.g9t 0 (by kernel_rfl) (σ:=LpX t) (fun _=>snT t) (fun x=>lpG t (stB x.q 5) x.ls x.S x.p x.pd) (fun x=>t.length - x.p) (fun x=>Nat.zero_le _) (fun⟨q,ls,S,pd,p,hS,hO,hl,hR,hP⟩=>?_) ⟨d7n,[],spZ,none,0,StL.nil,c7l.zero ht,by simp,by simp [spA],fun L h=>by cases h⟩
  dsimp only
  cases pd with
  | none =>
    have hR0:ls.map LnV.s++spG t p S=spA t:=hR
    have hl0:ls.length≤p:=by simpa using hl
    have nl:=a5z ls; have nw:=a3g S.ws
    refine SSp.to a0j (n:=60) (g:=[]) 2 2 rfl (σ:={_u:Unit // p < t.length}) (fun _=>f6j t p (xrn t p)) (fun _=>lpG t (stB q 5) ls S (p+xrw t p) none) (a0y (Nat.zero_le _)) (by kernel_rfl) ?_ fun⟨_,hp⟩=>?_
    ·dsimp only [lpG]
     rw [g1z]
     by_cases hp:p < t.length
     ·have y0:xle (a0a p 1) (a0z t)=true:=a1n (show p+1≤t.length by omega)
      rw [y0]
      dsimp only [cond_true]
      obtain⟨F',e',h'⟩:=q
      cases e' <;> exact⟨rfl,⟨(),hp⟩,[.id 0,.id 1,.id 2,.id 3,.id 4,.id 5],by(exact zC)⟩
     ·have y0:xle (a0a p 1) (a0z t)=false:=d9k (show t.length < p+1 by omega)
      rw [y0]
      dsimp only [cond_false]
      have ep:p=t.length:=by have:=hO.hp; omega
      refine⟨rfl,⟨(q,ls,S),hS,ep▸hO,by rw [← ep]; exact hl0,by rw [← ep]; exact hR0⟩,[.id 0,.id 1,.id 2,.id 3,.id 4,.id 5],?_⟩
      dsimp only [lpG]
      rw [← ep]
      obtain⟨F',e',h'⟩:=q
      cases e' <;> (exact zC)
    refine SSp.last a0j (n:=60) (a0y (Nat.zero_le _)) ?_
    have hw:=b1o hp
    refine c5x t (stB q 5) ls S p (d0a q 5) hO hl0 hp _ fun S' pd ρ vs bs hG hO' hP' hc=>?_
    have hpl:ls.length+pd.toList.length≤p+xrw t p:=by
     have:pd.toList.length≤1:=by cases pd <;> simp
     omega
    exact⟨rfl,⟨q,ls,S',pd,p+xrw t p,hS,hO',hpl,by rw [← hG]; exact hR0,hP'⟩,by dsimp only; omega,ρ,hc⟩
  | some L =>
    have hP1:=hP L rfl
    refine SSp.g9w 1 (ls.length * 2) 2 4 (γ:=5) (n:=L.ws.length) (cs:=a0f wdC L.ws) (op:=some 2) (q:=q) (by kernel_rfl) (Nat.zero_le _) rfl (f3r ls _ _) (by omega) (by omega) rfl rfl (a3g _) (fun h=>by rw [List.length_eq_zero_iff.1 h]; rfl) fun v q1 hq1=>?_
    have hS1:StL q1 (ls++[⟨v,L⟩]):=hS.push rfl rfl hq1
    rw [d6k]
    change SSp _ _ _ _ (a1p 34 (snT t)) (mkS (snQ t (ls.length+1) S.f (a0f lnC (ls++[⟨v,L⟩])) p (stB q1 7)) []) _
    have hln:(ls++[(⟨v,L⟩:LnV)]).length=ls.length+1:=by simp
    rw [← hln]
    have hl0:(ls++[(⟨v,L⟩:LnV)]).length≤p:=by simp at hl ⊢; omega
    have hR0:(ls++[(⟨v,L⟩:LnV)]).map LnV.s++spG t p S=spA t:=by rw [← hR]; simp
    have hP2:S.ws=[]∧S.e=0∧S.c=1∧S.s = -1∧S.m=false:=by rw [hP1]; exact⟨rfl,rfl,rfl,rfl,rfl⟩
    clear hln hq1
    revert hl0 hR0 hS1
    generalize ls++[(⟨v,L⟩:LnV)]=ls1
    intro hS1 hl0 hR0
    refine SSp.to a0j (n:=60) (g:=[]) 0 0 rfl (σ:=Unit) (fun _=>snT t) (fun _=>lpG t (stB q1 5) ls1 S p none) (a0y (Nat.zero_le _)) (by kernel_rfl) ?_ fun _=>?_
    ·rw [g3u]
     have nl:=a5z ls1
     dsimp only [lpG]
     rw [hP2.1,hP2.2.1,hP2.2.2.1,hP2.2.2.2.1,hP2.2.2.2.2]
     obtain⟨F',e',h'⟩:=q1
     cases e' <;> exact⟨rfl,(),[.id 0,.id 1,.none,.id 3,.id 6,.id 7],by(exact zC)⟩
    have nl:=a5z ls1; have nw:=a3g S.ws
    refine SSp.to a0j (n:=60) (g:=[]) 2 2 rfl (σ:={_u:Unit // p < t.length}) (fun _=>f6j t p (xrn t p)) (fun _=>lpG t (stB q1 5) ls1 S (p+xrw t p) none) (a0y (Nat.zero_le _)) (by kernel_rfl) ?_ fun⟨_,hp⟩=>?_
    ·dsimp only [lpG]
     rw [g1z]
     by_cases hp:p < t.length
     ·have y0:xle (a0a p 1) (a0z t)=true:=a1n (show p+1≤t.length by omega)
      rw [y0]
      dsimp only [cond_true]
      obtain⟨F',e',h'⟩:=q1
      cases e' <;> exact⟨rfl,⟨(),hp⟩,[.id 0,.id 1,.id 2,.id 3,.id 4,.id 5],by(exact zC)⟩
     ·have y0:xle (a0a p 1) (a0z t)=false:=d9k (show t.length < p+1 by omega)
      rw [y0]
      dsimp only [cond_false]
      have ep:p=t.length:=by have:=hO.hp; omega
      refine⟨rfl,⟨(q1,ls1,S),hS1,ep▸hO,by rw [← ep]; exact hl0,by rw [← ep]; exact hR0⟩,[.id 0,.id 1,.id 2,.id 3,.id 4,.id 5],?_⟩
      dsimp only [lpG]
      rw [← ep]
      obtain⟨F',e',h'⟩:=q1
      cases e' <;> (exact zC)
    refine SSp.last a0j (n:=60) (a0y (Nat.zero_le _)) ?_
    have hw:=b1o hp
    refine c5x t (stB q1 5) ls1 S p (d0a q1 5) hO hl0 hp _ fun S' pd ρ vs bs hG hO' hP' hc=>?_
    have hpl:ls1.length+pd.toList.length≤p+xrw t p:=by
     have:pd.toList.length≤1:=by cases pd <;> simp
     omega
    exact⟨rfl,⟨q1,ls1,S',pd,p+xrw t p,hS1,hO',hpl,by rw [← hG]; exact hR0,hP'⟩,by dsimp only; omega,ρ,hc⟩
 have nl:=a5z ls; have nw:=a3g S.ws
 refine SSp.to a0j (n:=60) (g:=[]) 1 6 rfl (σ:=Unit) (fun _=>f7k t (xcm .gtr S.c 1)) (fun _=>lpG t (stB q 5) ls S t.length none) (a0y (Nat.zero_le _)) (by kernel_rfl) ?_ fun _=>?_
 ·dsimp only [lpG]
  rw [g3x]
  obtain⟨F',e',h'⟩:=q
  cases e' <;> exact⟨rfl,(),[.id 0,.id 1,.id 2,.id 3,.id 4,.id 5],by(exact zC)⟩
 refine SSp.code_to (g:=[]) 7 rfl (σ:=FnX t) (fun _=>d7p t) (fun x=>lpG t (stB x.q 5) x.ls x.S t.length x.pd) (by kernel_rfl) ?_ fun⟨q,ls,S,pd,hS,hR⟩=>?_
 ·refine a0p.vc a0j (n:=60) (a0y (Nat.zero_le _)) ?_
  dsimp only at hO hl hR hS ⊢
  rw [spG,dif_neg (by omega)] at hR
  by_cases c1:1 < S.c
  ·rw [if_pos c1] at hR
   rw [show xcm .gtr S.c 1=true from a7w c1]
   refine f2e t (stB q 5) ls S (d0a q 5) hO hl _ fun S' pd ρ vs bs hL hc=>?_
   exact⟨rfl,⟨q,ls,S',pd,hS,by rw [← hL]; exact hR⟩,ρ,hc⟩
  ·rw [if_neg c1,List.append_nil] at hR
   dsimp only [lpG]
   rw [g1y,show xcm .gtr S.c 1=false from a7e (by omega)]
   simp only [cond_false]
   refine⟨rfl,⟨q,ls,S,none,hS,by simpa using hR⟩,[.id 0,.id 1,.id 2,.id 3,.id 4,.id 5],?_⟩
   dsimp only [lpG]
   obtain⟨F',e',h'⟩:=q
   cases e' <;> (exact zC)
 dsimp only
 cases pd with
 | none =>
   dsimp only [lpG]
   refine SSp.last a0j (n:=60) (a0y (Nat.zero_le _)) ?_
   rw [g3w]
   have nl:=a5z ls
   refine⟨trivial,rfl,_,_,[.id 1,.id 4,.id 5],⟨q,ls,hS,by simpa using hR,rfl,rfl⟩,?_⟩
   obtain⟨F',e',h'⟩:=q
   cases e' <;> (exact zC)
 | some L =>
   refine SSp.g9w 1 (ls.length * 2) 2 4 (γ:=5) (n:=L.ws.length) (cs:=a0f wdC L.ws) (op:=some 2) (q:=q) (by kernel_rfl) (Nat.zero_le _) rfl (f3r ls _ _) (by omega) (by omega) rfl rfl (a3g _) (fun h=>by rw [List.length_eq_zero_iff.1 h]; rfl) fun v q1 hq1=>?_
   have hS1:StL q1 (ls++[⟨v,L⟩]):=hS.push rfl rfl hq1
   rw [d6k]
   change SSp _ _ _ _ (a1p 34 (d7p t)) (mkS (snQ t (ls.length+1) S.f (a0f lnC (ls++[⟨v,L⟩])) t.length (stB q1 7)) []) _
   refine SSp.last a0j (n:=60) (a0y (Nat.zero_le _)) ?_
   rw [g3v]
   have nl:=a5z (ls++[(⟨v,L⟩:LnV)])
   have hl1:(ls++[(⟨v,L⟩:LnV)]).length=ls.length+1:=by simp
   rw [← hl1]
   have hR1:(ls++[(⟨v,L⟩:LnV)]).map LnV.s=spA t:=by rw [← hR]; simp
   clear hl1
   revert hR1 hS1 nl
   generalize ls++[(⟨v,L⟩:LnV)]=ls1
   intro hS1 nl hR1
   refine⟨trivial,rfl,_,_,[.id 1,.id 6,.id 7],⟨q1,ls1,hS1,hR1,rfl,rfl⟩,?_⟩
   obtain⟨F',e',h'⟩:=q1
   cases e' <;> (exact zC)
end
end Go.Lev
