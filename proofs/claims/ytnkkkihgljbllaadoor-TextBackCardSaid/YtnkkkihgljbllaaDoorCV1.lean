/- text: a text cut into lines of words: its trees -/
import Derived.Test.YtnkkkihgljbllaaDoorLc
import Derived.Test.YtnkkkihgljbllaaDoorChecked
import Derived.KernelRfl
namespace Go.Lev
set_option linter.unusedSimpArgs false
set_option linter.unusedVariables false
open Go.RowKit
open Go.Proofs.Tryd (prog)
set_option maxRecDepth 100000
noncomputable section
abbrev slL:List Nat:=[0,2,3,4,5,12,13,25]
abbrev snX:Cx:=fun _=>none
abbrev snC (t:List UInt8) (nl nw:Nat) (e c s f:Int) (m:Bool):List LV:=[.str t,.slo 1 0 nl 0,.slo 2 0 nw 0,.int .i64 e,.int .i64 c,.int .i64 s,.int .i64 f,.bool m]
abbrev snT (t:List UInt8):List (Nat×LV):=[(0,.str t),(2,.nils),(3,.ptr 0 0),(12,.ptr 3 0)]
abbrev snT1 (t:List UInt8) (i:Nat) (r:Int):List (Nat×LV):=[(0,.str t),(2,.nils),(3,.ptr 0 0),(12,.ptr 3 0),(13,.tup [.bool true,.int .i64 (.ofNat i),.int .i32 r])]
abbrev snT2 (t:List UInt8):List (Nat×LV):=[(0,.str t),(2,.nils),(3,.ptr 0 0)]
abbrev snT3 (t:List UInt8) (q:Bool):List (Nat×LV):=[(0,.str t),(2,.nils),(3,.ptr 0 0),(25,.bool q)]
abbrev snP (t:List UInt8) (nl nw:Nat) (f:Int) (lx wx:List LV) (p:Nat) (o:LB):List LB:=[.cells [.str t,.slo 1 0 nl 0,.nils,.int .i64 (Int.ofNat 0),.int .i64 (Int.ofNat 1),.int .i64 (Int.negSucc 0),.int .i64 f,.bool false] none,.cells lx (some 2),.cells wx (some 2),.iter t p,o,.dead]
abbrev snQ (t:List UInt8) (nl:Nat) (f:Int) (lx:List LV) (p:Nat) (o:LB):List LB:=[.cells [.str t,.slo 1 0 nl 0,.nils,.int .i64 (Int.ofNat 0),.int .i64 (Int.ofNat 1),.int .i64 (Int.negSucc 0),.int .i64 f,.bool false] none,.cells lx (some 2),.dead,.iter t p,.dead,.dead,o,.dead]
abbrev snH (t:List UInt8) (nl nw:Nat) (e c s f:Int) (m:Bool) (lx wx:List LV) (p:Nat) (o:LB):List LB:=[.cells (snC t nl nw e c s f m) none,.cells lx (some 2),.cells wx (some 2),.iter t p,o,.dead]
theorem sn_0 (t:List UInt8) (K:Pk):(xsp prog snX 60 34 (seg (sp prog 46) 0 4) (tm0 [.str t]) (mkS [] []) (vK slL K))=(
 K .normal [.str t,.nils,.ptr 0 0,.tup [],.tup [],.ptr 1 0,.tup [],.tup []] [sN [.str t,.nils,.nils,.int .i64 0,.int .i64 1,.int .i64 (-1),.int .i64 0,.bool false],some (.iter t 0)] []):=by kernel_rfl
theorem sn_a (t:List UInt8) (nl nw:Nat) (e c s f:Int) (m:Bool) (lx wx:List LV) (p:Nat) (o:LB) (K:Pk):(xsp prog snX 60 34 (seg (spineL (loopOf (nthC (sp prog 46) 4))) 0 2) (mkTm 34 (snT t)) (mkS (snH t nl nw e c s f m lx wx p o) []) (vK slL K))=(
 bif xle (xadd p 1) (xsln t) then(
 K .normal [.str t,.nils,.ptr 0 0,.any,.any,.ptr 3 0,.tup [.bool true,.int .i64 (Int.ofNat p),.int .i32 (xrn t p)],.any] [sN [.str t,.slo 1 0 nl 0,.slo 2 0 nw 0,.int .i64 e,.int .i64 c,.int .i64 s,.int .i64 f,.bool m],sC lx 2,sC wx 2,some (.iter t (xadd p (xrw t p))),some o,sD] [])
 else(
 K (.exit 0) [.str t,.nils,.ptr 0 0,.any,.any,.ptr 3 0,.tup [.bool false],.any] [sN [.str t,.slo 1 0 nl 0,.slo 2 0 nw 0,.int .i64 e,.int .i64 c,.int .i64 s,.int .i64 f,.bool m],sC lx 2,sC wx 2,some (.iter t p),some o,sD] [])):=by kernel_rfl
abbrev sn_b_b1 (t:List UInt8) (nl:Nat) (nw:Nat) (e:Int) (c:Int) (s:Int) (f:Int) (m:Bool) (lx:List LV) (wx:List LV) (p:Nat) (o:LB):List (Option LB):=[sN [.str t,.slo 1 0 nl 0,.slo 2 0 nw 0,.int .i64 e,.int .i64 (xar .add .i64 c 1),.int .i64 s,.int .i64 f,.bool m],sC lx 2,sC wx 2,some (.iter t p),some o,sD]
abbrev sn_b_b2 (t:List UInt8) (nl:Nat) (nw:Nat) (e:Int) (c:Int) (s:Int) (f:Int) (m:Bool) (lx:List LV) (wx:List LV) (p:Nat) (o:LB) (i:Nat):List (Option LB):=[sN [.str t,.slo 1 0 nl 0,.slo 7 0 (xadd nw 1) 0,.int .i64 e,.int .i64 (xar .add .i64 c 1),.int .i64 (-1),.int .i64 f,.bool m],sC lx 2,sD,some (.iter t p),some o,sD,sN [.str (xscut t (xnat s) i),.int .i64 f],sC (xcat (xcut wx 0 (xmul nw 2)) [.str (xscut t (xnat s) i),.int .i64 f]) 2]
theorem sn_b (t:List UInt8) (nl nw:Nat) (e c s f:Int) (m:Bool) (lx wx:List LV) (p:Nat) (o:LB) (i:Nat) (r:Int) (K:Pk):(xsp prog snX 60 34 ((spineL (loopOf (nthC (sp prog 46) 4))).drop 2) (mkTm 34 (snT1 t i r)) (mkS (snH t nl nw e c s f m lx wx p o) []) (vK slL K))=(
 bif xcm .eql r 10 then(
 bif xnot m then(
 bif xcm .neq s (-1) then(
 ck (xnn s) <|
 ck (xle (xnat s) i) <|
 ck (xle i (xsln t)) <|
 ck (xle (xadd nw 1) 1000000) <|
 ck (xle (xadd 0 (xmul nw 2)) (xln wx)) <|
 ck (xeq nw nw) <|
 ck (xeq nw nw) <|
 ck (xle (xadd nl 1) 1000000) <|
 ck (xle (xadd 0 (xmul nl 2)) (xln lx)) <|
 ck (xeq nl nl) <|
 ck (xeq nl nl) <|
 K .normal [.str t,.nils,.ptr 0 0,.int .i64 (Int.ofNat i),.int .i32 r,.ptr 3 0,.tup [.bool true,.int .i64 (Int.ofNat i),.int .i32 r],.any] [sN [.str t,.slo 9 0 (xadd nl 1) 0,.nils,.int .i64 0,.int .i64 1,.int .i64 (-1),.int .i64 f,.bool false],sD,sD,some (.iter t p),some o,sD,sN [.str (xscut t (xnat s) i),.int .i64 f],sC (xcat (xcut wx 0 (xmul nw 2)) [.str (xscut t (xnat s) i),.int .i64 f]) 2,sN [.slo 7 0 (xadd nw 1) 0,.int .i64 c],sC (xcat (xcut lx 0 (xmul nl 2)) [.slo 7 0 (xadd nw 1) 0,.int .i64 c]) 2] [])
 else(
 ck (xle (xadd nl 1) 1000000) <|
 ck (xle (xadd 0 (xmul nl 2)) (xln lx)) <|
 ck (xeq nl nl) <|
 ck (xeq nl nl) <|
 K .normal [.str t,.nils,.ptr 0 0,.int .i64 (Int.ofNat i),.int .i32 r,.ptr 3 0,.tup [.bool true,.int .i64 (Int.ofNat i),.int .i32 r],.any] [sN [.str t,.slo 7 0 (xadd nl 1) 0,.nils,.int .i64 0,.int .i64 1,.int .i64 (-1),.int .i64 f,.bool false],sD,sC wx 2,some (.iter t p),some o,sD,sN [.slo 2 0 nw 0,.int .i64 c],sC (xcat (xcut lx 0 (xmul nl 2)) [.slo 2 0 nw 0,.int .i64 c]) 2] []))
 else(
 ck (xle (xadd nl 1) 1000000) <|
 ck (xle (xadd 0 (xmul nl 2)) (xln lx)) <|
 ck (xeq nl nl) <|
 ck (xeq nl nl) <|
 K .normal [.str t,.nils,.ptr 0 0,.int .i64 (Int.ofNat i),.int .i32 r,.ptr 3 0,.tup [.bool true,.int .i64 (Int.ofNat i),.int .i32 r],.any] [sN [.str t,.slo 7 0 (xadd nl 1) 0,.nils,.int .i64 0,.int .i64 1,.int .i64 (-1),.int .i64 f,.bool false],sD,sC wx 2,some (.iter t p),some o,sD,sN [.slo 2 0 nw 0,.int .i64 e],sC (xcat (xcut lx 0 (xmul nl 2)) [.slo 2 0 nw 0,.int .i64 e]) 2] []))
 else(
 bif m then(
 K .normal [.str t,.nils,.ptr 0 0,.int .i64 (Int.ofNat i),.int .i32 r,.ptr 3 0,.tup [.bool true,.int .i64 (Int.ofNat i),.int .i32 r],.any] (sn_b_b1 t nl nw e c s f m lx wx p o) [])
 else(
 bif xcm .eql r 59 then(
 bif xcm .neq s (-1) then(
 ck (xnn s) <|
 ck (xle (xnat s) i) <|
 ck (xle i (xsln t)) <|
 ck (xle (xadd nw 1) 1000000) <|
 ck (xle (xadd 0 (xmul nw 2)) (xln wx)) <|
 ck (xeq nw nw) <|
 ck (xeq nw nw) <|
 K .normal [.str t,.nils,.ptr 0 0,.int .i64 (Int.ofNat i),.int .i32 r,.ptr 3 0,.tup [.bool true,.int .i64 (Int.ofNat i),.int .i32 r],.any] [sN [.str t,.slo 1 0 nl 0,.slo 7 0 (xadd nw 1) 0,.int .i64 c,.int .i64 (xar .add .i64 c 1),.int .i64 (-1),.int .i64 f,.bool true],sC lx 2,sD,some (.iter t p),some o,sD,sN [.str (xscut t (xnat s) i),.int .i64 f],sC (xcat (xcut wx 0 (xmul nw 2)) [.str (xscut t (xnat s) i),.int .i64 f]) 2] [])
 else(
 K .normal [.str t,.nils,.ptr 0 0,.int .i64 (Int.ofNat i),.int .i32 r,.ptr 3 0,.tup [.bool true,.int .i64 (Int.ofNat i),.int .i32 r],.any] [sN [.str t,.slo 1 0 nl 0,.slo 2 0 nw 0,.int .i64 c,.int .i64 (xar .add .i64 c 1),.int .i64 s,.int .i64 f,.bool true],sC lx 2,sC wx 2,some (.iter t p),some o,sD] []))
 else(
 bif xcm .eql r 32 then(
 bif xcm .neq s (-1) then(
 ck (xnn s) <|
 ck (xle (xnat s) i) <|
 ck (xle i (xsln t)) <|
 ck (xle (xadd nw 1) 1000000) <|
 ck (xle (xadd 0 (xmul nw 2)) (xln wx)) <|
 ck (xeq nw nw) <|
 ck (xeq nw nw) <|
 K .normal [.str t,.nils,.ptr 0 0,.int .i64 (Int.ofNat i),.int .i32 r,.ptr 3 0,.tup [.bool true,.int .i64 (Int.ofNat i),.int .i32 r],.any] (sn_b_b2 t nl nw e c s f m lx wx p o i) [])
 else(
 K .normal [.str t,.nils,.ptr 0 0,.int .i64 (Int.ofNat i),.int .i32 r,.ptr 3 0,.tup [.bool true,.int .i64 (Int.ofNat i),.int .i32 r],.any] (sn_b_b1 t nl nw e c s f m lx wx p o) []))
 else(
 bif xcm .eql r 9 then(
 bif xcm .neq s (-1) then(
 ck (xnn s) <|
 ck (xle (xnat s) i) <|
 ck (xle i (xsln t)) <|
 ck (xle (xadd nw 1) 1000000) <|
 ck (xle (xadd 0 (xmul nw 2)) (xln wx)) <|
 ck (xeq nw nw) <|
 ck (xeq nw nw) <|
 K .normal [.str t,.nils,.ptr 0 0,.int .i64 (Int.ofNat i),.int .i32 r,.ptr 3 0,.tup [.bool true,.int .i64 (Int.ofNat i),.int .i32 r],.any] (sn_b_b2 t nl nw e c s f m lx wx p o i) [])
 else(
 K .normal [.str t,.nils,.ptr 0 0,.int .i64 (Int.ofNat i),.int .i32 r,.ptr 3 0,.tup [.bool true,.int .i64 (Int.ofNat i),.int .i32 r],.any] (sn_b_b1 t nl nw e c s f m lx wx p o) []))
 else(
 bif xcm .eql s (-1) then(
 K .normal [.str t,.nils,.ptr 0 0,.int .i64 (Int.ofNat i),.int .i32 r,.ptr 3 0,.tup [.bool true,.int .i64 (Int.ofNat i),.int .i32 r],.any] [sN [.str t,.slo 1 0 nl 0,.slo 2 0 nw 0,.int .i64 e,.int .i64 (xar .add .i64 c 1),.int .i64 (Int.ofNat i),.int .i64 c,.bool m],sC lx 2,sC wx 2,some (.iter t p),some o,sD] [])
 else(
 K .normal [.str t,.nils,.ptr 0 0,.int .i64 (Int.ofNat i),.int .i32 r,.ptr 3 0,.tup [.bool true,.int .i64 (Int.ofNat i),.int .i32 r],.any] (sn_b_b1 t nl nw e c s f m lx wx p o) []))))))):=by kernel_rfl
theorem sn_c (t:List UInt8) (nl nw:Nat) (e c s f:Int) (m:Bool) (lx wx:List LV) (p:Nat) (o:LB) (K:Pk):(xsp prog snX 60 34 (seg (sp prog 46) 5 1) (mkTm 34 (snT2 t)) (mkS (snH t nl nw e c s f m lx wx p o) []) (vK slL K))=(
 K .normal [.str t,.nils,.ptr 0 0,.any,.any,.any,.any,.bool (xcm .gtr c 1)] [sN [.str t,.slo 1 0 nl 0,.slo 2 0 nw 0,.int .i64 e,.int .i64 c,.int .i64 s,.int .i64 f,.bool m],sC lx 2,sC wx 2,some (.iter t p),some o,sD] []):=by kernel_rfl
theorem sn_d (t:List UInt8) (nl nw:Nat) (e c s f:Int) (m:Bool) (lx wx:List LV) (p:Nat) (o:LB) (q:Bool) (K:Pk):(xcode prog snX 60 34 (nthC (sp prog 46) 6) (mkTm 34 (snT3 t q)) (mkS (snH t nl nw e c s f m lx wx p o) []) (vK slL K))=(
 bif q then(
 bif xnot m then(
 bif xcm .neq s (-1) then(
 ck (xnn s) <|
 ck (xle (xnat s) (xnat ↑(xsln t))) <|
 ck (xle (xnat ↑(xsln t)) (xsln t)) <|
 ck (xle (xadd nw 1) 1000000) <|
 ck (xle (xadd 0 (xmul nw 2)) (xln wx)) <|
 ck (xeq nw nw) <|
 ck (xeq nw nw) <|
 ck (xle (xadd nl 1) 1000000) <|
 ck (xle (xadd 0 (xmul nl 2)) (xln lx)) <|
 ck (xeq nl nl) <|
 ck (xeq nl nl) <|
 K .normal [.str t,.nils,.ptr 0 0,.any,.any,.any,.any,.bool q] [sN [.str t,.slo 9 0 (xadd nl 1) 0,.nils,.int .i64 0,.int .i64 1,.int .i64 (-1),.int .i64 f,.bool false],sD,sD,some (.iter t p),some o,sD,sN [.str (xscut t (xnat s) (xnat ↑(xsln t))),.int .i64 f],sC (xcat (xcut wx 0 (xmul nw 2)) [.str (xscut t (xnat s) (xnat ↑(xsln t))),.int .i64 f]) 2,sN [.slo 7 0 (xadd nw 1) 0,.int .i64 c],sC (xcat (xcut lx 0 (xmul nl 2)) [.slo 7 0 (xadd nw 1) 0,.int .i64 c]) 2] [])
 else(
 ck (xle (xadd nl 1) 1000000) <|
 ck (xle (xadd 0 (xmul nl 2)) (xln lx)) <|
 ck (xeq nl nl) <|
 ck (xeq nl nl) <|
 K .normal [.str t,.nils,.ptr 0 0,.any,.any,.any,.any,.bool q] [sN [.str t,.slo 7 0 (xadd nl 1) 0,.nils,.int .i64 0,.int .i64 1,.int .i64 (-1),.int .i64 f,.bool false],sD,sC wx 2,some (.iter t p),some o,sD,sN [.slo 2 0 nw 0,.int .i64 c],sC (xcat (xcut lx 0 (xmul nl 2)) [.slo 2 0 nw 0,.int .i64 c]) 2] []))
 else(
 ck (xle (xadd nl 1) 1000000) <|
 ck (xle (xadd 0 (xmul nl 2)) (xln lx)) <|
 ck (xeq nl nl) <|
 ck (xeq nl nl) <|
 K .normal [.str t,.nils,.ptr 0 0,.any,.any,.any,.any,.bool q] [sN [.str t,.slo 7 0 (xadd nl 1) 0,.nils,.int .i64 0,.int .i64 1,.int .i64 (-1),.int .i64 f,.bool false],sD,sC wx 2,some (.iter t p),some o,sD,sN [.slo 2 0 nw 0,.int .i64 e],sC (xcat (xcut lx 0 (xmul nl 2)) [.slo 2 0 nw 0,.int .i64 e]) 2] []))
 else(
 K .normal [.str t,.nils,.ptr 0 0,.any,.any,.any,.any,.bool q] [sN [.str t,.slo 1 0 nl 0,.slo 2 0 nw 0,.int .i64 e,.int .i64 c,.int .i64 s,.int .i64 f,.bool m],sC lx 2,sC wx 2,some (.iter t p),some o,sD] [])):=by kernel_rfl
theorem sn_e (t:List UInt8) (nl nw:Nat) (e c s f:Int) (m:Bool) (lx wx:List LV) (p:Nat) (o:LB) (K:Pk):(xsp prog snX 60 34 ((sp prog 46).drop 7) (mkTm 34 (snT2 t)) (mkS (snH t nl nw e c s f m lx wx p o) []) (vK slL K))=(
 K .ret [.str t,.slo 1 0 nl 0,.ptr 0 0,.any,.any,.any,.any,.any] [sN [.str t,.slo 1 0 nl 0,.slo 2 0 nw 0,.int .i64 e,.int .i64 c,.int .i64 s,.int .i64 f,.bool m],sC lx 2,sC wx 2,some (.iter t p),some o,sD] []):=by kernel_rfl
theorem sn_z (t:List UInt8) (nl:Nat) (f:Int) (lx:List LV) (p:Nat) (o:LB) (K:Pk):(xsp prog snX 60 34 (seg (spineL (loopOf (nthC (sp prog 46) 4))) 0 0) (mkTm 34 (snT t)) (mkS (snQ t nl f lx p o) []) (vK slL K))=(
 K .normal [.str t,.nils,.ptr 0 0,.any,.any,.ptr 3 0,.any,.any] [sN [.str t,.slo 1 0 nl 0,.nils,.int .i64 0,.int .i64 1,.int .i64 (-1),.int .i64 f,.bool false],sC lx 2,sD,some (.iter t p),sD,sD,some o,sD] []):=by kernel_rfl
theorem sn_f (t:List UInt8) (nl:Nat) (f:Int) (lx:List LV) (p:Nat) (o:LB) (K:Pk):(xsp prog snX 60 34 ((sp prog 46).drop 7) (mkTm 34 (snT2 t)) (mkS (snQ t nl f lx p o) []) (vK slL K))=(
 K .ret [.str t,.slo 1 0 nl 0,.ptr 0 0,.any,.any,.any,.any,.any] [sN [.str t,.slo 1 0 nl 0,.nils,.int .i64 0,.int .i64 1,.int .i64 (-1),.int .i64 f,.bool false],sC lx 2,sD,some (.iter t p),sD,sD,some o,sD] []):=by kernel_rfl
end
end Go.Lev
