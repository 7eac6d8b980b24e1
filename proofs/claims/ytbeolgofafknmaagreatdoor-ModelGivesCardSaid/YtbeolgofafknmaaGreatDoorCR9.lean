/- chapter 11: Give of the model, both: trees -/
import Derived.Test.YtbeolgofafknmaaGreatDoorCR8
import Derived.Test.YtbeolgofafknmaaGreatDoorLc
import Derived.Test.YtbeolgofafknmaaGreatDoorChecked
import Derived.KernelRfl
namespace Go.Lev
set_option linter.unusedSimpArgs false
set_option linter.unusedVariables false
open Go.RowKit
open Go.Proofs.Tryz (prog)
set_option maxRecDepth 100000
noncomputable section
def cxgA:Cx:=cxl [(20,whO),(21,gvG),(16,ap0G)]
def cxgZ:Cx:=cxl [(16,apG),(64,lcellsG)]
def cxrA:Cx:=cxl [(23,xhO),(24,ogvG),(25,ra0G)]
def cxrZ:Cx:=cxl [(25,raG),(26,owholeG)]
abbrev giS:List Code:=sp prog 8
abbrev riS:List Code:=sp prog 9
abbrev giL:List Nat:=[0,6,7,14,15,16]
abbrev riL:List Nat:=[0,1,6,7,8]
abbrev o0:List LV:=[.int .i64 0,.int .i64 0,.str [],.nils,.nils,.nils]
abbrev giT (n m i:Nat):List (Nat×LV):=[(0,.slo 0 0 n 0),(6,.ptr 2 0),(7,.ptr 3 0),(14,.slo 1 0 m 0),(15,.int .i64 m),(16,.int .i64 i)]
abbrev riT (n m i:Nat):List (Nat×LV):=[(0,.slo 0 0 n 0),(1,.slo 1 0 m 0),(6,.ptr 2 0),(7,.ptr 3 0),(8,.int .i64 i)]
abbrev giH (ws bc:List LV) (sz n:Nat) (kc sc:List LV) (nd most:Int) (d:Nat) (cs:List LV):List LB:=[.cells ws (some 1),.cells bc (some 1),.cells o0 none,.cells [.slo 4 0 n 0,.slo 5 0 sz 0,.int .i64 nd,.ptr 6 0] none,.cells kc (some 2),.cells sc (some 1),.cells [.int .i64 most,.slo 7 0 d 0] none,.obj lvF cs 8,.dead]
abbrev riH (ws bc:List LV) (sz n:Nat) (kc:List LV) (nd most:Int) (d:Nat) (cs:List LV):List LB:=[.cells ws (some 1),.cells bc (some 1),.cells o0 none,.cells [.int .i64 sz,.slo 4 0 n 0,.ptr 5 0,.int .i64 nd] none,.cells kc (some 2),.cells [.int .i64 most,.slo 6 0 d 0] none,.obj orF cs 7,.dead]
theorem gi_a (most:Int) (ws bc:List LV) (n m:Nat) (K:Pk):(xsp prog cxgA 60 33 (seg giS 0 3) (tm0 [.slo 0 0 n 0,.slo 1 0 m 0,.int .i64 most]) (mkS [.cells ws (some 1),.cells bc (some 1)]) (vK giL K))=(
 ck (okIu64 ws n) <|
 ck (xle n 1000000) <|
 K .normal [.slo 0 0 n 0,.ptr 2 0,.ptr 3 0,.slo 1 0 m 0,.int .i64 ↑m,.int .i64 0] [sC ws 1,sC bc 1,sN [.int .i64 0,.int .i64 0,.str [],.nils,.nils,.nils],sN [.slo 4 0 (vhN n) 0,.slo 5 0 (szQ n) 0,.int .i64 0,.ptr 6 0],sC (vhC ws n) 2,sC (spW (szQ n) (vhC ws n)) 1,sN [.int .i64 (xmn (xmx most 0) 96),.slo 7 0 1 0],some (.obj lvF [.tup [.agg [],.agg []]] 8),sD] []):=by kernel_rfl
theorem gi_b (n0 m i:Nat) (ws bc:List LV) (sz n:Nat) (kc sc:List LV) (nd most:Int) (d:Nat) (cs:List LV) (K:Pk):(xcode prog cxgA 60 33 (loopOf (nthC giS 3)) (mkTm 33 (giT n0 m i)) (mkS (giH ws bc sz n kc sc nd most d cs)) (vK giL K))=(
 bif xcm .lss ↑i ↑m then(
 ck (xle (xadd (xnat ↑i) 1) m) <|
 ck (xle (xadd (xix 0 (xnat ↑i) 1) 1) (xln bc)) <|
 ck (isI .i64 (nthD bc (xix 0 (xnat ↑i) 1))) <|
 ck (okK sz n kc) <|
 ck (eqL sc (spW sz kc)) <|
 ck (okR most cs d) <|
 ck (isF lvF lvF) <|
 bif xcm .neq (gvE sz most kc cs (asI (nthD bc (xix 0 (xnat ↑i) 1)))) 0 then(
 ck (okIu64 ws n0) <|
 ck (xle n0 1000000) <|
 K .ret [.slo 0 0 n0 0,.ptr 2 0,.ptr 3 0,.slo 1 0 m 0,.int .i64 ↑m,.int .i64 ↑i] [sC ws 1,sC bc 1,sN [.int .i64 4,.int .i64 (gvE sz most kc cs (asI (nthD bc (xix 0 (xnat ↑i) 1)))),.str [],.nils,.nils,.slo 11 0 (szQ n0) 0],sN [.slo 4 0 n 0,.slo 5 0 sz 0,.int .i64 (gvD sz kc cs (asI (nthD bc (xix 0 (xnat ↑i) 1))) nd),.ptr 6 0],sC kc 2,sC sc 1,sN [.int .i64 most,.slo 7 0 (gvN sz most kc cs (asI (nthD bc (xix 0 (xnat ↑i) 1))) d) 0],some (.obj lvF (gvC sz most kc cs (asI (nthD bc (xix 0 (xnat ↑i) 1)))) 9),sD,sD,sC [] 2,sC (apC ws []) 1] [])
 else(
 K .normal [.slo 0 0 n0 0,.ptr 2 0,.ptr 3 0,.slo 1 0 m 0,.int .i64 ↑m,.int .i64 (xar .add .i64 (↑i) 1)] [sC ws 1,sC bc 1,sN [.int .i64 0,.int .i64 0,.str [],.nils,.nils,.nils],sN [.slo 4 0 n 0,.slo 5 0 sz 0,.int .i64 (gvD sz kc cs (asI (nthD bc (xix 0 (xnat ↑i) 1))) nd),.ptr 6 0],sC kc 2,sC sc 1,sN [.int .i64 most,.slo 7 0 (gvN sz most kc cs (asI (nthD bc (xix 0 (xnat ↑i) 1))) d) 0],some (.obj lvF (gvC sz most kc cs (asI (nthD bc (xix 0 (xnat ↑i) 1)))) 9),sD,sD] []))
 else(
 K (.exit 0) [.slo 0 0 n0 0,.ptr 2 0,.ptr 3 0,.slo 1 0 m 0,.int .i64 ↑m,.int .i64 ↑i] [sC ws 1,sC bc 1,sN [.int .i64 0,.int .i64 0,.str [],.nils,.nils,.nils],sN [.slo 4 0 n 0,.slo 5 0 sz 0,.int .i64 nd,.ptr 6 0],sC kc 2,sC sc 1,sN [.int .i64 most,.slo 7 0 d 0],some (.obj lvF cs 8),sD] [])):=by kernel_rfl
theorem gi_z (n0 m i:Nat) (ws bc:List LV) (sz n:Nat) (kc sc:List LV) (nd most:Int) (d:Nat) (cs:List LV) (K:Pk):(xsp prog cxgZ 60 33 (giS.drop 4) (mkTm 33 (giT n0 m i)) (mkS (giH ws bc sz n kc sc nd most d cs)) (vK giL K))=(
 ck (okR most cs d) <|
 ck (isF lvF lvF) <|
 ck (okIu64 ws n0) <|
 ck (okC (lcC cs) (lcN cs)) <|
 ck (xle (lcN cs) 1000) <|
 K .ret [.slo 0 0 n0 0,.ptr 2 0,.ptr 3 0,.slo 1 0 m 0,.int .i64 ↑m,.int .i64 ↑i] [sC ws 1,sC bc 1,sN [.int .i64 2,.int .i64 0,.str [],.slo 10 0 (lcN cs) 0,.nils,.slo 12 0 (szQ n0) 0],sN [.slo 4 0 n 0,.slo 5 0 sz 0,.int .i64 nd,.ptr 6 0],sC kc 2,sC sc 1,sN [.int .i64 most,.slo 7 0 d 0],some (.obj lvF cs 11),sD,sN [.int .i64 2,.int .i64 0,.str [],.slo 10 0 (lcN cs) 0,.nils,.slo 12 0 (szQ n0) 0],sC (lcC cs) 2,sD,sC (apC ws (lcC cs)) 1] []):=by kernel_rfl
theorem ri_a (most:Int) (ws bc:List LV) (n m:Nat) (K:Pk):(xsp prog cxrA 60 43 (seg riS 0 3) (tm0 [.slo 0 0 n 0,.slo 1 0 m 0,.int .i64 most]) (mkS [.cells ws (some 1),.cells bc (some 1)]) (vK riL K))=(
 ck (okIu64 ws n) <|
 ck (xle n 1000000) <|
 K .normal [.slo 0 0 n 0,.slo 1 0 m 0,.ptr 2 0,.ptr 3 0,.int .i64 0] [sC ws 1,sC bc 1,sN [.int .i64 0,.int .i64 0,.str [],.nils,.nils,.nils],sN [.int .i64 (Int.ofNat (szQ n)),.slo 4 0 (vhN n) 0,.ptr 5 0,.int .i64 0],sC (vhC ws n) 2,sN [.int .i64 (xmn (xmx most 0) 96),.slo 6 0 1 0],some (.obj orF [.tup [.agg [],.agg []]] 7),sD] []):=by kernel_rfl
theorem ri_b (n0 m i:Nat) (ws bc:List LV) (sz n:Nat) (kc:List LV) (nd most:Int) (d:Nat) (cs:List LV) (K:Pk):(xcode prog cxrA 60 43 (loopOf (nthC riS 3)) (mkTm 43 (riT n0 m i)) (mkS (riH ws bc sz n kc nd most d cs)) (vK riL K))=(
 bif xcm .lss ↑i ↑m then(
 ck (xle (xadd (xnat ↑i) 1) m) <|
 ck (xle (xadd (xix 0 (xnat ↑i) 1) 1) (xln bc)) <|
 ck (isI .i64 (nthD bc (xix 0 (xnat ↑i) 1))) <|
 ck (okK sz n kc) <|
 ck (okR most cs d) <|
 ck (okv sz kc cs) <|
 ck (isF orF orF) <|
 bif xcm .neq (gvE sz most kc cs (asI (nthD bc (xix 0 (xnat ↑i) 1)))) 0 then(
 ck (okIu64 ws n0) <|
 ck (xle n0 1000000) <|
 K .ret [.slo 0 0 n0 0,.slo 1 0 m 0,.ptr 2 0,.ptr 3 0,.int .i64 ↑i] [sC ws 1,sC bc 1,sN [.int .i64 4,.int .i64 (gvE sz most kc cs (asI (nthD bc (xix 0 (xnat ↑i) 1)))),.str [],.nils,.nils,.slo 11 0 (szQ n0) 0],sN [.int .i64 (Int.ofNat sz),.slo 4 0 n 0,.ptr 5 0,.int .i64 (gvD sz kc cs (asI (nthD bc (xix 0 (xnat ↑i) 1))) nd)],sC kc 2,sN [.int .i64 most,.slo 8 0 (gvN sz most kc cs (asI (nthD bc (xix 0 (xnat ↑i) 1))) d) 0],sD,sD,some (.obj orF (gvC sz most kc cs (asI (nthD bc (xix 0 (xnat ↑i) 1)))) 9),sD,sC [] 2,sC (apC ws []) 1] [])
 else(
 K .normal [.slo 0 0 n0 0,.slo 1 0 m 0,.ptr 2 0,.ptr 3 0,.int .i64 (xar .add .i64 (↑i) 1)] [sC ws 1,sC bc 1,sN [.int .i64 0,.int .i64 0,.str [],.nils,.nils,.nils],sN [.int .i64 (Int.ofNat sz),.slo 4 0 n 0,.ptr 5 0,.int .i64 (gvD sz kc cs (asI (nthD bc (xix 0 (xnat ↑i) 1))) nd)],sC kc 2,sN [.int .i64 most,.slo 8 0 (gvN sz most kc cs (asI (nthD bc (xix 0 (xnat ↑i) 1))) d) 0],sD,sD,some (.obj orF (gvC sz most kc cs (asI (nthD bc (xix 0 (xnat ↑i) 1)))) 9),sD] []))
 else(
 K (.exit 0) [.slo 0 0 n0 0,.slo 1 0 m 0,.ptr 2 0,.ptr 3 0,.int .i64 ↑i] [sC ws 1,sC bc 1,sN [.int .i64 0,.int .i64 0,.str [],.nils,.nils,.nils],sN [.int .i64 ↑sz,.slo 4 0 n 0,.ptr 5 0,.int .i64 nd],sC kc 2,sN [.int .i64 most,.slo 6 0 d 0],some (.obj orF cs 7),sD] [])):=by kernel_rfl
theorem ri_z (n0 m i:Nat) (ws bc:List LV) (sz n:Nat) (kc:List LV) (nd most:Int) (d:Nat) (cs:List LV) (K:Pk):(xsp prog cxrZ 60 43 (riS.drop 4) (mkTm 43 (riT n0 m i)) (mkS (riH ws bc sz n kc nd most d cs)) (vK riL K))=(
 ck (okR most cs d) <|
 ck (isF orF orF) <|
 ck (okIu64 ws n0) <|
 ck (okC (lcC cs) (lcN cs)) <|
 ck (xle (lcN cs) 1000) <|
 ck (xle n0 1000000) <|
 K .ret [.slo 0 0 n0 0,.slo 1 0 m 0,.ptr 2 0,.ptr 3 0,.int .i64 ↑i] [sC ws 1,sC bc 1,sN [.int .i64 2,.int .i64 0,.str [],.slo 9 0 (lcN cs) 0,.nils,.slo 12 0 (szQ n0) 0],sN [.int .i64 ↑sz,.slo 4 0 n 0,.ptr 5 0,.int .i64 nd],sC kc 2,sN [.int .i64 most,.slo 6 0 d 0],some (.obj orF cs 11),sD,sD,sC (lcC cs) 2,sC (lwC cs) 1,sD,sC (apC ws (lcC cs)) 1] []):=by kernel_rfl
end
end Go.Lev
