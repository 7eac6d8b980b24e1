/- chapter 22: ModelGives: trees -/
import Derived.Test.YtbeolgofafknmaaGreatDoorCR11
import Derived.Test.YtbeolgofafknmaaGreatDoorLc
import Derived.Test.YtbeolgofafknmaaGreatDoorChecked
import Derived.KernelRfl
import Derived.Test.YtbeolgofafknmaaGreatDoorLc
import Derived.Test.YtbeolgofafknmaaGreatDoorRows
namespace Go.Lev
set_option linter.unusedSimpArgs false
set_option linter.unusedVariables false
open Go.RowKit
open Go.Proofs.Tryz (prog)
set_option maxRecDepth 100000
noncomputable section
def formsL:List LV:=flatD Go.Proofs.YtbeolgofafknmaaGreatDoor.Rows.laid_quietus_code_forms
def gtab:Glb:=[(0,formsL)]
def runGt:Gc:=fun args s=>match args,s.g with
 | [],[(g0,F0)]=>cond (Nat.beq g0 0 && eqbs F0 formsL) (some ([],.bool true,s)) none
 | _,_=>none
def cxmg:Cx:=cxl [(5,runGt),(6,wrapG wdsG),(8,wrapG giG),(9,wrapG riG),(18,wrapG sameCCellG),(14,wrapG sameIu64G)]
abbrev mvS:List Code:=sp prog 3
abbrev mvL:List Nat:=[1,2,3,8,9,10,11,12,13,14]
abbrev mvT1 (m k:Nat) (y:Int) (N g:Nat) (a:Int) (i:Nat):List (Nat×LV):=[(1,.slo 0 0 m 0),(2,.slo 1 0 k 0),(3,.int .u8 y),(9,.slo 2 0 N 0),(10,.nils),(11,.slo 3 0 g 0),(12,.int .i64 a),(13,.int .i64 i)]
abbrev mvH1 (bx lx wc gc:List LV):List LB:=[.ro bx,.ro lx,.cells wc (some 1),.cells gc (some 1)]
abbrev mvT2 (k:Nat) (y:Int) (N g b i:Nat):List (Nat×LV):=[(2,.slo 1 0 k 0),(3,.int .u8 y),(9,.slo 2 0 N 0),(10,.slo 4 0 b 0),(11,.slo 3 0 g 0),(14,.int .i64 i)]
abbrev mvH2 (bx lx wc gc bc:List LV):List LB:=[.ro bx,.ro lx,.cells wc (some 1),.cells gc (some 1),.cells bc (some 1)]
theorem mv_a (n y:Int) (m k:Nat) (bx lx:List LV) (K:Pk):(xsp prog cxmg 60 101 (seg mvS 0 9) (tm0 [.int .i64 n,.slo 0 0 m 0,.slo 1 0 k 0,.int .u8 y]) (mkS [.ro bx,.ro lx] gtab) (vK mvL K))=(
 bif xcm .gtr (↑k) 20 then(
 K .ret [.slo 0 0 m 0,.slo 1 0 k 0,.int .u8 y,.bool true,.tup [],.tup [],.tup [],.tup [],.tup [],.tup []] [some (.ro bx),some (.ro lx)] gtab)
 else(
 ck (okB8 bx m) <|
 K .normal [.slo 0 0 m 0,.slo 1 0 k 0,.int .u8 y,.bool false,.slo 2 0 (wdN n) 0,.nils,.nils,.int .i64 14,.int .i64 0,.tup []] [some (.ro bx),some (.ro lx),sC (wdC n bx) 1] gtab)):=by kernel_rfl
theorem mv_b (m k:Nat) (y:Int) (N g:Nat) (a:Int) (i:Nat) (bx lx wc gc:List LV) (K:Pk):(xcode prog cxmg 60 101 (loopOf (nthC mvS 9)) (mkTm 101 (mvT1 m k y N g a i)) (mkS (mvH1 bx lx wc gc) gtab) (vK mvL K))=(
 bif xcm .lss ↑i ↑m then(
 bif xcm .lss (↑i) 8 then(
 ck (xle 6 N) <|
 ck (xle 6 (xln wc)) <|
 ck (isI .u64 (nthD wc 5)) <|
 bif xcm .lss a (xwr .i64 (asI (nthD wc 5))) then(
 ck (xle (xadd (xnat ↑i) 1) m) <|
 ck (xle (xadd (xix 0 (xnat ↑i) 1) 1) (xln bx)) <|
 ck (isI .u8 (nthD bx (xix 0 (xnat ↑i) 1))) <|
 bif xcm .eql (xar .and .u8 (asI (nthD bx (xix 0 (xnat ↑i) 1))) 48) 0 then(
 ck (xle (xadd g 1) 1000000) <|
 ck (xle (xadd 0 (xmul g 1)) (xln gc)) <|
 ck (xle (xadd (xnat ↑i) 1) m) <|
 ck (xle (xadd (xix 0 (xnat ↑i) 1) 1) (xln bx)) <|
 ck (isI .u8 (nthD bx (xix 0 (xnat ↑i) 1))) <|
 ck (xnn (xwr .u64 (xar .add .u8 (xar .rem .u8 (asI (nthD bx (xix 0 (xnat ↑i) 1))) 3) 1))) <|
 K .normal [.slo 0 0 m 0,.slo 1 0 k 0,.int .u8 y,.any,.slo 2 0 N 0,.nils,.slo 5 0 (xadd g 1) 0,.int .i64 (xar .add .i64 (xar .add .i64 a 1) (xsh .shl .i64 1 (xwr .u64 (xar .add .u8 (xar .rem .u8 (asI (nthD bx (xix 0 (xnat ↑i) 1))) 3) 1)))),.int .i64 (xar .add .i64 (↑i) 1),.any] [some (.ro bx),some (.ro lx),sC wc 1,sD,sN [.int .i64 (xar .add .i64 a 1)],sC (xcat (xcut gc 0 (xmul g 1)) [.int .i64 (xar .add .i64 a 1)]) 1] gtab)
 else(
 ck (xle (xadd (xnat ↑i) 1) m) <|
 ck (xle (xadd (xix 0 (xnat ↑i) 1) 1) (xln bx)) <|
 ck (isI .u8 (nthD bx (xix 0 (xnat ↑i) 1))) <|
 ck (xnn (xwr .u64 (xar .add .u8 (xar .rem .u8 (asI (nthD bx (xix 0 (xnat ↑i) 1))) 3) 1))) <|
 K .normal [.slo 0 0 m 0,.slo 1 0 k 0,.int .u8 y,.any,.slo 2 0 N 0,.nils,.slo 3 0 g 0,.int .i64 (xar .add .i64 (xar .add .i64 a 1) (xsh .shl .i64 1 (xwr .u64 (xar .add .u8 (xar .rem .u8 (asI (nthD bx (xix 0 (xnat ↑i) 1))) 3) 1)))),.int .i64 (xar .add .i64 (↑i) 1),.any] [some (.ro bx),some (.ro lx),sC wc 1,sC gc 1] gtab))
 else(
 K (.exit 0) [.slo 0 0 m 0,.slo 1 0 k 0,.int .u8 y,.any,.slo 2 0 N 0,.nils,.slo 3 0 g 0,.int .i64 a,.int .i64 ↑i,.any] [some (.ro bx),some (.ro lx),sC wc 1,sC gc 1] gtab))
 else(
 K (.exit 0) [.slo 0 0 m 0,.slo 1 0 k 0,.int .u8 y,.any,.slo 2 0 N 0,.nils,.slo 3 0 g 0,.int .i64 a,.int .i64 ↑i,.any] [some (.ro bx),some (.ro lx),sC wc 1,sC gc 1] gtab))
 else(
 K (.exit 0) [.slo 0 0 m 0,.slo 1 0 k 0,.int .u8 y,.any,.slo 2 0 N 0,.nils,.slo 3 0 g 0,.int .i64 a,.int .i64 ↑i,.any] [some (.ro bx),some (.ro lx),sC wc 1,sC gc 1] gtab)):=by kernel_rfl
theorem mv_c (m k:Nat) (y:Int) (N g:Nat) (a:Int) (i:Nat) (bx lx wc gc:List LV) (K:Pk):(xsp prog cxmg 60 101 (seg mvS 10 1) (mkTm 101 (mvT1 m k y N g a i)) (mkS (mvH1 bx lx wc gc) gtab) (vK mvL K))=(
 K .normal [.slo 0 0 m 0,.slo 1 0 k 0,.int .u8 y,.any,.slo 2 0 N 0,.nils,.slo 3 0 g 0,.int .i64 a,.int .i64 ↑i,.int .i64 0] [some (.ro bx),some (.ro lx),sC wc 1,sC gc 1] gtab):=by kernel_rfl
theorem mv_d (k:Nat) (y:Int) (N g b i:Nat) (bx lx wc gc bc:List LV) (K:Pk):(xcode prog cxmg 60 101 (loopOf (nthC mvS 11)) (mkTm 101 (mvT2 k y N g b i)) (mkS (mvH2 bx lx wc gc bc) gtab) (vK mvL K))=(
 bif xcm .lss ↑i ↑k then(
 ck (xle (xadd (xnat ↑i) 1) k) <|
 ck (xle (xadd (xix 0 (xnat ↑i) 1) 1) (xln lx)) <|
 ck (isI .u8 (nthD lx (xix 0 (xnat ↑i) 1))) <|
 ck (xle (xadd b 1) 1000000) <|
 ck (xle (xadd 0 (xmul b 1)) (xln bc)) <|
 K .normal [.any,.slo 1 0 k 0,.int .u8 y,.any,.slo 2 0 N 0,.slo 6 0 (xadd b 1) 0,.slo 3 0 g 0,.any,.any,.int .i64 (xar .add .i64 (↑i) 1)] [some (.ro bx),some (.ro lx),sC wc 1,sC gc 1,sD,sN [.int .i64 (xwr .i64 (asI (nthD lx (xix 0 (xnat ↑i) 1))))],sC (xcat (xcut bc 0 (xmul b 1)) [.int .i64 (xwr .i64 (asI (nthD lx (xix 0 (xnat ↑i) 1))))]) 1] gtab)
 else(
 K (.exit 2) [.any,.slo 1 0 k 0,.int .u8 y,.any,.slo 2 0 N 0,.slo 4 0 b 0,.slo 3 0 g 0,.any,.any,.int .i64 ↑i] [some (.ro bx),some (.ro lx),sC wc 1,sC gc 1,sC bc 1] gtab)):=by kernel_rfl
abbrev mv_z_b1 (y:Int) (N:Nat) (bx:List LV) (lx:List LV) (wc:List LV) (gc:List LV) (bc:List LV):List (Option LB):=[some (.ro bx),some (.ro lx),sC wc 1,sC gc 1,sC bc 1,sC (mgC wc bc N (xwr .i64 y)) 2,sC (mgW wc bc N (xwr .i64 y)) 1,sC (mgC wc bc N (xwr .i64 y)) 2,sC (mgW wc bc N (xwr .i64 y)) 1,sN [.int .i64 (mgK wc bc N (xwr .i64 y)),.int .i64 (mgE wc bc N (xwr .i64 y)),.str [],.slo 5 0 (mgM wc bc N (xwr .i64 y)) 0,.nils,.slo 6 0 (szQ N) 0],sN [.int .i64 (mgK wc bc N (xwr .i64 y)),.int .i64 (mgE wc bc N (xwr .i64 y)),.str [],.slo 7 0 (mgM wc bc N (xwr .i64 y)) 0,.nils,.slo 8 0 (szQ N) 0],sC (mgC wc gc N (xwr .i64 y)) 2,sC (mgW wc gc N (xwr .i64 y)) 1,sC (mgC wc gc N (xwr .i64 y)) 2,sC (mgW wc gc N (xwr .i64 y)) 1,sN [.int .i64 (mgK wc gc N (xwr .i64 y)),.int .i64 (mgE wc gc N (xwr .i64 y)),.str [],.slo 11 0 (mgM wc gc N (xwr .i64 y)) 0,.nils,.slo 12 0 (szQ N) 0],sN [.int .i64 (mgK wc gc N (xwr .i64 y)),.int .i64 (mgE wc gc N (xwr .i64 y)),.str [],.slo 13 0 (mgM wc gc N (xwr .i64 y)) 0,.nils,.slo 14 0 (szQ N) 0]]
abbrev mv_z_b2 (y:Int) (N:Nat) (bx:List LV) (lx:List LV) (wc:List LV) (gc:List LV) (bc:List LV):List (Option LB):=[some (.ro bx),some (.ro lx),sC wc 1,sC gc 1,sC bc 1,sC (mgC wc bc N (xwr .i64 y)) 2,sC (mgW wc bc N (xwr .i64 y)) 1,sC (mgC wc bc N (xwr .i64 y)) 2,sC (mgW wc bc N (xwr .i64 y)) 1,sN [.int .i64 (mgK wc bc N (xwr .i64 y)),.int .i64 (mgE wc bc N (xwr .i64 y)),.str [],.slo 5 0 (mgM wc bc N (xwr .i64 y)) 0,.nils,.slo 6 0 (szQ N) 0],sN [.int .i64 (mgK wc bc N (xwr .i64 y)),.int .i64 (mgE wc bc N (xwr .i64 y)),.str [],.slo 7 0 (mgM wc bc N (xwr .i64 y)) 0,.nils,.slo 8 0 (szQ N) 0]]
theorem mv_z (k:Nat) (y:Int) (N g b i:Nat) (bx lx wc gc bc:List LV) (K:Pk):(xsp prog cxmg 60 101 (mvS.drop 12) (mkTm 101 (mvT2 k y N g b i)) (mkS (mvH2 bx lx wc gc bc) gtab) (vK mvL K))=(
 ck (okUm wc N) <|
 ck (okIi64 bc b) <|
 ck (okUm wc N) <|
 ck (okIi64 bc b) <|
 bif xcm .eql (mgK wc bc N (xwr .i64 y)) (mgK wc bc N (xwr .i64 y)) then(
 bif xcm .eql (mgE wc bc N (xwr .i64 y)) (mgE wc bc N (xwr .i64 y)) then(
 ck (okC (mgC wc bc N (xwr .i64 y)) (mgM wc bc N (xwr .i64 y))) <|
 ck (okC (mgC wc bc N (xwr .i64 y)) (mgM wc bc N (xwr .i64 y))) <|
 bif sameCCell (mgM wc bc N (xwr .i64 y)) (mgM wc bc N (xwr .i64 y)) (mgC wc bc N (xwr .i64 y)) (mgC wc bc N (xwr .i64 y)) then(
 ck (okIu64 (mgW wc bc N (xwr .i64 y)) (szQ N)) <|
 ck (okIu64 (mgW wc bc N (xwr .i64 y)) (szQ N)) <|
 bif sameIu64 (szQ N) (szQ N) (mgW wc bc N (xwr .i64 y)) (mgW wc bc N (xwr .i64 y)) then(
 ck (okUm wc N) <|
 ck (okIi64 gc g) <|
 ck (okUm wc N) <|
 ck (okIi64 gc g) <|
 bif xcm .eql (mgK wc gc N (xwr .i64 y)) (mgK wc gc N (xwr .i64 y)) then(
 bif xcm .eql (mgE wc gc N (xwr .i64 y)) (mgE wc gc N (xwr .i64 y)) then(
 ck (okC (mgC wc gc N (xwr .i64 y)) (mgM wc gc N (xwr .i64 y))) <|
 ck (okC (mgC wc gc N (xwr .i64 y)) (mgM wc gc N (xwr .i64 y))) <|
 bif sameCCell (mgM wc gc N (xwr .i64 y)) (mgM wc gc N (xwr .i64 y)) (mgC wc gc N (xwr .i64 y)) (mgC wc gc N (xwr .i64 y)) then(
 ck (okIu64 (mgW wc gc N (xwr .i64 y)) (szQ N)) <|
 ck (okIu64 (mgW wc gc N (xwr .i64 y)) (szQ N)) <|
 K .ret [.any,.slo 1 0 k 0,.int .u8 y,.bool (sameIu64 (szQ N) (szQ N) (mgW wc gc N (xwr .i64 y)) (mgW wc gc N (xwr .i64 y))),.slo 2 0 N 0,.slo 4 0 b 0,.slo 3 0 g 0,.any,.any,.int .i64 ↑i] (mv_z_b1 y N bx lx wc gc bc) gtab)
 else(
 K .ret [.any,.slo 1 0 k 0,.int .u8 y,.bool false,.slo 2 0 N 0,.slo 4 0 b 0,.slo 3 0 g 0,.any,.any,.int .i64 ↑i] (mv_z_b1 y N bx lx wc gc bc) gtab))
 else(
 K .ret [.any,.slo 1 0 k 0,.int .u8 y,.bool false,.slo 2 0 N 0,.slo 4 0 b 0,.slo 3 0 g 0,.any,.any,.int .i64 ↑i] (mv_z_b1 y N bx lx wc gc bc) gtab))
 else(
 K .ret [.any,.slo 1 0 k 0,.int .u8 y,.bool false,.slo 2 0 N 0,.slo 4 0 b 0,.slo 3 0 g 0,.any,.any,.int .i64 ↑i] (mv_z_b1 y N bx lx wc gc bc) gtab))
 else(
 K .ret [.any,.slo 1 0 k 0,.int .u8 y,.bool false,.slo 2 0 N 0,.slo 4 0 b 0,.slo 3 0 g 0,.any,.any,.int .i64 ↑i] (mv_z_b2 y N bx lx wc gc bc) gtab))
 else(
 K .ret [.any,.slo 1 0 k 0,.int .u8 y,.bool false,.slo 2 0 N 0,.slo 4 0 b 0,.slo 3 0 g 0,.any,.any,.int .i64 ↑i] (mv_z_b2 y N bx lx wc gc bc) gtab))
 else(
 K .ret [.any,.slo 1 0 k 0,.int .u8 y,.bool false,.slo 2 0 N 0,.slo 4 0 b 0,.slo 3 0 g 0,.any,.any,.int .i64 ↑i] (mv_z_b2 y N bx lx wc gc bc) gtab))
 else(
 K .ret [.any,.slo 1 0 k 0,.int .u8 y,.bool false,.slo 2 0 N 0,.slo 4 0 b 0,.slo 3 0 g 0,.any,.any,.int .i64 ↑i] (mv_z_b2 y N bx lx wc gc bc) gtab)):=by kernel_rfl
end
end Go.Lev
