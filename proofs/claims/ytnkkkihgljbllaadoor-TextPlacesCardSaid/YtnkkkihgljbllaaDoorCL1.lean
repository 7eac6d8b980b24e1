/- TextPlaces: the law's trees -/
import Derived.Test.YtnkkkihgljbllaaDoorCT7
import Derived.Test.YtnkkkihgljbllaaDoorCY5
import Derived.Test.YtnkkkihgljbllaaDoorCPD
import Derived.Test.YtnkkkihgljbllaaDoorLc
import Derived.Test.YtnkkkihgljbllaaDoorChecked
import Derived.KernelRfl
namespace Go.Lev
set_option linter.unusedSimpArgs false
set_option linter.unusedVariables false
open Go.RowKit
open Go.Proofs.Tryd (prog)
set_option maxRecDepth 100000
noncomputable section
def trG:Gc:=fun args s=>match args,s.g with
 | [],[(g0,F0),(g1,F1),(g2,F2),(g3,[.fact F])]=>cond (Nat.beq g0 0 && eqbs F0 formsL && (Nat.beq g1 2 && eqbs F1 callsL) && (Nat.beq g2 2 && eqbs F2 callsL) && Nat.beq g3 1000) (match s.lay [] [] [] with
   | some s'=>some ([isFt F],.bool true,s')
   | none=>none) none
 | _,_=>none
theorem trG_ok:GOk prog 8 trG:=by
 intro args s bs l s' hg hb hfr
 unfold trG at hg
 split at hg
 ·rename_i  g0 F0 g1 F1 g2 F2 g3 F hgl
  cases hc:(Nat.beq g0 0 && eqbs F0 formsL && (Nat.beq g1 2 && eqbs F1 callsL) && (Nat.beq g2 2 && eqbs F2 callsL) && Nat.beq g3 1000) with
  | false=>rw [hc] at hg; cases hg
  | true =>
    rw [hc] at hg
    simp only [cond_true] at hg
    simp only [Bool.and_eq_true] at hc
    replace hgl:s.g=gtF F:=by rw [hgl,Nat.eq_of_beq_eq_true hc.1.1.1.1,eqbs_eq hc.1.1.1.2,Nat.eq_of_beq_eq_true hc.1.1.2.1,eqbs_eq hc.1.1.2.2,Nat.eq_of_beq_eq_true hc.1.2.1,eqbs_eq hc.1.2.2,Nat.eq_of_beq_eq_true hc.2]
    split at hg
    ·rename_i s1 hs1
     simp only [Option.some.injEq,Prod.mk.injEq] at hg
     obtain⟨rfl,rfl,rfl⟩:=hg
     simp only [allT_cons] at hb
     obtain⟨k1,_⟩:=hb
     have eF:=isFt_eq k1
     subst eF
     refine SFun.lay (bs:=[]) (args0:=[]) (bs':=[]) (v0:=.bool true) hfr hs1 (by simp)
      trivial (by(exact zTl)) ?_
      fun κ h1 h2=>⟨trivial,lw_bool⟩
     rw [hgl]; exact runs4
    ·cases hg
 ·cases hg
def cxPL:Cx:=cxl [(8,trG),(12,poG),(11,wrapG progG),(14,pbG),(16,nameG)]
abbrev plL:List Nat:=[2,3,8,9,10,11,12,13]
abbrev plT (nk:Nat) (how n m:Int) (s:List UInt8) (i:Int):List (Nat×LV):=[(2,.slo 0 0 nk 0),(3,.int .u8 how),(8,.bool false),(9,.str s),(10,.int .i64 n),(11,.int .i64 m),(12,.int .i64 i)]
abbrev plU (nk:Nat) (how n m:Int) (s:List UInt8) (i:Int):List (Nat×LV):=[(2,.slo 0 0 nk 0),(3,.int .u8 how),(8,.bool false),(9,.str s),(10,.int .i64 n),(11,.int .i64 m),(13,.int .i64 i)]
theorem pl_a (lines blanks how:Int) (nk:Nat) (ks:List LV) (K:Pk):(xsp prog cxPL 60 97 (seg (sp prog 7) 0 6) (tm0 [.int .u8 lines,.int .u8 blanks,.slo 0 0 nk 0,.int .u8 how]) (mkS [.ro ks] gt4) (vK plL K))=(
 ck (isFt powF) <|
 K .normal [.slo 0 0 nk 0,.int .u8 how,.bool false,.str [],.int .i64 (xwr .i64 (xar .rem .u8 lines 20)),.int .i64 (xwr .i64 (xar .rem .u8 blanks 30)),.int .i64 0,.tup []] [some (.ro ks)] gt4):=by kernel_rfl
theorem pl_1 (nk:Nat) (how n m:Int) (s:List UInt8) (i:Int) (ks:List LV) (K:Pk):(xcode prog cxPL 60 97 (loopOf (nthC (sp prog 7) 6)) (mkTm 97 (plT nk how n m s i)) (mkS [.ro ks] gt4) (vK plL K))=(
 bif xcm .lss i n then(
 ck (xle (xadd (xsln s) 5) 1000000000) <|
 K .normal [.slo 0 0 nk 0,.int .u8 how,.bool false,.str (xscat s [59,32,195,169,10]),.int .i64 n,.int .i64 m,.int .i64 (xar .add .i64 i 1),.any] [some (.ro ks)] gt4)
 else(
 K (.exit 0) [.slo 0 0 nk 0,.int .u8 how,.bool false,.str s,.int .i64 n,.int .i64 m,.int .i64 i,.any] [some (.ro ks)] gt4)):=by kernel_rfl
theorem pl_b (nk:Nat) (how n m:Int) (s:List UInt8) (i:Int) (ks:List LV) (K:Pk):(xsp prog cxPL 60 97 (seg (sp prog 7) 7 1) (mkTm 97 (plT nk how n m s i)) (mkS [.ro ks] gt4) (vK plL K))=(
 K .normal [.slo 0 0 nk 0,.int .u8 how,.bool false,.str s,.int .i64 n,.int .i64 m,.int .i64 i,.int .i64 0] [some (.ro ks)] gt4):=by kernel_rfl
theorem pl_2 (nk:Nat) (how n m:Int) (s:List UInt8) (i:Int) (ks:List LV) (K:Pk):(xcode prog cxPL 60 97 (loopOf (nthC (sp prog 7) 8)) (mkTm 97 (plU nk how n m s i)) (mkS [.ro ks] gt4) (vK plL K))=(
 bif xcm .lss i m then(
 ck (xle (xadd (xsln s) 1) 1000000000) <|
 K .normal [.slo 0 0 nk 0,.int .u8 how,.bool false,.str (xscat s [32]),.int .i64 n,.int .i64 m,.any,.int .i64 (xar .add .i64 i 1)] [some (.ro ks)] gt4)
 else(
 K (.exit 2) [.slo 0 0 nk 0,.int .u8 how,.bool false,.str s,.int .i64 n,.int .i64 m,.any,.int .i64 i] [some (.ro ks)] gt4)):=by kernel_rfl
theorem pl_z (nk:Nat) (how n m:Int) (s:List UInt8) (i:Int) (ks:List LV) (K:Pk):(xsp prog cxPL 60 97 ((sp prog 7).drop 9) (mkTm 97 (plU nk how n m s i)) (mkS [.ro ks] gt4) (vK plL K))=(
 bif xcm .eql (xar .rem .u8 how 5) 0 then(
 ck (xle (xadd (xsln s) 9) 1000000000) <|
 ck (xle (xadd (xsln (xscat s [115,195,169,116,32,114,49,32,53])) 1) 1000000000) <|
 bif xcm .lss (xar .rem .u8 how 5) 4 then(
 ck (okKin nk ks 40) <|
 ck (isFt powF) <|
 ck (okI5 (gN ks 40 false) (gW ks 40 false)) <|
 ck (xle (xadd (xsln (xscat (xscat s [115,195,169,116,32,114,49,32,53]) [10])) (xsln (ptxW (gW ks 40 false)))) 1000000000) <|
 ck (okT (xscat (xscat (xscat s [115,195,169,116,32,114,49,32,53]) [10]) (ptxW (gW ks 40 false)))) <|
 ck (pzB (xscat (xscat (xscat s [115,195,169,116,32,114,49,32,53]) [10]) (ptxW (gW ks 40 false)))) <|
 bif xcm .eql (pZe (xscat (xscat (xscat s [115,195,169,116,32,114,49,32,53]) [10]) (ptxW (gW ks 40 false)))) 12 then(
 bif xcm .eql (pZl (xscat (xscat (xscat s [115,195,169,116,32,114,49,32,53]) [10]) (ptxW (gW ks 40 false)))) (xar .add .i64 n 1) then(
 bif xcm .eql (pZc (xscat (xscat (xscat s [115,195,169,116,32,114,49,32,53]) [10]) (ptxW (gW ks 40 false)))) (xar .add .i64 m 1) then(
 K .ret [.slo 0 0 nk 0,.int .u8 how,.bool true,.str s,.int .i64 n,.int .i64 m,.any,.int .i64 i] [some (.ro ks),sC (gW ks 40 false) 5,sN [.nils]] gt4)
 else(
 K .ret [.slo 0 0 nk 0,.int .u8 how,.bool false,.str s,.int .i64 n,.int .i64 m,.any,.int .i64 i] [some (.ro ks),sC (gW ks 40 false) 5,sN [.nils]] gt4))
 else(
 K .ret [.slo 0 0 nk 0,.int .u8 how,.bool false,.str s,.int .i64 n,.int .i64 m,.any,.int .i64 i] [some (.ro ks),sC (gW ks 40 false) 5,sN [.nils]] gt4))
 else(
 K .ret [.slo 0 0 nk 0,.int .u8 how,.bool false,.str s,.int .i64 n,.int .i64 m,.any,.int .i64 i] [some (.ro ks),sC (gW ks 40 false) 5,sN [.nils]] gt4))
 else(
 ck (okT (xscat (xscat s [115,195,169,116,32,114,49,32,53]) [10])) <|
 ck (pzB (xscat (xscat s [115,195,169,116,32,114,49,32,53]) [10])) <|
 bif xcm .eql (pZe (xscat (xscat s [115,195,169,116,32,114,49,32,53]) [10])) 12 then(
 bif xcm .eql (pZl (xscat (xscat s [115,195,169,116,32,114,49,32,53]) [10])) (xar .add .i64 n 1) then(
 bif xcm .eql (pZc (xscat (xscat s [115,195,169,116,32,114,49,32,53]) [10])) (xar .add .i64 m 1) then(
 K .ret [.slo 0 0 nk 0,.int .u8 how,.bool true,.str s,.int .i64 n,.int .i64 m,.any,.int .i64 i] [some (.ro ks),sN [.nils]] gt4)
 else(
 K .ret [.slo 0 0 nk 0,.int .u8 how,.bool false,.str s,.int .i64 n,.int .i64 m,.any,.int .i64 i] [some (.ro ks),sN [.nils]] gt4))
 else(
 K .ret [.slo 0 0 nk 0,.int .u8 how,.bool false,.str s,.int .i64 n,.int .i64 m,.any,.int .i64 i] [some (.ro ks),sN [.nils]] gt4))
 else(
 K .ret [.slo 0 0 nk 0,.int .u8 how,.bool false,.str s,.int .i64 n,.int .i64 m,.any,.int .i64 i] [some (.ro ks),sN [.nils]] gt4)))
 else(
 bif xcm .eql (xar .rem .u8 how 5) 1 then(
 ck (xle (xadd (xsln s) 14) 1000000000) <|
 ck (xle (xadd (xsln (xscat s [195,169,195,169,58,32,115,101,116,32,114,56,32,53])) 1) 1000000000) <|
 bif xcm .lss (xar .rem .u8 how 5) 4 then(
 ck (okKin nk ks 40) <|
 ck (isFt powF) <|
 ck (okI5 (gN ks 40 false) (gW ks 40 false)) <|
 ck (xle (xadd (xsln (xscat (xscat s [195,169,195,169,58,32,115,101,116,32,114,56,32,53]) [10])) (xsln (ptxW (gW ks 40 false)))) 1000000000) <|
 ck (okT (xscat (xscat (xscat s [195,169,195,169,58,32,115,101,116,32,114,56,32,53]) [10]) (ptxW (gW ks 40 false)))) <|
 ck (pzB (xscat (xscat (xscat s [195,169,195,169,58,32,115,101,116,32,114,56,32,53]) [10]) (ptxW (gW ks 40 false)))) <|
 bif xcm .eql (pZe (xscat (xscat (xscat s [195,169,195,169,58,32,115,101,116,32,114,56,32,53]) [10]) (ptxW (gW ks 40 false)))) 12 then(
 bif xcm .eql (pZl (xscat (xscat (xscat s [195,169,195,169,58,32,115,101,116,32,114,56,32,53]) [10]) (ptxW (gW ks 40 false)))) (xar .add .i64 n 1) then(
 bif xcm .eql (pZc (xscat (xscat (xscat s [195,169,195,169,58,32,115,101,116,32,114,56,32,53]) [10]) (ptxW (gW ks 40 false)))) (xar .add .i64 m 9) then(
 K .ret [.slo 0 0 nk 0,.int .u8 how,.bool true,.str s,.int .i64 n,.int .i64 m,.any,.int .i64 i] [some (.ro ks),sC (gW ks 40 false) 5,sN [.nils]] gt4)
 else(
 K .ret [.slo 0 0 nk 0,.int .u8 how,.bool false,.str s,.int .i64 n,.int .i64 m,.any,.int .i64 i] [some (.ro ks),sC (gW ks 40 false) 5,sN [.nils]] gt4))
 else(
 K .ret [.slo 0 0 nk 0,.int .u8 how,.bool false,.str s,.int .i64 n,.int .i64 m,.any,.int .i64 i] [some (.ro ks),sC (gW ks 40 false) 5,sN [.nils]] gt4))
 else(
 K .ret [.slo 0 0 nk 0,.int .u8 how,.bool false,.str s,.int .i64 n,.int .i64 m,.any,.int .i64 i] [some (.ro ks),sC (gW ks 40 false) 5,sN [.nils]] gt4))
 else(
 ck (okT (xscat (xscat s [195,169,195,169,58,32,115,101,116,32,114,56,32,53]) [10])) <|
 ck (pzB (xscat (xscat s [195,169,195,169,58,32,115,101,116,32,114,56,32,53]) [10])) <|
 bif xcm .eql (pZe (xscat (xscat s [195,169,195,169,58,32,115,101,116,32,114,56,32,53]) [10])) 12 then(
 bif xcm .eql (pZl (xscat (xscat s [195,169,195,169,58,32,115,101,116,32,114,56,32,53]) [10])) (xar .add .i64 n 1) then(
 bif xcm .eql (pZc (xscat (xscat s [195,169,195,169,58,32,115,101,116,32,114,56,32,53]) [10])) (xar .add .i64 m 9) then(
 K .ret [.slo 0 0 nk 0,.int .u8 how,.bool true,.str s,.int .i64 n,.int .i64 m,.any,.int .i64 i] [some (.ro ks),sN [.nils]] gt4)
 else(
 K .ret [.slo 0 0 nk 0,.int .u8 how,.bool false,.str s,.int .i64 n,.int .i64 m,.any,.int .i64 i] [some (.ro ks),sN [.nils]] gt4))
 else(
 K .ret [.slo 0 0 nk 0,.int .u8 how,.bool false,.str s,.int .i64 n,.int .i64 m,.any,.int .i64 i] [some (.ro ks),sN [.nils]] gt4))
 else(
 K .ret [.slo 0 0 nk 0,.int .u8 how,.bool false,.str s,.int .i64 n,.int .i64 m,.any,.int .i64 i] [some (.ro ks),sN [.nils]] gt4)))
 else(
 bif xcm .eql (xar .rem .u8 how 5) 2 then(
 ck (xle (xadd (xsln s) 10) 1000000000) <|
 ck (xle (xadd (xsln (xscat s [115,101,116,32,114,49,32,53,32,54])) 1) 1000000000) <|
 bif xcm .lss (xar .rem .u8 how 5) 4 then(
 ck (okKin nk ks 40) <|
 ck (isFt powF) <|
 ck (okI5 (gN ks 40 false) (gW ks 40 false)) <|
 ck (xle (xadd (xsln (xscat (xscat s [115,101,116,32,114,49,32,53,32,54]) [10])) (xsln (ptxW (gW ks 40 false)))) 1000000000) <|
 ck (okT (xscat (xscat (xscat s [115,101,116,32,114,49,32,53,32,54]) [10]) (ptxW (gW ks 40 false)))) <|
 ck (pzB (xscat (xscat (xscat s [115,101,116,32,114,49,32,53,32,54]) [10]) (ptxW (gW ks 40 false)))) <|
 bif xcm .eql (pZe (xscat (xscat (xscat s [115,101,116,32,114,49,32,53,32,54]) [10]) (ptxW (gW ks 40 false)))) 12 then(
 bif xcm .eql (pZl (xscat (xscat (xscat s [115,101,116,32,114,49,32,53,32,54]) [10]) (ptxW (gW ks 40 false)))) (xar .add .i64 n 1) then(
 bif xcm .eql (pZc (xscat (xscat (xscat s [115,101,116,32,114,49,32,53,32,54]) [10]) (ptxW (gW ks 40 false)))) (xar .add .i64 m 10) then(
 K .ret [.slo 0 0 nk 0,.int .u8 how,.bool true,.str s,.int .i64 n,.int .i64 m,.any,.int .i64 i] [some (.ro ks),sC (gW ks 40 false) 5,sN [.nils]] gt4)
 else(
 K .ret [.slo 0 0 nk 0,.int .u8 how,.bool false,.str s,.int .i64 n,.int .i64 m,.any,.int .i64 i] [some (.ro ks),sC (gW ks 40 false) 5,sN [.nils]] gt4))
 else(
 K .ret [.slo 0 0 nk 0,.int .u8 how,.bool false,.str s,.int .i64 n,.int .i64 m,.any,.int .i64 i] [some (.ro ks),sC (gW ks 40 false) 5,sN [.nils]] gt4))
 else(
 K .ret [.slo 0 0 nk 0,.int .u8 how,.bool false,.str s,.int .i64 n,.int .i64 m,.any,.int .i64 i] [some (.ro ks),sC (gW ks 40 false) 5,sN [.nils]] gt4))
 else(
 ck (okT (xscat (xscat s [115,101,116,32,114,49,32,53,32,54]) [10])) <|
 ck (pzB (xscat (xscat s [115,101,116,32,114,49,32,53,32,54]) [10])) <|
 bif xcm .eql (pZe (xscat (xscat s [115,101,116,32,114,49,32,53,32,54]) [10])) 12 then(
 bif xcm .eql (pZl (xscat (xscat s [115,101,116,32,114,49,32,53,32,54]) [10])) (xar .add .i64 n 1) then(
 bif xcm .eql (pZc (xscat (xscat s [115,101,116,32,114,49,32,53,32,54]) [10])) (xar .add .i64 m 10) then(
 K .ret [.slo 0 0 nk 0,.int .u8 how,.bool true,.str s,.int .i64 n,.int .i64 m,.any,.int .i64 i] [some (.ro ks),sN [.nils]] gt4)
 else(
 K .ret [.slo 0 0 nk 0,.int .u8 how,.bool false,.str s,.int .i64 n,.int .i64 m,.any,.int .i64 i] [some (.ro ks),sN [.nils]] gt4))
 else(
 K .ret [.slo 0 0 nk 0,.int .u8 how,.bool false,.str s,.int .i64 n,.int .i64 m,.any,.int .i64 i] [some (.ro ks),sN [.nils]] gt4))
 else(
 K .ret [.slo 0 0 nk 0,.int .u8 how,.bool false,.str s,.int .i64 n,.int .i64 m,.any,.int .i64 i] [some (.ro ks),sN [.nils]] gt4)))
 else(
 bif xcm .eql (xar .rem .u8 how 5) 3 then(
 ck (xle (xadd (xsln s) 9) 1000000000) <|
 ck (xle (xadd (xsln (xscat s [115,101,116,32,114,49,32,59,53])) 1) 1000000000) <|
 bif xcm .lss (xar .rem .u8 how 5) 4 then(
 ck (okKin nk ks 40) <|
 ck (isFt powF) <|
 ck (okI5 (gN ks 40 false) (gW ks 40 false)) <|
 ck (xle (xadd (xsln (xscat (xscat s [115,101,116,32,114,49,32,59,53]) [10])) (xsln (ptxW (gW ks 40 false)))) 1000000000) <|
 ck (okT (xscat (xscat (xscat s [115,101,116,32,114,49,32,59,53]) [10]) (ptxW (gW ks 40 false)))) <|
 ck (pzB (xscat (xscat (xscat s [115,101,116,32,114,49,32,59,53]) [10]) (ptxW (gW ks 40 false)))) <|
 bif xcm .eql (pZe (xscat (xscat (xscat s [115,101,116,32,114,49,32,59,53]) [10]) (ptxW (gW ks 40 false)))) 12 then(
 bif xcm .eql (pZl (xscat (xscat (xscat s [115,101,116,32,114,49,32,59,53]) [10]) (ptxW (gW ks 40 false)))) (xar .add .i64 n 1) then(
 bif xcm .eql (pZc (xscat (xscat (xscat s [115,101,116,32,114,49,32,59,53]) [10]) (ptxW (gW ks 40 false)))) (xar .add .i64 m 8) then(
 K .ret [.slo 0 0 nk 0,.int .u8 how,.bool true,.str s,.int .i64 n,.int .i64 m,.any,.int .i64 i] [some (.ro ks),sC (gW ks 40 false) 5,sN [.nils]] gt4)
 else(
 K .ret [.slo 0 0 nk 0,.int .u8 how,.bool false,.str s,.int .i64 n,.int .i64 m,.any,.int .i64 i] [some (.ro ks),sC (gW ks 40 false) 5,sN [.nils]] gt4))
 else(
 K .ret [.slo 0 0 nk 0,.int .u8 how,.bool false,.str s,.int .i64 n,.int .i64 m,.any,.int .i64 i] [some (.ro ks),sC (gW ks 40 false) 5,sN [.nils]] gt4))
 else(
 K .ret [.slo 0 0 nk 0,.int .u8 how,.bool false,.str s,.int .i64 n,.int .i64 m,.any,.int .i64 i] [some (.ro ks),sC (gW ks 40 false) 5,sN [.nils]] gt4))
 else(
 ck (okT (xscat (xscat s [115,101,116,32,114,49,32,59,53]) [10])) <|
 ck (pzB (xscat (xscat s [115,101,116,32,114,49,32,59,53]) [10])) <|
 bif xcm .eql (pZe (xscat (xscat s [115,101,116,32,114,49,32,59,53]) [10])) 12 then(
 bif xcm .eql (pZl (xscat (xscat s [115,101,116,32,114,49,32,59,53]) [10])) (xar .add .i64 n 1) then(
 bif xcm .eql (pZc (xscat (xscat s [115,101,116,32,114,49,32,59,53]) [10])) (xar .add .i64 m 8) then(
 K .ret [.slo 0 0 nk 0,.int .u8 how,.bool true,.str s,.int .i64 n,.int .i64 m,.any,.int .i64 i] [some (.ro ks),sN [.nils]] gt4)
 else(
 K .ret [.slo 0 0 nk 0,.int .u8 how,.bool false,.str s,.int .i64 n,.int .i64 m,.any,.int .i64 i] [some (.ro ks),sN [.nils]] gt4))
 else(
 K .ret [.slo 0 0 nk 0,.int .u8 how,.bool false,.str s,.int .i64 n,.int .i64 m,.any,.int .i64 i] [some (.ro ks),sN [.nils]] gt4))
 else(
 K .ret [.slo 0 0 nk 0,.int .u8 how,.bool false,.str s,.int .i64 n,.int .i64 m,.any,.int .i64 i] [some (.ro ks),sN [.nils]] gt4)))
 else(
 ck (xle (xadd (xsln s) 15) 1000000000) <|
 ck (xle (xadd (xsln (xscat s [195,169,58,32,106,117,109,112,32,110,111,98,111,100,121])) 1) 1000000000) <|
 bif xcm .lss (xar .rem .u8 how 5) 4 then(
 ck (okKin nk ks 40) <|
 ck (isFt powF) <|
 ck (okI5 (gN ks 40 false) (gW ks 40 false)) <|
 ck (xle (xadd (xsln (xscat (xscat s [195,169,58,32,106,117,109,112,32,110,111,98,111,100,121]) [10])) (xsln (ptxW (gW ks 40 false)))) 1000000000) <|
 ck (okT (xscat (xscat (xscat s [195,169,58,32,106,117,109,112,32,110,111,98,111,100,121]) [10]) (ptxW (gW ks 40 false)))) <|
 ck (pzB (xscat (xscat (xscat s [195,169,58,32,106,117,109,112,32,110,111,98,111,100,121]) [10]) (ptxW (gW ks 40 false)))) <|
 bif xcm .eql (pZe (xscat (xscat (xscat s [195,169,58,32,106,117,109,112,32,110,111,98,111,100,121]) [10]) (ptxW (gW ks 40 false)))) 12 then(
 bif xcm .eql (pZl (xscat (xscat (xscat s [195,169,58,32,106,117,109,112,32,110,111,98,111,100,121]) [10]) (ptxW (gW ks 40 false)))) (xar .add .i64 n 1) then(
 bif xcm .eql (pZc (xscat (xscat (xscat s [195,169,58,32,106,117,109,112,32,110,111,98,111,100,121]) [10]) (ptxW (gW ks 40 false)))) (xar .add .i64 m 9) then(
 K .ret [.slo 0 0 nk 0,.int .u8 how,.bool true,.str s,.int .i64 n,.int .i64 m,.any,.int .i64 i] [some (.ro ks),sC (gW ks 40 false) 5,sN [.nils]] gt4)
 else(
 K .ret [.slo 0 0 nk 0,.int .u8 how,.bool false,.str s,.int .i64 n,.int .i64 m,.any,.int .i64 i] [some (.ro ks),sC (gW ks 40 false) 5,sN [.nils]] gt4))
 else(
 K .ret [.slo 0 0 nk 0,.int .u8 how,.bool false,.str s,.int .i64 n,.int .i64 m,.any,.int .i64 i] [some (.ro ks),sC (gW ks 40 false) 5,sN [.nils]] gt4))
 else(
 K .ret [.slo 0 0 nk 0,.int .u8 how,.bool false,.str s,.int .i64 n,.int .i64 m,.any,.int .i64 i] [some (.ro ks),sC (gW ks 40 false) 5,sN [.nils]] gt4))
 else(
 ck (okT (xscat (xscat s [195,169,58,32,106,117,109,112,32,110,111,98,111,100,121]) [10])) <|
 ck (pzB (xscat (xscat s [195,169,58,32,106,117,109,112,32,110,111,98,111,100,121]) [10])) <|
 bif xcm .eql (pZe (xscat (xscat s [195,169,58,32,106,117,109,112,32,110,111,98,111,100,121]) [10])) 12 then(
 bif xcm .eql (pZl (xscat (xscat s [195,169,58,32,106,117,109,112,32,110,111,98,111,100,121]) [10])) (xar .add .i64 n 1) then(
 bif xcm .eql (pZc (xscat (xscat s [195,169,58,32,106,117,109,112,32,110,111,98,111,100,121]) [10])) (xar .add .i64 m 9) then(
 K .ret [.slo 0 0 nk 0,.int .u8 how,.bool true,.str s,.int .i64 n,.int .i64 m,.any,.int .i64 i] [some (.ro ks),sN [.nils]] gt4)
 else(
 K .ret [.slo 0 0 nk 0,.int .u8 how,.bool false,.str s,.int .i64 n,.int .i64 m,.any,.int .i64 i] [some (.ro ks),sN [.nils]] gt4))
 else(
 K .ret [.slo 0 0 nk 0,.int .u8 how,.bool false,.str s,.int .i64 n,.int .i64 m,.any,.int .i64 i] [some (.ro ks),sN [.nils]] gt4))
 else(
 K .ret [.slo 0 0 nk 0,.int .u8 how,.bool false,.str s,.int .i64 n,.int .i64 m,.any,.int .i64 i] [some (.ro ks),sN [.nils]] gt4))))))):=by kernel_rfl
end
end Go.Lev
