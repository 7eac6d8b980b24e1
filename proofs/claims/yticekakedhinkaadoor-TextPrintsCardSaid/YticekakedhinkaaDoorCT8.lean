/- text: the law's trees -/
import Derived.Test.YticekakedhinkaaDoorCT7
import Derived.Test.YticekakedhinkaaDoorLc
import Derived.Test.YticekakedhinkaaDoorChecked
import Derived.KernelRfl
namespace Go.Lev
set_option linter.unusedSimpArgs false
set_option linter.unusedVariables false
open Go.RowKit
open Go.Proofs.Tryd (prog)
set_option maxRecDepth 100000
noncomputable section
def rnG:Gc:=fun args s=>match args,s.g with
 | [],[(g0,F0),(g1,F1),(g2,F2),(g3,[.fact F])]=>cond (Nat.beq g0 0 && eqbs F0 formsL && (Nat.beq g1 2 && eqbs F1 callsL) && (Nat.beq g2 1 && eqbs F2 namesL) && Nat.beq g3 1000) (match s.lay [] [] [] with
   | some s'=>some ([isFt F],.bool true,s')
   | none=>none) none
 | _,_=>none
theorem rnG_ok:GOk prog 3 rnG:=by
 intro args s bs l s' hg hb hfr
 unfold rnG at hg
 split at hg
 ·rename_i  g0 F0 g1 F1 g2 F2 g3 F hgl
  cases hc:(Nat.beq g0 0 && eqbs F0 formsL && (Nat.beq g1 2 && eqbs F1 callsL) && (Nat.beq g2 1 && eqbs F2 namesL) && Nat.beq g3 1000) with
  | false=>rw [hc] at hg; cases hg
  | true =>
    rw [hc] at hg
    simp only [cond_true] at hg
    simp only [Bool.and_eq_true] at hc
    replace hgl:s.g=gtF F:=by rw [hgl,Nat.eq_of_beq_eq_true hc.1.1.1.1,eqbs_eq hc.1.1.1.2,Nat.eq_of_beq_eq_true hc.1.1.2.1,eqbs_eq hc.1.1.2.2,Nat.eq_of_beq_eq_true hc.1.2.1,eqbs_eq hc.1.2.2,Nat.eq_of_beq_eq_true hc.2]
    split at hg
    ·rename_i s1 hs1
     simp only [Option.some.injEq,Prod.mk.injEq] at hg
     obtain⟨rfl,rfl,rfl⟩:=hg
     simp only [allT_cons] at hb
     obtain⟨k1,_⟩:=hb
     have eF:=isFt_eq k1
     subst eF
     refine SFun.lay (bs:=[]) (args0:=[]) (bs':=[]) (v0:=.bool true) hfr hs1 (by simp)
      trivial (by(exact zTl)) ?_
      fun κ h1 h2=>⟨trivial,lw_bool⟩
     rw [hgl]; exact runs4
    ·cases hg
 ·cases hg
def cxTP:Cx:=cxl [(3,rnG),(6,orX ptG poG),(7,orX qtG qoG)]
abbrev tpL:List Nat:=[0,1,4,5,6,7]
abbrev tpT (n k:Nat) (i:Nat):List (Nat×LV):=[(0,.slo 0 0 n 0),(1,.slo 1 0 k 0),(4,.bool false),(5,.slo 2 0 i 0),(6,.int .i64 i)]
abbrev tpH (cs ks ms:List LV):List LB:=[.ro cs,.ro ks,.cells ms (some 5)]
theorem tp_a (n k:Nat) (cs ks:List LV) (K:Pk):(xsp prog cxTP 40 57 (seg (sp prog 4) 0 7) (tm0 [.slo 0 0 n 0,.slo 1 0 k 0]) (mkS [.ro cs,.ro ks] gt4) (vK tpL K))=(
 ck (isFt powF) <|
 bif xcm .gtr (↑n) 60 then(
 K .ret [.slo 0 0 n 0,.slo 1 0 k 0,.bool true,.tup [],.tup [],.tup []] [some (.ro cs),some (.ro ks)] gt4)
 else(
 bif xcm .gtr (↑k) 60 then(
 K .ret [.slo 0 0 n 0,.slo 1 0 k 0,.bool true,.tup [],.tup [],.tup []] [some (.ro cs),some (.ro ks)] gt4)
 else(
 K .normal [.slo 0 0 n 0,.slo 1 0 k 0,.bool false,.nils,.int .i64 0,.tup []] [some (.ro cs),some (.ro ks)] gt4))):=by kernel_rfl
theorem tp_l (n k i:Nat) (cs ks ms:List LV) (K:Pk):(xcode prog cxTP 40 57 (loopOf (nthC (sp prog 4) 7)) (mkTm 57 (tpT n k i)) (mkS (tpH cs ks ms) gt4) (vK tpL K))=(
 bif xcm .lss ↑i ↑k then(
 ck (xle (xadd (xnat ↑i) 1) k) <|
 ck (xle (xadd (xix 0 (xnat ↑i) 1) 1) (xln ks)) <|
 ck (isI .u8 (nthD ks (xix 0 (xnat ↑i) 1))) <|
 ck (xle (xadd i 1) 1000000) <|
 ck (xle (xadd 0 (xmul i 5)) (xln ms)) <|
 K .normal [.slo 0 0 n 0,.slo 1 0 k 0,.bool false,.slo 4 0 (xadd i 1) 0,.int .i64 (xar .add .i64 (↑i) 1),.int .i64 (xwr .i64 (asI (nthD ks (xix 0 (xnat ↑i) 1))))] [some (.ro cs),some (.ro ks),sD,sN [.int .i64 (xar .add .i64 1 (xar .rem .i64 (xwr .i64 (asI (nthD ks (xix 0 (xnat ↑i) 1)))) 22)),.int .i64 (xar .rem .i64 (xwr .i64 (asI (nthD ks (xix 0 (xnat ↑i) 1)))) 9),.int .i64 0,.int .i64 (xar .rem .i64 (xar .quo .i64 (xwr .i64 (asI (nthD ks (xix 0 (xnat ↑i) 1)))) 4) 42),.int .u64 0],sC (xcat (xcut ms 0 (xmul i 5)) [.int .i64 (xar .add .i64 1 (xar .rem .i64 (xwr .i64 (asI (nthD ks (xix 0 (xnat ↑i) 1)))) 22)),.int .i64 (xar .rem .i64 (xwr .i64 (asI (nthD ks (xix 0 (xnat ↑i) 1)))) 9),.int .i64 0,.int .i64 (xar .rem .i64 (xar .quo .i64 (xwr .i64 (asI (nthD ks (xix 0 (xnat ↑i) 1)))) 4) 42),.int .u64 0]) 5] gt4)
 else(
 K (.exit 0) [.slo 0 0 n 0,.slo 1 0 k 0,.bool false,.slo 2 0 i 0,.int .i64 ↑i,.any] [some (.ro cs),some (.ro ks),sC ms 5] gt4)):=by kernel_rfl
theorem tp_z (n k:Nat) (cs ks ms:List LV) (K:Pk):(xsp prog cxTP 40 57 ((sp prog 4).drop 8) (mkTm 57 (tpT n k k)) (mkS (tpH cs ks ms) gt4) (vK tpL K))=(
 ck (isFt powF) <|
 ck (okI5 n cs) <|
 ck (isFt powF) <|
 ck (okI5 n cs) <|
 bif xstr .eql (ptxW cs) (ptxW cs) then(
 ck (isFt powF) <|
 ck (okI5 k ms) <|
 ck (isFt powF) <|
 ck (okI5 k ms) <|
 K .ret [.slo 0 0 n 0,.slo 1 0 k 0,.bool (xstr .eql (ptxW ms) (ptxW ms)),.slo 2 0 k 0,.int .i64 ↑k,.any] [some (.ro cs),some (.ro ks),sC ms 5] gt4)
 else(
 K .ret [.slo 0 0 n 0,.slo 1 0 k 0,.bool false,.slo 2 0 k 0,.int .i64 ↑k,.any] [some (.ro cs),some (.ro ks),sC ms 5] gt4)):=by kernel_rfl
end
end Go.Lev
