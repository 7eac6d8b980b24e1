/- TextPlaces: the law's trees -/
import Derived.Test.YtnkkkihgljbllaaDoorCT7
import Derived.Test.YtnkkkihgljbllaaDoorCY5
import Derived.Test.YtnkkkihgljbllaaDoorCPD
import Derived.Test.YtnkkkihgljbllaaDoorLc
import Derived.Test.YtnkkkihgljbllaaDoorChecked
import Derived.KernelRfl
namespace Go.Lev
set_option linter.unusedSimpArgs false
set_option linter.unusedVariables false
open Go.RowKit
open Go.Proofs.Tryd (prog)
set_option maxRecDepth 100000
noncomputable section
def trG:Gc:=fun args s=>match args,s.g with
 | [],[(g0,F0),(g1,F1),(g2,F2),(g3,[.fact F])]=>cond (Nat.beq g0 0 && eqbs F0 formsL && (Nat.beq g1 2 && eqbs F1 callsL) && (Nat.beq g2 2 && eqbs F2 callsL) && Nat.beq g3 1000) (match s.lay [] [] [] with
   | some s'=>some ([isFt F],.bool true,s')
   | none=>none) none
 | _,_=>none
theorem trG_ok:GOk prog 8 trG:=by
 intro args s bs l s' hg hb hfr
 unfold trG at hg
 split at hg
 ·rename_i  g0 F0 g1 F1 g2 F2 g3 F hgl
  cases hc:(Nat.beq g0 0 && eqbs F0 formsL && (Nat.beq g1 2 && eqbs F1 callsL) && (Nat.beq g2 2 && eqbs F2 callsL) && Nat.beq g3 1000) with
  | false=>rw [hc] at hg; cases hg
  | true =>
    rw [hc] at hg
    simp only [cond_true] at hg
    simp only [Bool.and_eq_true] at hc
    replace hgl:s.g=gtF F:=by rw [hgl,Nat.eq_of_beq_eq_true hc.1.1.1.1,eqbs_eq hc.1.1.1.2,Nat.eq_of_beq_eq_true hc.1.1.2.1,eqbs_eq hc.1.1.2.2,Nat.eq_of_beq_eq_true hc.1.2.1,eqbs_eq hc.1.2.2,Nat.eq_of_beq_eq_true hc.2]
    split at hg
    ·rename_i s1 hs1
     simp only [Option.some.injEq,Prod.mk.injEq] at hg
     obtain⟨rfl,rfl,rfl⟩:=hg
     simp only [allT_cons] at hb
     obtain⟨k1,_⟩:=hb
     have eF:=isFt_eq k1
     subst eF
     refine SFun.lay (bs:=[]) (args0:=[]) (bs':=[]) (v0:=.bool true) hfr hs1 (by simp)
      trivial (by(exact zTl)) ?_
      fun κ h1 h2=>⟨trivial,lw_bool⟩
     rw [hgl]; exact runs4
    ·cases hg
 ·cases hg
end
end Go.Lev
