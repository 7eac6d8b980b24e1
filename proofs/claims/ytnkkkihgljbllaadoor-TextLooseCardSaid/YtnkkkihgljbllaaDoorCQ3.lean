/- strconv's FormatUint and Itoa as contracts -/
import Derived.Test.YtnkkkihgljbllaaDoorCQ2
import Derived.Test.YtnkkkihgljbllaaDoorLc
import Derived.Test.YtnkkkihgljbllaaDoorChecked
import Derived.KernelRfl
import Derived.Test.YtnkkkihgljbllaaDoorCQ1
namespace Go.Lev
set_option linter.unusedSimpArgs false
set_option linter.unusedVariables false
open Go.RowKit
open Go.Proofs.Tryd (prog)
set_option maxRecDepth 100000
noncomputable section
theorem pow_up {W w:World} (h:powT W) (hb:Below W.heap.size W w):powT w:=by
 unfold powT Lib.TabIs World.var? at *
 cases hg:prog.globalNamed "internal/strconv.uint64pow10" with
 | none=>simp [hg] at h
 | some g =>
   simp only [hg,Option.bind_some] at h ⊢
   have hlt:g < W.heap.size:=by
    rcases Nat.lt_or_ge g W.heap.size with h' | h'
    ·exact h'
    ·rw [Array.getElem?_eq_none h'] at h; simp at h
   rw [hb.block g hlt]
   exact h
def powF:World→Prop:=fun w=>Lib.TabIs prog w "internal/strconv.uint64pow10" .u64 Lib.pow10Tab
def isFt (F:World→Prop):Bool:=@decide (F=powF) (Classical.propDecidable _)
theorem isFt_self:isFt powF=true:=by simp [isFt]
theorem isFt_eq {F:World→Prop} (h:isFt F=true):F=powF:=by simpa [isFt] using h
def fuG:Gc:=fun args s=>match args,s.g with
 | [.int .u64 n,.int .i64 10],_::_::_::(_,[.fact F])::_=>some ([isFt F,xcm .leq 0 n,xcm .leq n 18446744073709551615],.str (decW n),s)
 | _,_=>none
def itG:Gc:=fun args s=>match args with
 | [.int .i64 n]=>some ([xcm .leq 0 n,xcm .lss n 100],.str (decW n),s)
 | _=>none
set_option maxHeartbeats 1000000 in
theorem fu_pub (u:Nat) (hu:u < 18446744073709551616) (w:World) (htab:powT w) :
  Calls prog 53 #[.int .u64 u,.int .i64 10] w fun e w'=>e=.returned (.string ⟨(Lib.decDigits u).toArray⟩)∧Below w.heap.size w w':=by
 go_enter Go.Proofs.Tryd.func53,Go.Proofs.Tryd.ntmps53
 go_wp2_with (go_at_call 66; refine(fu_in u hu _ htab).mono ?_; rintro e w' ⟨rfl,hb⟩)
 go_ret
 exact⟨rfl,hb⟩
theorem fuG_ok:GOk prog 53 fuG:=by
 intro args s bs l s' hg hb hfr
 unfold fuG at hg
 split at hg
 ·rename_i n x1 x2 x3 k F rest hgl
  simp only [Option.some.injEq,Prod.mk.injEq] at hg
  obtain⟨rfl,rfl,rfl⟩:=hg
  obtain⟨k1,k2⟩:=allT_cons.1 hb
  obtain⟨k2,k3⟩:=allT_cons.1 k2
  obtain⟨k3,_⟩:=allT_cons.1 k3
  have hF:=isFt_eq k1
  have q1:0≤n:=by rwa [xcm_leq,decide_eq_true_eq] at k2
  have q2:n≤18446744073709551615:=by rwa [xcm_leq,decide_eq_true_eq] at k3
  obtain⟨u,rfl⟩:∃ u:Nat,n=(u:Int):=⟨n.toNat,by omega⟩
  refine SFun.still fun W0 r w us hI hv=>?_
  simp only [VRs,VR] at hv
  obtain⟨u1,us1,rfl,rfl,u2,us2,rfl,rfl,rfl⟩:=hv
  have hp:powT W0:=by
   have:=hI.gl (k,[.fact F]) (by rw [hgl]; simp)
   rcases this with⟨F',e,h⟩ | ⟨c,e,f,_,h⟩
   ·simp only [List.cons.injEq,LV.fact.injEq,and_true] at e
    subst e; rw [hF] at h; exact h
   ·have:=(h 0 _ rfl).2
    obtain⟨v,_,h2⟩:=this
    have:=h2 (fun _=>none)
    simp only [VR] at this
  refine(fu_pub u (by omega) w (pow_up hp hI.below)).mono fun e w' ⟨h1,h2⟩=>⟨_,h1,?_,h2⟩
  rw [decW_eq]; simp only [VR]
 ·cases hg
set_option maxHeartbeats 1000000 in
theorem it_in (u:Nat) (hu:u < 100) (w:World) :
  Calls prog 65 #[.int .i64 u,.int .i64 10] w fun e w'=>e=.returned (.string ⟨(Lib.decDigits u).toArray⟩)∧w'=w:=by
 go_enter Go.Proofs.Tryd.func65,Go.Proofs.Tryd.ntmps65
 go_wp2_with (go_at_call 72; refine(Go.Proofs.Tryd.internal_strconv_small u hu _).mono ?_; rintro e w' ⟨rfl,rfl⟩)
 go_ret
 exact⟨rfl,rfl⟩
set_option maxHeartbeats 1000000 in
theorem it_mid (u:Nat) (hu:u < 100) (w:World) :
  Calls prog 52 #[.int .i64 u] w fun e w'=>e=.returned (.string ⟨(Lib.decDigits u).toArray⟩)∧w'=w:=by
 go_enter Go.Proofs.Tryd.func52,Go.Proofs.Tryd.ntmps52
 go_wp2_with (go_at_call 65; refine(it_in u hu _).mono ?_; rintro e w' ⟨rfl,rfl⟩)
 go_ret
 exact⟨rfl,rfl⟩
set_option maxHeartbeats 1000000 in
theorem it_pub (u:Nat) (hu:u < 100) (w:World) :
  Calls prog 40 #[.int .i64 u] w fun e w'=>e=.returned (.string ⟨(Lib.decDigits u).toArray⟩)∧w'=w:=by
 go_enter Go.Proofs.Tryd.func40,Go.Proofs.Tryd.ntmps40
 go_wp2_with (go_at_call 52; refine(it_mid u hu _).mono ?_; rintro e w' ⟨rfl,rfl⟩)
 go_ret
 exact⟨rfl,rfl⟩
theorem itG_ok:GOk prog 40 itG:=by
 intro args s bs l s' hg hb hfr
 unfold itG at hg
 split at hg
 ·rename_i n
  simp only [Option.some.injEq,Prod.mk.injEq] at hg
  obtain⟨rfl,rfl,rfl⟩:=hg
  obtain⟨k1,k2⟩:=allT_cons.1 hb
  obtain⟨k2,_⟩:=allT_cons.1 k2
  have q1:0≤n:=by rwa [xcm_leq,decide_eq_true_eq] at k1
  have q2:n < 100:=by rwa [xcm_lss,decide_eq_true_eq] at k2
  obtain⟨u,rfl⟩:∃ u:Nat,n=(u:Int):=⟨n.toNat,by omega⟩
  refine SFun.still fun W0 r w us hI hv=>?_
  simp only [VRs,VR] at hv
  obtain⟨u1,us1,rfl,rfl,rfl⟩:=hv
  refine(it_pub u (by omega) w).mono fun e w' ⟨h1,h2⟩=>⟨_,h1,?_,by rw [h2]; exact Below.refl _ _⟩
  rw [decW_eq]; simp only [VR]
 ·cases hg
end
end Go.Lev
