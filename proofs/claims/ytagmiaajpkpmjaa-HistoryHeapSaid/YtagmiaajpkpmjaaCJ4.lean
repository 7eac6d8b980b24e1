/- chapter 29: attempts out of draws, as a contract: an object -/
import Derived.Test.YtagmiaajpkpmjaaCJ3
import Derived.Test.YtagmiaajpkpmjaaLc
import Derived.Test.YtagmiaajpkpmjaaChecked
import Derived.KernelRfl
namespace Go.Lev
set_option linter.unusedSimpArgs false
set_option linter.unusedVariables false
open Go.RowKit
open Go.Proofs.Try (prog)
set_option maxRecDepth 100000
noncomputable section
def okDs (F:World→Prop) (c:List LV) (n:Nat) (ds:List DrV):Prop:=c=encL drC ds∧n=ds.length∧1≤n∧(∃ W,F W)∧(∀ W,F W→fDr ds W)∧∀ x∈ds,∀ y∈x.cs,0≤y.2
def okDr (F:World→Prop) (c:List LV) (n:Nat):Bool:=@decide (∃ ds,okDs F c n ds) (Classical.propDecidable _)
def m20 (n:Nat):Nat:=min n 20
theorem okDr_iff {F:World→Prop} {c:List LV} {n:Nat}:okDr F c n=true↔∃ ds,okDs F c n ds:=by simp only [okDr,decide_eq_true_eq]
def atK:Kd:={ σ:={p:SQ×List AtV // StA p.1 p.2∧1≤p.2.length},enc:=fun p=>[.int .i64 p.1.2.length],sh:=fun p _ k=>(.cells (encL atC p.1.2) (some 14),[stB p.1.1 (k+1),.dead]) }
theorem atK_ok:atK.Ok:=by
 refine⟨fun v b k b' k' ρ hb hρ=>?_,fun v b k=>?_⟩
 ·have h1:=hρ 1 (by show 1 < 2; omega)
  obtain⟨⟨⟨F,e,h⟩,ats⟩,hS,hn⟩:=v
  refine bk_cons (lb_same (noids_aC ats)) (bk_cons ?_ (bk_cons lb_dead bk_nil))
  cases e
  ·exact lb_obj h1
  ·exact lb_dead
 ·obtain⟨⟨q,ats⟩,hS,hn⟩:=v
  cases ats with
  | nil=>simp at hn
  | cons x r=>exact⟨_,_,_,rfl⟩
def atF:OP:=atK.F
theorem atc_ok (n:Nat) (c:List LV) (F:World→Prop) (k1:okDr F c n=true):SFun prog 6 [.slo 0 0 n 0,.bool false] (mkS [.ro c] (factG F)) fun l s=>l=.slo 1 0 (m20 n) 0∧s=mkS [.ro c,.obj atF [.int .i64 (.ofNat (m20 n))] 2,.dead] (factG F):=by
 obtain⟨ds,rfl,rfl,h1,hs,hF,hu⟩:=okDr_iff.1 k1
 refine SFun.shut (K:=atK) (bs:=[.ro (encL drC ds)]) (B:=[.ro (encL drC ds),.dead]) (cs:=[.int .i64 (.ofNat (m20 ds.length))]) (l:=.slo 1 0 (m20 ds.length) 0) (g:=factG F) atK_ok 1 (by simp) (by simp) (fun ρ h=>⟨bk_cons (lb_ro (noids_dr ds)) (bk_cons lb_dead bk_nil),lw_slo (h 1 (by simp))⟩) ?_
 refine SFun.mono (at_ok ds F hs hF hu) fun l s ⟨q,ats,hS,hn,e1,e2⟩=>?_
 have hm:ats.length=m20 ds.length:=hn
 refine⟨_,⟨by rw [e1,hm],⟨(q,ats),hS,by dsimp only; omega⟩,?_,rfl⟩,e2⟩
 show [LV.int .i64 (ats.length:Int)]=_
 rw [hm]; rfl
theorem okDr_nd {F:World→Prop} {c:List LV} {n:Nat} (h:okDr F c n=true):noIds c=true:=by
 obtain⟨ds,rfl,_⟩:=okDr_iff.1 h
 exact noids_dr ds
def atG:Gc:=fun args s=>match args,s.g with
 | [.slo d 0 n 0,.bool false],[(0,[.fact F])]=>(match s.h.get d with
   | some (.ro c)=>(match s.lay [d] [.ro c] [.obj atF [.int .i64 (.ofNat (m20 n))] (Nat.succ s.n),.dead] with
     | some s'=>some ([okDr F c n],.slo s.n 0 (m20 n) 0,s')
     | none=>none)
   | _=>none)
 | _,_=>none
theorem atG_ok:GOk prog 6 atG:=by
 intro args s bs l s' hg hb hfr
 unfold atG at hg
 split at hg
 ·rename_i d n F hgl
  split at hg
  ·rename_i c hb0
   split at hg
   ·rename_i s1 hs1
    simp only [Option.some.injEq,Prod.mk.injEq] at hg
    obtain⟨rfl,rfl,rfl⟩:=hg
    simp only [allT_cons] at hb
    obtain⟨k1,_⟩:=hb
    have nd:noIds c=true:=okDr_nd k1
    refine SFun.lay (bs:=[.ro c]) (args0:=[.slo 0 0 n 0,.bool false]) (bs':=[.ro c,.obj atF [.int .i64 (.ofNat (m20 n))] 2,.dead]) (v0:=.slo 1 0 (m20 n) 0) hfr hs1 (by simp)
     ⟨⟨there hfr hb0,_,hb0,lb_ro (by(exact zId)),fun κ hκ=>lb_ro (by(exact zId))⟩,trivial⟩ (by(exact zTl)) ?_
     fun κ h1 h2=>⟨⟨lb_ro (by(exact zId)),lb_obj (h2 1 (by simp)),lb_dead,trivial⟩,lw_slo (h2 0 (by simp))⟩
    rw [hgl]; exact(atc_ok n c F k1)
   ·cases hg
  ·cases hg
 ·cases hg
end
end Go.Lev
