/- ViewWhole (P10.1 to P10.3): for any heap's size, any room, any words that are told, written, read, any levels the law returns true; what was there stays as it was. No condition. -/
import Derived.Test.YthlofjcdplmniabCZ3
import Derived.Test.YthlofjcdplmniabLc
import Derived.Test.YthlofjcdplmniabChecked
import Derived.KernelRfl
import Derived.Test.YthlofjcdplmniabLc
namespace Go.Lev
set_option linter.unusedSimpArgs false
set_option linter.unusedVariables false
open Go.RowKit
open Go.Proofs.Try (prog)
set_option maxRecDepth 100000
theorem el_cell {H:Type} {enc:TypeId×Value→H} {W:World}:∀ (cs:List Value) (n:Nat) (x:DataW H×List MemPlace),cs.length=2→DataW.trod enc prog W 0 (fun _=>true) true n 44 cs=some x→∃ y:Int×Int,True∧∀ (j:Nat) l,(cell y)[j]? = some l→l.plain=true∧∃ u,cs[j]? = some u∧VR noRen l u:=by
 intro cs n x hl hx
 have hf:=fl_ok 4 (l:=[(0,.int .i64),(1,.int .u64)]) (by kernel_rfl) hx
 obtain⟨_,e0,z0,rfl,_⟩:=hf (0,.int .i64) (by simp)
 obtain⟨_,e1,z1,rfl,_⟩:=hf (1,.int .u64) (by simp)
 refine⟨(z0,z1),trivial,fun i l hi=>?_⟩
 match i with
 | 0=>simp [cII] at hi; subst hi; exact⟨rfl,_,e0,by simp only [VR]⟩
 | 1=>simp [cII] at hi; subst hi; exact⟨rfl,_,e1,by simp only [VR]⟩
 | i+2=>simp [cII] at hi
theorem plays_any {H:Type} {enc:TypeId×Value→H} {W:World} {a0 a1:Option Addr} {len0 cap0 len1 cap1:Nat} {d0 d1:DataW H} {p0 p1:List MemPlace} (most:Int) (h0:DataW.Trod enc prog W 0 (fun _=>true) true 22 (.slice a0 len0 cap0) d0 p0) (h1:DataW.Trod enc prog W 0 (fun _=>true) true 23 (.slice a1 len1 cap1) d1 p1) :
  Calls prog 3 #[.slice a0 len0 cap0,.int .i64 most,.slice a1 len1 cap1] W fun e W'=>e=.returned (.bool true)∧Below W.heap.size W W':=by
 obtain⟨us,e0,n0,_,r0⟩:=row_arg (f:=cI .u64) (ok:=fun y:Int=>IntKind.u64.min≤y∧y≤IntKind.u64.max) (cI_len .u64) (by omega) Go.Proofs.Try.underlying22 (by kernel_rfl) h0 (el_int Go.Proofs.Try.underlying31)
 obtain⟨xs,e1,n1,q1,r1⟩:=row_arg (f:=askL) (ok:=fun q=>RowArg W q.v q.cs.length (encL cell q.cs)∧q.cs.length≤9223372036854775807) askL_len (by omega) Go.Proofs.Try.underlying23 (by kernel_rfl) h1 fun cs n x hl hx=>by
  have hf:=fsl_ok 4 (l:=[(3,32)]) (by kernel_rfl) hx
  obtain⟨v,y,n',e3,hv⟩:=hf (3,32) (by simp)
  obtain⟨qs,k1,_,k3,k4⟩:=row_in (f:=cell) (ok:=fun _=>True) cell_len (by omega) Go.Proofs.Try.underlying32 (by kernel_rfl) hv el_cell
  have hg:=fl3_ok 4 (l:=[(0,.int .i64),(1,.int .i64),(2,.int .u64)]) (by kernel_rfl) hx
  obtain⟨_,e0,z0,rfl,_⟩:=hg (0,.int .i64) (by simp)
  obtain⟨_,e1,z1,rfl,_⟩:=hg (1,.int .i64) (by simp)
  obtain⟨_,e2,z2,rfl,_⟩:=hg (2,.int .u64) (by simp)
  refine⟨⟨z0,z1,z2,v,qs⟩,⟨k3,k1⟩,fun i l hi=>?_⟩
  match i with
  | 0=>simp at hi; subst hi; exact⟨rfl,_,e0,by simp only [VR]⟩
  | 1=>simp at hi; subst hi; exact⟨rfl,_,e1,by simp only [VR]⟩
  | 2=>simp at hi; subst hi; exact⟨rfl,_,e2,by simp only [VR]⟩
  | 3=>simp at hi; subst hi; exact⟨rfl,_,e3,lv_val k4⟩
  | i+4=>simp at hi
 refine SFun.top (rows:=[(.slice a0 len0 cap0,len0,encL (cI .u64) us),(.slice a1 len1 cap1,len1,encL askL xs)]) (g:=factG (factW xs)) (us:=[.slice a0 len0 cap0,.int .i64 most,.slice a1 len1 cap1]) ⟨r0,r1,trivial⟩ (Gl_fact.2 fun x hx=>(q1 x hx).1) (fun r h=>?_) (plays_fun us most xs len0 len1 e0 e1 n1 (fun x hx=>(q1 x hx).2) n0)
 simp only [VRs,VR]
 exact⟨_,_,rfl,h 0 _ _ _ rfl,_,_,rfl,rfl,_,_,rfl,h 1 _ _ _ rfl,rfl⟩
end Go.Lev
