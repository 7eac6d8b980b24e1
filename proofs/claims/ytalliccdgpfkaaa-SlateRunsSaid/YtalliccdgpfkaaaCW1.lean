/- strings.Join as a contract, out of the shelf's; SlateRuns -/
import Derived.Test.YtalliccdgpfkaaaLc
import Derived.Test.YtalliccdgpfkaaaChecked
import Derived.KernelRfl
import Derived.Test.YtalliccdgpfkaaaSh
namespace Go.Lev
set_option linter.unusedSimpArgs false
set_option linter.unusedVariables false
open Go.RowKit
open Go.Proofs.Try (prog)
set_option maxRecDepth 100000
noncomputable section
def joinL (sep:List UInt8):List (List UInt8)→List UInt8
 | []=>[]
 | [x]=>x
 | x::y::r=>x++sep++joinL sep (y::r)
theorem joinL_cons (sep x:List UInt8) (r:List (List UInt8)):joinL sep (x::r)=x++Lib.joinTail sep r:=by
 induction r generalizing x with
 | nil=>simp [joinL,Lib.joinTail]
 | cons y r ih=>rw [joinL,ih y]; simp [Lib.joinTail,List.append_assoc]
theorem joinL_eq (sep:List UInt8) (xs:List (List UInt8)):Lib.join xs sep=joinL sep xs:=by
 cases xs with
 | nil=>rfl
 | cons x r=>rw [Lib.join_cons,joinL_cons]
def joinG:Gc:=fun args s=>match args with
 | [.sl b o n c,.str sep]=>(match s.look b with
   | some cs=>(match cut cs o n with
     | some ds=>(match strsOf ds with
       | some xs=>cond (Nat.ble n c && Nat.ble n 140737488355328 && Nat.ble (joinL sep xs).length 140737488355328) (some ([],.str (joinL sep xs),s)) none
       | none=>none)
     | none=>none)
   | none=>none)
 | _=>none
theorem joinG_ok:GOk prog 29 joinG:=by
 intro args s bs l s' hg hb hfr
 unfold joinG at hg
 split at hg
 ·rename_i b o n c sep
  cases hk:s.look b with
  | none=>simp [hk] at hg
  | some cs =>
  simp only [hk] at hg
  cases hc:cut cs o n with
  | none=>simp [hc] at hg
  | some ds =>
  simp only [hc] at hg
  cases hx:strsOf ds with
  | none=>simp [hx] at hg
  | some xs =>
  simp only [hx] at hg
  cases hq:(Nat.ble n c && Nat.ble n 140737488355328 && Nat.ble (joinL sep xs).length 140737488355328) with
  | false=>simp [hq] at hg
  | true =>
  simp only [hq,cond_true,Option.some.injEq,Prod.mk.injEq] at hg
  obtain⟨rfl,rfl,rfl⟩:=hg
  simp only [Bool.and_eq_true,Nat.ble_eq] at hq
  obtain⟨⟨q1,q2⟩,q3⟩:=hq
  obtain⟨x1,x2⟩:=strsOf_get hx
  obtain⟨c1,c2⟩:=cut_eq cs o n ds hc
  refine SFun.still fun W0 r w us hI hv=>?_
  simp only [VRs,VR] at hv
  obtain⟨u1,us1,rfl,⟨B,w1,c',hr,rfl⟩,u2,us2,rfl,rfl,rfl⟩:=hv
  have hB:=(hI.dom b _ hr).2
  have hl:xs.length=n:=x1.trans c1
  have hcells:∀ (j:Nat) x,(xs.map fun x=>(⟨x.toArray⟩:ByteArray))[j]? = some x→w.cell? ⟨B,(w1+o)+j,none⟩=some (.string x):=by
   intro j x hj
   rw [List.getElem?_map] at hj
   cases hj':xs[j]? with
   | none=>simp [hj'] at hj
   | some y =>
     simp only [hj',Option.map_some,Option.some.injEq] at hj
     have hlt:j < n:=by have:=(List.getElem?_eq_some_iff.1 hj').1; omega
     have h1:=x2 j y hj'
     rw [c2 j hlt] at h1
     obtain⟨_,u,h2,h3⟩:=hI.cell hk hr h1
     simp only [VR] at h3
     rw [show w1+o+j=w1+(o+j) by omega,h2,h3,← hj]
  have e:(xs.map fun x=>(⟨x.toArray⟩:ByteArray)).map (fun x=>x.data.toList)=xs:=by
   rw [List.map_map]; exact(List.map_congr_left fun x _=>rfl).trans (List.map_id xs)
  have key:=Go.Proofs.Ytalliccdgpfkaaa.strings_Join B (w1+o) c (xs.map fun x=>(⟨x.toArray⟩:ByteArray)) ⟨sep.toArray⟩ w hcells hB (by rw [List.length_map]; omega) (by rw [List.length_map]; omega)
   (by rw [e]; show(Lib.join xs sep).length≤_; rw [joinL_eq]; exact q3)
  rw [List.length_map,hl,e] at key
  refine key.mono fun ed w' ⟨h1,h2⟩=>⟨_,h1,?_,h2⟩
  show VR r (.str (joinL sep xs)) (.string ⟨(Lib.join xs sep).toArray⟩)
  rw [joinL_eq]; simp only [VR]
 ·cases hg
end
end Go.Lev
