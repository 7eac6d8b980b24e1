/- FetchWaits: the walk of the law up to its first own object, then every case by the local evaluator. -/

import Derived.Test.YtbbeckakellojaaRows
import Derived.Test.YtbbeckakellojaaRunsC
import Derived.Test.YtbbeckakellojaaLew
import Derived.WalkKit
import Derived.ProofKit
import Derived.OpenShut
import Derived.ShutString
import Derived.ChangeOld
import Derived.Below
import Derived.Lib.Hide
import Derived.Outline
import Derived.Handy
import Derived.Deep.Cut
namespace Go.Proofs.Ytbbeckakellojaa
open Go.ChangeShapes Go.WideShapes Go.ChangeAt Go.RowKit
open Go.ChangeMaps (open_string shut_string)
set_option linter.unusedVariables false
theorem AR_list {r : Go.Lev.Ren} {ls : List Go.Lev.LV} {vs : List Value} {tm : Go.Lev.Tm} (h : Go.Lev.initTm ls 0 .leaf = some tm) (hv : Go.Lev.VRs r ls vs) : Go.Lev.AR r (Go.Lev.tmGet tm) vs.length { tmps := vs.toArray, defers := [] } := by
  have sp := Go.Lev.initTm_spec ls 0 .leaf tm h
  have hl := hv.length
  refine ⟨by simp, rfl, fun t ht => ?_, fun t ht => ?_⟩
  · have ht' : t < ls.length := by omega
    obtain ⟨u, hu, hr⟩ := hv.get (i := t) (x := ls[t]) (by simp [ht'])
    refine ⟨u, by simpa using hu, ?_⟩
    rw [sp t, if_pos ⟨by omega, by omega⟩]
    simpa [ht'] using hr
  · rw [sp t, if_neg (by omega)]
    simp [Go.Lev.tmGet, Go.Lev.Tr.get]
/-- Behind a region the rest of a function, both by the local evaluator, from nothing in memory on. -/
def run2 (P : Program) (fuel nt : Nat) (c1 c2 : Code) (tm : Option Go.Lev.Tm) : Option (Go.Lev.LX × Go.Lev.Tm × Go.Lev.St) :=
  match tm with
  | some tm => (match Go.Lev.lcode P fuel nt c1 tm ⟨.leaf, 0, []⟩ with
    | some (.normal, tm1, s1) => Go.Lev.lcode P fuel nt c2 tm1 s1
    | _ => none)
  | none => none
def endB (slot : Nat) : Option (Go.Lev.LX × Go.Lev.Tm × Go.Lev.St) → Bool
  | some (.ret, tm, _) => (match Go.Lev.tmGet tm slot with | .bool true => true | _ => false)
  | _ => false
theorem cut_run {P : Program} {fuel nt slot : Nat} {c1 c2 : Code} {ls : List Go.Lev.LV} {vs : List Value} (h : endB slot (run2 P fuel nt c1 c2 (Go.Lev.initTm ls 0 .leaf)) = true) (hv : ∀ r, Go.Lev.VRs r ls vs) (hnt : vs.length = nt) (hslot : slot < nt) {fn : Func} (hres : fn.results = #[.tmp slot]) (w : World) {R : Ending → World → Prop}
    {K : Act → World → Prop} {Q : Exit → Act → World → Prop} (hK : ∀ a w, c2.wp P (bodyPost P fn R) a w → K a w) (hR : ∀ w', Below w.heap.size w w' → R (.returned (.bool true)) w') : c1.wp P (Exit.then K Q) { tmps := vs.toArray, defers := [] } w := by
  cases ht : Go.Lev.initTm ls 0 .leaf with
  | none => simp [ht, run2, endB] at h
  | some tm =>
    have hA := AR_list ht (hv (fun _ => none))
    rw [hnt] at hA
    simp only [ht, run2] at h
    cases h1 : Go.Lev.lcode P fuel nt c1 tm ⟨.leaf, 0, []⟩ with
    | none => simp [h1, endB] at h
    | some p =>
      obtain ⟨x, tm1, s1⟩ := p
      simp only [h1] at h
      cases x with
      | normal =>
        refine (Go.Lev.both_sound fuel).1 w nt c1 tm tm1 _ s1 .normal h1 (fun _ => none) _ w (Go.Lev.Inv.start w (fun x hx => by cases hx)) hA _ ?_
        intro r' a' w' hI _ hA'
        show K a' w'
        apply hK
        cases h2 : Go.Lev.lcode P fuel nt c2 tm1 s1 with
        | none => simp [h2, endB] at h
        | some q =>
          obtain ⟨y, tm2, s2⟩ := q
          simp only [h2] at h
          cases y with
          | ret =>
            refine (Go.Lev.both_sound fuel).1 w nt c2 tm1 tm2 s1 s2 .ret h2 r' a' w' hI hA' _ ?_
            intro r'' a'' w'' hI'' _ hA''
            show bodyPost P fn R Exit.ret a'' w''
            obtain ⟨v, hv1, hv2⟩ := hA''.get slot hslot
            have hb : Go.Lev.tmGet tm2 slot = .bool true := by
              simp only [endB] at h
              split at h
              · assumption
              · cases h
            rw [hb] at hv2
            simp only [Go.Lev.VR] at hv2
            subst hv2
            refine bodyPost_ret (results_tmp hres _ _ _) hA''.defers ?_
            have : a''.tmps.getD slot undef = .bool true := by simp [Array.getD_eq_getD_getElem?, hv1]
            rw [this]
            exact hR w'' hI''.below
          | normal => simp [endB] at h
          | exit k => simp [endB] at h
      | exit k => simp [endB] at h
      | ret => simp [endB] at h
theorem vcons {r : Go.Lev.Ren} {l : Go.Lev.LV} {v : Value} {ls : List Go.Lev.LV} {vs : List Value} (h : Go.Lev.VR r l v) (t : Go.Lev.VRs r ls vs) : Go.Lev.VRs r (l :: ls) (v :: vs) := by
  simp only [Go.Lev.VRs]; exact ⟨_, _, rfl, h, t⟩
theorem vnil {r : Go.Lev.Ren} : Go.Lev.VRs r [] [] := by simp only [Go.Lev.VRs]
theorem vint {r : Go.Lev.Ren} {k : IntKind} {n : Int} : Go.Lev.VR r (.int k n) (.int k n) := by simp only [Go.Lev.VR]
theorem vbool {r : Go.Lev.Ren} {b : Bool} : Go.Lev.VR r (.bool b) (.bool b) := by simp only [Go.Lev.VR]
theorem all4 {A B C D : Nat} {f : Nat → Nat → Nat → Nat → Bool} (h : (List.range A).all (fun x => (List.range B).all fun y => (List.range C).all fun z => (List.range D).all fun q => f x y z q) = true) (x : Nat) (hx : x < A) (y : Nat) (hy : y < B) (z : Nat) (hz : z < C) (q : Nat) (hq : q < D) : f x y z q = true := by
  simp only [List.all_eq_true, List.mem_range] at h
  exact h x hx y hy z hz q hq
theorem cut_all4 {P : Program} {fuel nt slot : Nat} {c1 c2 : Code} {A B C D : Nat} (g : Nat → Nat → Nat → Nat → List Go.Lev.LV) (h : (List.range A).all (fun x => (List.range B).all fun y => (List.range C).all fun z => (List.range D).all fun q => endB slot (run2 P fuel nt c1 c2 (Go.Lev.initTm (g x y z q) 0 .leaf))) = true) (x : Nat) (hx : x < A) (y : Nat) (hy : y < B) (z : Nat) (hz : z < C) (q : Nat) (hq : q < D) : endB slot (run2 P fuel nt c1 c2 (Go.Lev.initTm (g x y z q) 0 .leaf)) = true :=
  all4 (f := fun x y z q => endB slot (run2 P fuel nt c1 c2 (Go.Lev.initTm (g x y z q) 0 .leaf))) h x hx y hy z hz q hq
def seqTail : Nat → Code → Code
  | 0, c => c
  | n + 1, .seq _ b => seqTail n b
  | _, c => c
def seqHead : Code → Code
  | .seq a _ => a
  | c => c
def bodyOf (fn : Func) : Code := match fn.body with | some c => c | none => .skip
def regionOf : Code → Nat
  | .region id _ _ => id
  | _ => 1000
theorem all2 {C D : Nat} {f : Nat → Nat → Bool} (h : (List.range C).all (fun z => (List.range D).all fun q => f z q) = true) (z : Nat) (hz : z < C) (q : Nat) (hq : q < D) : f z q = true := by
  simp only [List.all_eq_true, List.mem_range] at h
  exact h z hz q hq

noncomputable def C1 : Code := seqHead (seqTail 4 (bodyOf Try.f3))
noncomputable def C2 : Code := seqTail 5 (bodyOf Try.f3)
theorem c1_is : regionOf C1 = 5 := by kernel_rfl
noncomputable def LS (me ow sp lo x y z q : Int) : List Go.Lev.LV := [Go.Lev.LV.int .u8 me, Go.Lev.LV.int .u8 ow, Go.Lev.LV.int .u8 sp, Go.Lev.LV.int .u8 lo, Go.Lev.LV.undef, Go.Lev.LV.undef, Go.Lev.LV.undef, Go.Lev.LV.undef, Go.Lev.LV.bool false, Go.Lev.LV.int .i64 x, Go.Lev.LV.int .i64 y, Go.Lev.LV.int .i64 z, Go.Lev.LV.int .i64 q, Go.Lev.LV.undef, Go.Lev.LV.undef, Go.Lev.LV.undef, Go.Lev.LV.undef, Go.Lev.LV.undef, Go.Lev.LV.undef, Go.Lev.LV.undef, Go.Lev.LV.bool true, Go.Lev.LV.bool false, Go.Lev.LV.int .u8 me, Go.Lev.LV.int .u8 (me % 4), Go.Lev.LV.int .i64 x, Go.Lev.LV.int .u8 ow, Go.Lev.LV.int .u8 (ow % 4), Go.Lev.LV.int .i64 y, Go.Lev.LV.int .u8 sp, Go.Lev.LV.int .u8 (sp % 6), Go.Lev.LV.int .i64 z, Go.Lev.LV.int .u8 lo, Go.Lev.LV.int .u8 (lo % 10), Go.Lev.LV.int .i64 q, Go.Lev.LV.undef, Go.Lev.LV.undef, Go.Lev.LV.undef, Go.Lev.LV.undef, Go.Lev.LV.undef, Go.Lev.LV.undef, Go.Lev.LV.undef, Go.Lev.LV.undef, Go.Lev.LV.undef, Go.Lev.LV.undef, Go.Lev.LV.undef, Go.Lev.LV.undef, Go.Lev.LV.undef, Go.Lev.LV.undef, Go.Lev.LV.undef, Go.Lev.LV.undef, Go.Lev.LV.undef, Go.Lev.LV.undef, Go.Lev.LV.undef, Go.Lev.LV.undef, Go.Lev.LV.undef, Go.Lev.LV.undef, Go.Lev.LV.undef, Go.Lev.LV.undef, Go.Lev.LV.undef, Go.Lev.LV.undef, Go.Lev.LV.undef, Go.Lev.LV.undef, Go.Lev.LV.undef, Go.Lev.LV.undef, Go.Lev.LV.undef, Go.Lev.LV.undef, Go.Lev.LV.undef, Go.Lev.LV.undef, Go.Lev.LV.undef, Go.Lev.LV.undef, Go.Lev.LV.undef, Go.Lev.LV.undef, Go.Lev.LV.undef, Go.Lev.LV.undef, Go.Lev.LV.undef, Go.Lev.LV.undef, Go.Lev.LV.undef, Go.Lev.LV.undef, Go.Lev.LV.undef, Go.Lev.LV.undef, Go.Lev.LV.undef, Go.Lev.LV.undef, Go.Lev.LV.undef, Go.Lev.LV.undef, Go.Lev.LV.undef, Go.Lev.LV.undef, Go.Lev.LV.undef, Go.Lev.LV.undef, Go.Lev.LV.undef, Go.Lev.LV.undef, Go.Lev.LV.undef, Go.Lev.LV.undef, Go.Lev.LV.undef, Go.Lev.LV.undef, Go.Lev.LV.undef, Go.Lev.LV.undef, Go.Lev.LV.undef, Go.Lev.LV.undef, Go.Lev.LV.undef, Go.Lev.LV.undef, Go.Lev.LV.undef, Go.Lev.LV.undef, Go.Lev.LV.undef, Go.Lev.LV.undef, Go.Lev.LV.undef, Go.Lev.LV.undef, Go.Lev.LV.undef, Go.Lev.LV.undef, Go.Lev.LV.undef, Go.Lev.LV.undef, Go.Lev.LV.undef, Go.Lev.LV.undef, Go.Lev.LV.undef, Go.Lev.LV.undef]
theorem all1 {A : Nat} {f : Nat → Bool} (h : (List.range A).all f = true) (x : Nat) (hx : x < A) : f x = true := by
  simp only [List.all_eq_true, List.mem_range] at h
  exact h x hx
end Go.Proofs.Ytbbeckakellojaa
