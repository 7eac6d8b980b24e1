/- Contracts of package lock, and of its twin in the reference: what each returns, and that it leaves what was there. -/

import Derived.Test.YtekndgioebfmbaaRows
import Derived.WalkKit
import Derived.ProofKit
import Derived.OpenShut
import Derived.ShutString
import Derived.ChangeOld
import Derived.Below
import Derived.Lib.Hide
import Derived.BigQuiet
import Derived.Deep.QuietTactic
import Derived.Outline
namespace Go.Proofs.Ytekndgioebfmbaa
open Go.ChangeShapes Go.WideShapes Go.ChangeAt Go.RowKit
open Go.ChangeMaps (open_string shut_string)
set_option linter.unusedVariables false

def mh (o : Int) : Bool := decide (0 ≤ o) && decide (o < 4)
def isB (v : Int) (h : Bool) (o : Int) : Bool := decide (v < 4611686018427387904) && (if h then mh o else o == 0)
abbrev lk (v : Int) (h : Bool) (o : Int) : Value := .agg #[.int .u64 v, .bool h, .int .i64 o]
theorem cas1 (w : World) (a : Addr) (o0 : Obj) (h : (w.cell? a).isSome = true) : (w.alloc o0).cell? a = w.cell? a := by
  obtain ⟨u, hu⟩ := Option.isSome_iff_exists.1 h
  exact World.cell?_alloc_lt _ _ _ (World.block_lt_of_cell? w a hu)
theorem fas1 (w : World) (a : Addr) (o0 : Obj) (h : (w.cell? a).isSome = true) : (w.alloc o0).frozen? a = w.frozen? a := by
  obtain ⟨u, hu⟩ := Option.isSome_iff_exists.1 h
  have := World.block_lt_of_cell? w a hu
  exact World.frozen?_alloc_old _ _ _ (by omega)
theorem cas2 (w : World) (a : Addr) (o0 o1 : Obj) (h : (w.cell? a).isSome = true) : ((w.alloc o0).alloc o1).cell? a = w.cell? a := by
  rw [cas1 _ _ _ (by rw [cas1 _ _ _ h]; exact h), cas1 _ _ _ h]
theorem fas2 (w : World) (a : Addr) (o0 o1 : Obj) (h : (w.cell? a).isSome = true) : ((w.alloc o0).alloc o1).frozen? a = w.frozen? a := by
  rw [fas1 _ _ _ (by rw [cas1 _ _ _ h]; exact h), fas1 _ _ _ h]
theorem cas3 (w : World) (a : Addr) (o0 o1 o2 : Obj) (h : (w.cell? a).isSome = true) : (((w.alloc o0).alloc o1).alloc o2).cell? a = w.cell? a := by
  rw [cas1 _ _ _ (by rw [cas2 _ _ _ _ h]; exact h), cas2 _ _ _ _ h]
theorem fas3 (w : World) (a : Addr) (o0 o1 o2 : Obj) (h : (w.cell? a).isSome = true) : (((w.alloc o0).alloc o1).alloc o2).frozen? a = w.frozen? a := by
  rw [fas1 _ _ _ (by rw [cas2 _ _ _ _ h]; exact h), fas2 _ _ _ _ h]
theorem cas4 (w : World) (a : Addr) (o0 o1 o2 o3 : Obj) (h : (w.cell? a).isSome = true) : ((((w.alloc o0).alloc o1).alloc o2).alloc o3).cell? a = w.cell? a := by
  rw [cas1 _ _ _ (by rw [cas3 _ _ _ _ _ h]; exact h), cas3 _ _ _ _ _ h]
theorem fas4 (w : World) (a : Addr) (o0 o1 o2 o3 : Obj) (h : (w.cell? a).isSome = true) : ((((w.alloc o0).alloc o1).alloc o2).alloc o3).frozen? a = w.frozen? a := by
  rw [fas1 _ _ _ (by rw [cas3 _ _ _ _ _ h]; exact h), fas3 _ _ _ _ _ h]
theorem cas5 (w : World) (a : Addr) (o0 o1 o2 o3 o4 : Obj) (h : (w.cell? a).isSome = true) : (((((w.alloc o0).alloc o1).alloc o2).alloc o3).alloc o4).cell? a = w.cell? a := by
  rw [cas1 _ _ _ (by rw [cas4 _ _ _ _ _ _ h]; exact h), cas4 _ _ _ _ _ _ h]
theorem fas5 (w : World) (a : Addr) (o0 o1 o2 o3 o4 : Obj) (h : (w.cell? a).isSome = true) : (((((w.alloc o0).alloc o1).alloc o2).alloc o3).alloc o4).frozen? a = w.frozen? a := by
  rw [fas1 _ _ _ (by rw [cas4 _ _ _ _ _ _ h]; exact h), fas4 _ _ _ _ _ _ h]
theorem cas6 (w : World) (a : Addr) (o0 o1 o2 o3 o4 o5 : Obj) (h : (w.cell? a).isSome = true) : ((((((w.alloc o0).alloc o1).alloc o2).alloc o3).alloc o4).alloc o5).cell? a = w.cell? a := by
  rw [cas1 _ _ _ (by rw [cas5 _ _ _ _ _ _ _ h]; exact h), cas5 _ _ _ _ _ _ _ h]
theorem fas6 (w : World) (a : Addr) (o0 o1 o2 o3 o4 o5 : Obj) (h : (w.cell? a).isSome = true) : ((((((w.alloc o0).alloc o1).alloc o2).alloc o3).alloc o4).alloc o5).frozen? a = w.frozen? a := by
  rw [fas1 _ _ _ (by rw [cas5 _ _ _ _ _ _ _ h]; exact h), fas5 _ _ _ _ _ _ _ h]
theorem cas7 (w : World) (a : Addr) (o0 o1 o2 o3 o4 o5 o6 : Obj) (h : (w.cell? a).isSome = true) : (((((((w.alloc o0).alloc o1).alloc o2).alloc o3).alloc o4).alloc o5).alloc o6).cell? a = w.cell? a := by
  rw [cas1 _ _ _ (by rw [cas6 _ _ _ _ _ _ _ _ h]; exact h), cas6 _ _ _ _ _ _ _ _ h]
theorem fas7 (w : World) (a : Addr) (o0 o1 o2 o3 o4 o5 o6 : Obj) (h : (w.cell? a).isSome = true) : (((((((w.alloc o0).alloc o1).alloc o2).alloc o3).alloc o4).alloc o5).alloc o6).frozen? a = w.frozen? a := by
  rw [fas1 _ _ _ (by rw [cas6 _ _ _ _ _ _ _ _ h]; exact h), fas6 _ _ _ _ _ _ _ _ h]
theorem cas8 (w : World) (a : Addr) (o0 o1 o2 o3 o4 o5 o6 o7 : Obj) (h : (w.cell? a).isSome = true) : ((((((((w.alloc o0).alloc o1).alloc o2).alloc o3).alloc o4).alloc o5).alloc o6).alloc o7).cell? a = w.cell? a := by
  rw [cas1 _ _ _ (by rw [cas7 _ _ _ _ _ _ _ _ _ h]; exact h), cas7 _ _ _ _ _ _ _ _ _ h]
theorem fas8 (w : World) (a : Addr) (o0 o1 o2 o3 o4 o5 o6 o7 : Obj) (h : (w.cell? a).isSome = true) : ((((((((w.alloc o0).alloc o1).alloc o2).alloc o3).alloc o4).alloc o5).alloc o6).alloc o7).frozen? a = w.frozen? a := by
  rw [fas1 _ _ _ (by rw [cas7 _ _ _ _ _ _ _ _ _ h]; exact h), fas7 _ _ _ _ _ _ _ _ _ h]
theorem cas9 (w : World) (a : Addr) (o0 o1 o2 o3 o4 o5 o6 o7 o8 : Obj) (h : (w.cell? a).isSome = true) : (((((((((w.alloc o0).alloc o1).alloc o2).alloc o3).alloc o4).alloc o5).alloc o6).alloc o7).alloc o8).cell? a = w.cell? a := by
  rw [cas1 _ _ _ (by rw [cas8 _ _ _ _ _ _ _ _ _ _ h]; exact h), cas8 _ _ _ _ _ _ _ _ _ _ h]
theorem fas9 (w : World) (a : Addr) (o0 o1 o2 o3 o4 o5 o6 o7 o8 : Obj) (h : (w.cell? a).isSome = true) : (((((((((w.alloc o0).alloc o1).alloc o2).alloc o3).alloc o4).alloc o5).alloc o6).alloc o7).alloc o8).frozen? a = w.frozen? a := by
  rw [fas1 _ _ _ (by rw [cas8 _ _ _ _ _ _ _ _ _ _ h]; exact h), fas8 _ _ _ _ _ _ _ _ _ _ h]
theorem cas10 (w : World) (a : Addr) (o0 o1 o2 o3 o4 o5 o6 o7 o8 o9 : Obj) (h : (w.cell? a).isSome = true) : ((((((((((w.alloc o0).alloc o1).alloc o2).alloc o3).alloc o4).alloc o5).alloc o6).alloc o7).alloc o8).alloc o9).cell? a = w.cell? a := by
  rw [cas1 _ _ _ (by rw [cas9 _ _ _ _ _ _ _ _ _ _ _ h]; exact h), cas9 _ _ _ _ _ _ _ _ _ _ _ h]
theorem fas10 (w : World) (a : Addr) (o0 o1 o2 o3 o4 o5 o6 o7 o8 o9 : Obj) (h : (w.cell? a).isSome = true) : ((((((((((w.alloc o0).alloc o1).alloc o2).alloc o3).alloc o4).alloc o5).alloc o6).alloc o7).alloc o8).alloc o9).frozen? a = w.frozen? a := by
  rw [fas1 _ _ _ (by rw [cas9 _ _ _ _ _ _ _ _ _ _ _ h]; exact h), fas9 _ _ _ _ _ _ _ _ _ _ _ h]
attribute [go_sem] cas1 fas1 cas2 fas2 cas3 fas3 cas4 fas4 cas5 fas5 cas6 fas6 cas7 fas7 cas8 fas8 cas9 fas9 cas10 fas10
theorem bcell {W w1 : World} (hb : Below W.heap.size W w1) : (∀ b o, b < W.heap.size → w1.cell? ⟨b, o, none⟩ = W.cell? ⟨b, o, none⟩) ∧ (∀ b o, b < W.heap.size → w1.frozen? ⟨b, o, none⟩ = W.frozen? ⟨b, o, none⟩) ∧ (∀ b, b < W.heap.size → b < w1.heap.size) ∧ (∀ b, b < W.heap.size → b < w1.heap.size + 1) ∧ (∀ b, b < W.heap.size → b < w1.heap.size + 1 + 1) ∧ (∀ b, b < W.heap.size → b < w1.heap.size + 1 + 1 + 1) ∧ (∀ b, b < W.heap.size → b < w1.heap.size + 1 + 1 + 1 + 1) ∧ (∀ b, b < W.heap.size → b < w1.heap.size + 1 + 1 + 1 + 1 + 1) ∧ (∀ b, b < W.heap.size → b < w1.heap.size + 1 + 1 + 1 + 1 + 1 + 1) ∧ (∀ b, b < W.heap.size → (b = w1.heap.size) = False) ∧ (∀ b, b < W.heap.size → (b = w1.heap.size + 1) = False) ∧ (∀ b, b < W.heap.size → (b = w1.heap.size + 1 + 1) = False) ∧ (∀ b, b < W.heap.size → (b = w1.heap.size + 1 + 1 + 1) = False) ∧ (∀ b, b < W.heap.size → (b = w1.heap.size + 1 + 1 + 1 + 1) = False) ∧ (∀ b, b < W.heap.size → (b = w1.heap.size + 1 + 1 + 1 + 1 + 1) = False) ∧ (∀ b, b < W.heap.size → (b = w1.heap.size + 1 + 1 + 1 + 1 + 1 + 1) = False) :=
  ⟨fun b o h => hb.cell (p := ⟨b, o, none⟩) h, fun b o h => hb.frozen (p := ⟨b, o, none⟩) h, fun b h => by have := hb.size; omega, fun b h => by have := hb.size; omega, fun b h => by have := hb.size; omega, fun b h => by have := hb.size; omega, fun b h => by have := hb.size; omega, fun b h => by have := hb.size; omega, fun b h => by have := hb.size; omega, fun b h => by have := hb.size; simp only [eq_iff_iff, iff_false]; omega, fun b h => by have := hb.size; simp only [eq_iff_iff, iff_false]; omega, fun b h => by have := hb.size; simp only [eq_iff_iff, iff_false]; omega, fun b h => by have := hb.size; simp only [eq_iff_iff, iff_false]; omega, fun b h => by have := hb.size; simp only [eq_iff_iff, iff_false]; omega, fun b h => by have := hb.size; simp only [eq_iff_iff, iff_false]; omega, fun b h => by have := hb.size; simp only [eq_iff_iff, iff_false]; omega⟩

/-- These cells hold these values. -/
def AllC (w : World) : List (Addr × Value) → Prop
  | [] => True
  | p :: r => w.cell? p.1 = some p.2 ∧ AllC w r
theorem keepC {W w1 : World} (hb : Below W.heap.size W w1) : ∀ {L : List (Addr × Value)}, AllC W L → AllC w1 L
  | [], _ => trivial
  | _ :: _, h => ⟨(hb.cell (World.block_lt_of_cell? W _ h.1)).trans h.1, keepC hb h.2⟩

def freeK (v : Int) : Bool := decide (v < 4611686018427387904)
def freeV (v : Int) : Int := if freeK v then v else 0

theorem free_any (v : Int) (w : World) : Calls Try.prog 8 #[.int .u64 v] w fun e w' => e = .returned (.tuple #[lk (freeV v) false 0, .bool (freeK v)]) ∧ w' = w.alloc (.cells #[.int .u64 (freeV v), .bool false, .int .i64 0] 24) := by
  by_cases hv : v < 4611686018427387904
  · have e1 : freeV v = v := by simp [freeV, freeK, hv]
    have e2 : freeK v = true := by simp [freeK, hv]
    rw [e1, e2]
    clear e1 e2
    go_enter Try.func8, Try.ntmps8
    go_wp2
    exact bodyPost_ret (v := .tuple #[lk v false 0, .bool true]) (by simp [results, Try.results8, go_sem]) rfl ⟨rfl, rfl⟩
  · have e1 : freeV v = 0 := by simp [freeV, freeK, hv]
    have e2 : freeK v = false := by simp [freeK, hv]
    rw [e1, e2]
    clear e1 e2
    go_enter Try.func8, Try.ntmps8
    go_wp2
    exact bodyPost_ret (v := .tuple #[lk 0 false 0, .bool false]) (by simp [results, Try.results8, go_sem]) rfl ⟨rfl, rfl⟩

theorem mayHold_any (o : Int) (w : World) : Calls Try.prog 22 #[.int .i64 o] w fun e w' => e = .returned (.bool (mh o)) ∧ w = w' := by
  by_cases h : 0 ≤ o
  · by_cases h2 : o < 4
    · go_enter Try.func22, Try.ntmps22
      go_wp2
      go_ret
      exact ⟨by simp [mh, h, h2], rfl⟩
    · go_enter Try.func22, Try.ntmps22
      go_wp2
      go_ret
      exact ⟨by simp [mh, h, h2], rfl⟩
  · go_enter Try.func22, Try.ntmps22
    go_wp2
    go_ret
    exact ⟨by simp [mh]; omega, rfl⟩

theorem is_any (v : Int) (h : Bool) (o : Int) (w : World) : Calls Try.prog 13 #[lk v h o] w fun e w' => e = .returned (.bool (isB v h o)) ∧ w' = w.alloc (.cells #[.int .u64 v, .bool h, .int .i64 o] 24) := by
  by_cases hv : v < 4611686018427387904
  · cases h
    · go_enter Try.func13, Try.ntmps13
      go_wp2
      go_ret
      exact ⟨by simp [isB, hv], rfl⟩
    · go_enter Try.func13, Try.ntmps13
      go_wp2_with (go_at_call 22; refine (mayHold_any _ _).mono ?_; rintro e w' ⟨rfl, rfl⟩)
      go_ret
      exact ⟨by simp [isB, hv], rfl⟩
  · go_enter Try.func13, Try.ntmps13
    go_wp2
    go_ret
    exact ⟨by simp [isB]; omega, rfl⟩

def takeK (v : Int) (h : Bool) (o n : Int) : Bool := isB v h o && (!h && mh n)
def takeV (v : Int) (h : Bool) (o n : Int) : Int := if takeK v h o n then v else 0
def takeO (v : Int) (h : Bool) (o n : Int) : Int := if takeK v h o n then n else 0
def dropK (v : Int) (h : Bool) (o n : Int) : Bool := isB v h o && h && decide (v ≤ n) && decide (n < 4611686018427387904)
def dropV (v : Int) (h : Bool) (o n : Int) : Int := if dropK v h o n then n else 0
def fitsB (v : Int) (h : Bool) (o s : Int) : Bool := isB v h o && !h && decide (v ≤ s)
end Go.Proofs.Ytekndgioebfmbaa
