/- Contracts of package clock. -/

import Derived.Test.YtbggbmcijhnijaaRows
import Derived.WalkKit
import Derived.ProofKit
import Derived.OpenShut
import Derived.ShutString
import Derived.ChangeOld
import Derived.Below
import Derived.Lib.Hide
import Derived.BigQuiet
import Derived.Deep.QuietTactic
import Derived.Deep.RegionWith
import Derived.Deep.Draws
import Derived.Outline
import Derived.Handy
namespace Go.Proofs.Ytbggbmcijhnijaa
open Go.ChangeShapes Go.WideShapes Go.ChangeAt Go.RowKit
open Go.ChangeMaps (open_string shut_string)
set_option linter.unusedVariables false
theorem cas1 (w : World) (a : Addr) (o0 : Obj) (h : (w.cell? a).isSome = true) : (w.alloc o0).cell? a = w.cell? a := by
  obtain ⟨u, hu⟩ := Option.isSome_iff_exists.1 h
  exact World.cell?_alloc_lt _ _ _ (World.block_lt_of_cell? w a hu)
theorem fas1 (w : World) (a : Addr) (o0 : Obj) (h : (w.cell? a).isSome = true) : (w.alloc o0).frozen? a = w.frozen? a := by
  obtain ⟨u, hu⟩ := Option.isSome_iff_exists.1 h
  have := World.block_lt_of_cell? w a hu
  exact World.frozen?_alloc_old _ _ _ (by omega)
theorem cas2 (w : World) (a : Addr) (o0 o1 : Obj) (h : (w.cell? a).isSome = true) : ((w.alloc o0).alloc o1).cell? a = w.cell? a := by
  rw [cas1 _ _ _ (by rw [cas1 _ _ _ h]; exact h), cas1 _ _ _ h]
theorem fas2 (w : World) (a : Addr) (o0 o1 : Obj) (h : (w.cell? a).isSome = true) : ((w.alloc o0).alloc o1).frozen? a = w.frozen? a := by
  rw [fas1 _ _ _ (by rw [cas1 _ _ _ h]; exact h), fas1 _ _ _ h]
theorem cas3 (w : World) (a : Addr) (o0 o1 o2 : Obj) (h : (w.cell? a).isSome = true) : (((w.alloc o0).alloc o1).alloc o2).cell? a = w.cell? a := by
  rw [cas1 _ _ _ (by rw [cas2 _ _ _ _ h]; exact h), cas2 _ _ _ _ h]
theorem fas3 (w : World) (a : Addr) (o0 o1 o2 : Obj) (h : (w.cell? a).isSome = true) : (((w.alloc o0).alloc o1).alloc o2).frozen? a = w.frozen? a := by
  rw [fas1 _ _ _ (by rw [cas2 _ _ _ _ h]; exact h), fas2 _ _ _ _ h]
theorem cas4 (w : World) (a : Addr) (o0 o1 o2 o3 : Obj) (h : (w.cell? a).isSome = true) : ((((w.alloc o0).alloc o1).alloc o2).alloc o3).cell? a = w.cell? a := by
  rw [cas1 _ _ _ (by rw [cas3 _ _ _ _ _ h]; exact h), cas3 _ _ _ _ _ h]
theorem fas4 (w : World) (a : Addr) (o0 o1 o2 o3 : Obj) (h : (w.cell? a).isSome = true) : ((((w.alloc o0).alloc o1).alloc o2).alloc o3).frozen? a = w.frozen? a := by
  rw [fas1 _ _ _ (by rw [cas3 _ _ _ _ _ h]; exact h), fas3 _ _ _ _ _ h]
theorem cas5 (w : World) (a : Addr) (o0 o1 o2 o3 o4 : Obj) (h : (w.cell? a).isSome = true) : (((((w.alloc o0).alloc o1).alloc o2).alloc o3).alloc o4).cell? a = w.cell? a := by
  rw [cas1 _ _ _ (by rw [cas4 _ _ _ _ _ _ h]; exact h), cas4 _ _ _ _ _ _ h]
theorem fas5 (w : World) (a : Addr) (o0 o1 o2 o3 o4 : Obj) (h : (w.cell? a).isSome = true) : (((((w.alloc o0).alloc o1).alloc o2).alloc o3).alloc o4).frozen? a = w.frozen? a := by
  rw [fas1 _ _ _ (by rw [cas4 _ _ _ _ _ _ h]; exact h), fas4 _ _ _ _ _ _ h]
theorem cas6 (w : World) (a : Addr) (o0 o1 o2 o3 o4 o5 : Obj) (h : (w.cell? a).isSome = true) : ((((((w.alloc o0).alloc o1).alloc o2).alloc o3).alloc o4).alloc o5).cell? a = w.cell? a := by
  rw [cas1 _ _ _ (by rw [cas5 _ _ _ _ _ _ _ h]; exact h), cas5 _ _ _ _ _ _ _ h]
theorem fas6 (w : World) (a : Addr) (o0 o1 o2 o3 o4 o5 : Obj) (h : (w.cell? a).isSome = true) : ((((((w.alloc o0).alloc o1).alloc o2).alloc o3).alloc o4).alloc o5).frozen? a = w.frozen? a := by
  rw [fas1 _ _ _ (by rw [cas5 _ _ _ _ _ _ _ h]; exact h), fas5 _ _ _ _ _ _ _ h]
theorem cas7 (w : World) (a : Addr) (o0 o1 o2 o3 o4 o5 o6 : Obj) (h : (w.cell? a).isSome = true) : (((((((w.alloc o0).alloc o1).alloc o2).alloc o3).alloc o4).alloc o5).alloc o6).cell? a = w.cell? a := by
  rw [cas1 _ _ _ (by rw [cas6 _ _ _ _ _ _ _ _ h]; exact h), cas6 _ _ _ _ _ _ _ _ h]
theorem fas7 (w : World) (a : Addr) (o0 o1 o2 o3 o4 o5 o6 : Obj) (h : (w.cell? a).isSome = true) : (((((((w.alloc o0).alloc o1).alloc o2).alloc o3).alloc o4).alloc o5).alloc o6).frozen? a = w.frozen? a := by
  rw [fas1 _ _ _ (by rw [cas6 _ _ _ _ _ _ _ _ h]; exact h), fas6 _ _ _ _ _ _ _ _ h]
theorem cas8 (w : World) (a : Addr) (o0 o1 o2 o3 o4 o5 o6 o7 : Obj) (h : (w.cell? a).isSome = true) : ((((((((w.alloc o0).alloc o1).alloc o2).alloc o3).alloc o4).alloc o5).alloc o6).alloc o7).cell? a = w.cell? a := by
  rw [cas1 _ _ _ (by rw [cas7 _ _ _ _ _ _ _ _ _ h]; exact h), cas7 _ _ _ _ _ _ _ _ _ h]
theorem fas8 (w : World) (a : Addr) (o0 o1 o2 o3 o4 o5 o6 o7 : Obj) (h : (w.cell? a).isSome = true) : ((((((((w.alloc o0).alloc o1).alloc o2).alloc o3).alloc o4).alloc o5).alloc o6).alloc o7).frozen? a = w.frozen? a := by
  rw [fas1 _ _ _ (by rw [cas7 _ _ _ _ _ _ _ _ _ h]; exact h), fas7 _ _ _ _ _ _ _ _ _ h]
theorem cas9 (w : World) (a : Addr) (o0 o1 o2 o3 o4 o5 o6 o7 o8 : Obj) (h : (w.cell? a).isSome = true) : (((((((((w.alloc o0).alloc o1).alloc o2).alloc o3).alloc o4).alloc o5).alloc o6).alloc o7).alloc o8).cell? a = w.cell? a := by
  rw [cas1 _ _ _ (by rw [cas8 _ _ _ _ _ _ _ _ _ _ h]; exact h), cas8 _ _ _ _ _ _ _ _ _ _ h]
theorem fas9 (w : World) (a : Addr) (o0 o1 o2 o3 o4 o5 o6 o7 o8 : Obj) (h : (w.cell? a).isSome = true) : (((((((((w.alloc o0).alloc o1).alloc o2).alloc o3).alloc o4).alloc o5).alloc o6).alloc o7).alloc o8).frozen? a = w.frozen? a := by
  rw [fas1 _ _ _ (by rw [cas8 _ _ _ _ _ _ _ _ _ _ h]; exact h), fas8 _ _ _ _ _ _ _ _ _ _ h]
theorem cas10 (w : World) (a : Addr) (o0 o1 o2 o3 o4 o5 o6 o7 o8 o9 : Obj) (h : (w.cell? a).isSome = true) : ((((((((((w.alloc o0).alloc o1).alloc o2).alloc o3).alloc o4).alloc o5).alloc o6).alloc o7).alloc o8).alloc o9).cell? a = w.cell? a := by
  rw [cas1 _ _ _ (by rw [cas9 _ _ _ _ _ _ _ _ _ _ _ h]; exact h), cas9 _ _ _ _ _ _ _ _ _ _ _ h]
theorem fas10 (w : World) (a : Addr) (o0 o1 o2 o3 o4 o5 o6 o7 o8 o9 : Obj) (h : (w.cell? a).isSome = true) : ((((((((((w.alloc o0).alloc o1).alloc o2).alloc o3).alloc o4).alloc o5).alloc o6).alloc o7).alloc o8).alloc o9).frozen? a = w.frozen? a := by
  rw [fas1 _ _ _ (by rw [cas9 _ _ _ _ _ _ _ _ _ _ _ h]; exact h), fas9 _ _ _ _ _ _ _ _ _ _ _ h]
attribute [go_sem] cas1 fas1 cas2 fas2 cas3 fas3 cas4 fas4 cas5 fas5 cas6 fas6 cas7 fas7 cas8 fas8 cas9 fas9 cas10 fas10
theorem bcell {W w1 : World} (hb : Below W.heap.size W w1) : (∀ b o, b < W.heap.size → w1.cell? ⟨b, o, none⟩ = W.cell? ⟨b, o, none⟩) ∧ (∀ b o, b < W.heap.size → w1.frozen? ⟨b, o, none⟩ = W.frozen? ⟨b, o, none⟩) ∧ (∀ b, b < W.heap.size → b < w1.heap.size) ∧ (∀ b, b < W.heap.size → b < w1.heap.size + 1) ∧ (∀ b, b < W.heap.size → b < w1.heap.size + 1 + 1) ∧ (∀ b, b < W.heap.size → b < w1.heap.size + 1 + 1 + 1) ∧ (∀ b, b < W.heap.size → b < w1.heap.size + 1 + 1 + 1 + 1) ∧ (∀ b, b < W.heap.size → b < w1.heap.size + 1 + 1 + 1 + 1 + 1) ∧ (∀ b, b < W.heap.size → b < w1.heap.size + 1 + 1 + 1 + 1 + 1 + 1) ∧ (∀ b, b < W.heap.size → (b = w1.heap.size) = False) ∧ (∀ b, b < W.heap.size → (b = w1.heap.size + 1) = False) ∧ (∀ b, b < W.heap.size → (b = w1.heap.size + 1 + 1) = False) ∧ (∀ b, b < W.heap.size → (b = w1.heap.size + 1 + 1 + 1) = False) ∧ (∀ b, b < W.heap.size → (b = w1.heap.size + 1 + 1 + 1 + 1) = False) ∧ (∀ b, b < W.heap.size → (b = w1.heap.size + 1 + 1 + 1 + 1 + 1) = False) ∧ (∀ b, b < W.heap.size → (b = w1.heap.size + 1 + 1 + 1 + 1 + 1 + 1) = False) :=
  ⟨fun b o h => hb.cell (p := ⟨b, o, none⟩) h, fun b o h => hb.frozen (p := ⟨b, o, none⟩) h, fun b h => by have := hb.size; omega, fun b h => by have := hb.size; omega, fun b h => by have := hb.size; omega, fun b h => by have := hb.size; omega, fun b h => by have := hb.size; omega, fun b h => by have := hb.size; omega, fun b h => by have := hb.size; omega, fun b h => by have := hb.size; simp only [eq_iff_iff, iff_false]; omega, fun b h => by have := hb.size; simp only [eq_iff_iff, iff_false]; omega, fun b h => by have := hb.size; simp only [eq_iff_iff, iff_false]; omega, fun b h => by have := hb.size; simp only [eq_iff_iff, iff_false]; omega, fun b h => by have := hb.size; simp only [eq_iff_iff, iff_false]; omega, fun b h => by have := hb.size; simp only [eq_iff_iff, iff_false]; omega, fun b h => by have := hb.size; simp only [eq_iff_iff, iff_false]; omega⟩

/-- These cells hold these values. -/
def AllC (w : World) : List (Addr × Value) → Prop
  | [] => True
  | p :: r => w.cell? p.1 = some p.2 ∧ AllC w r
theorem keepC {W w1 : World} (hb : Below W.heap.size W w1) : ∀ {L : List (Addr × Value)}, AllC W L → AllC w1 L
  | [], _ => trivial
  | _ :: _, h => ⟨(hb.cell (World.block_lt_of_cell? W _ h.1)).trans h.1, keepC hb h.2⟩

theorem setCell_drewN (w : World) (n : Nat) (a : Addr) (v : Value) : (w.drewN n).setCell a v = (w.setCell a v).drewN n := rfl
theorem alloc_drewN (w : World) (n : Nat) (o : Obj) : (w.drewN n).alloc o = (w.alloc o).drewN n := rfl
theorem below_drewN {B : Nat} {a w : World} (h : Below B a w) (n : Nat) : Below B a (w.drewN n) := ⟨h.os, h.tape, h.output, h.size, h.block⟩
attribute [go_sem] setCell_drewN alloc_drewN

/-- A world that keeps what W holds: x, if it does; else W. -/
noncomputable def wext (W x : World) : World := by
  classical
  exact if Below W.heap.size W x then x else W
theorem below_wext (W x : World) : Below W.heap.size W (wext W x) := by
  classical
  unfold wext
  split
  · assumption
  · exact Below.refl _ _
theorem wext_of {W w : World} (h : Below W.heap.size W w) : w = wext W w := by
  classical
  unfold wext
  rw [if_pos h]
theorem wext_cell (W x : World) (a : Addr) (h : (W.cell? a).isSome = true) : (wext W x).cell? a = W.cell? a := by
  obtain ⟨u, hu⟩ := Option.isSome_iff_exists.1 h
  exact (below_wext W x).cell (World.block_lt_of_cell? W a hu)
theorem wext_frozen (W x : World) (a : Addr) (h : (W.cell? a).isSome = true) : (wext W x).frozen? a = W.frozen? a := by
  obtain ⟨u, hu⟩ := Option.isSome_iff_exists.1 h
  exact (below_wext W x).frozen (World.block_lt_of_cell? W a hu)
attribute [go_sem] wext_cell wext_frozen
/-- A region that draws its order, whose operations only read, and whose callees keep what there is: one walk, in the order of the text. -/
theorem wp_region_ext {P : Program} {id : Nat} {Q : Exit → Act → World → Prop} {a : Act} {w : World} {l : List Oper} (hm : P.follows .mixedOrders = true) (hB : Region.lexB .any l.toArray = true)
    (h : wpQuiet P l.toArray (fun w' => ∃ x, w' = wext w x) (fun a' => ∀ w', (∃ x, w' = wext w x) → Q .normal a' w') l a) : (Code.region id l.toArray true).wp P Q a w :=
  wp_region_quiet (C := fun w' => ∃ x, w' = wext w x) hm hB ⟨_, wext_of (⟨rfl, rfl, rfl, Nat.le_refl _, fun _ _ => rfl⟩ : Below w.heap.size w { w with drawn := w.drawn + 1 })⟩ (by simpa using h)
theorem ext_of {P : Program} {f : FuncId} {args : Array Value} {W x : World} {v : Value} (h : Calls P f args (wext W x) fun e w' => e = .returned v ∧ Below (wext W x).heap.size (wext W x) w') :
    Calls P f args (wext W x) fun e w'' => e = .returned v ∧ ∃ y, w'' = wext W y :=
  h.mono fun _ _ ⟨he, hb⟩ => ⟨he, _, wext_of ((below_wext W x).trans (hb.mono (below_wext W x).size))⟩
theorem ext_alloc {P : Program} {f : FuncId} {args : Array Value} {W x : World} {v : Value} {o : Obj} (h : Calls P f args (wext W x) fun e w' => e = .returned v ∧ w' = (wext W x).alloc o) :
    Calls P f args (wext W x) fun e w'' => e = .returned v ∧ ∃ y, w'' = wext W y :=
  ext_of (h.mono fun _ _ ⟨he, hb⟩ => ⟨he, hb ▸ (Below.refl _ _).alloc (Nat.le_refl _) _⟩)
theorem ext_gen (W x : World) : ∃ w', w' = wext W x ∧ Below W.heap.size W w' := ⟨_, rfl, below_wext W x⟩

abbrev ptr (b : Nat) : Value := .pointer (some ⟨b, 0, none⟩)
def M62 : Int := 4611686018427387904
def capC (s : Int) : Int := if s < 4611686018427387904 then s else 4611686018427387903
theorem new_any (s : Int) (w : World) : Calls Try.prog 8 #[.int .u64 s] w fun e w' => e = .returned (ptr w.heap.size) ∧ w' = w.alloc (.cells #[.int .u64 (capC s)] 49) := by
  by_cases h : s < 4611686018427387904
  · have e : capC s = s := by simp [capC, h]
    have hm : (4611686018427387903 : Int) < s ↔ False := by simp; omega
    rw [e]
    clear e
    go_enter Try.func8, Try.ntmps8
    go_wp2
    go_ret
    exact ⟨rfl, rfl⟩
  · have e : capC s = 4611686018427387903 := by simp [capC, h]
    have hm : (4611686018427387903 : Int) < s := by omega
    rw [e]
    clear e
    go_enter Try.func8, Try.ntmps8
    go_wp2
    go_ret
    exact ⟨rfl, rfl⟩
theorem load_any (b : Nat) (n : Int) (w : World) (hc : w.cell? ⟨b, 0, none⟩ = some (.int .u64 n)) : Calls Try.prog 10 #[ptr b] w fun e w' => e = .returned (.int .u64 n) ∧ w = w' := by
  go_enter Try.func10, Try.ntmps10
  go_wp2
  go_ret
  exact ⟨rfl, rfl⟩
theorem copy_any (b : Nat) (n : Int) (w : World) (hc : w.cell? ⟨b, 0, none⟩ = some (.int .u64 n)) : Calls Try.prog 11 #[ptr b] w fun e w' => e = .returned (ptr w.heap.size) ∧ w' = w.alloc (.cells #[.int .u64 n] 49) := by
  go_enter Try.func11, Try.ntmps11
  go_wp2
  go_ret
  exact ⟨rfl, rfl⟩
def casD (cur old now : Int) : Bool := decide (old < now) && (decide (now < 4611686018427387904) && (cur == old))
def casE (old now : Int) : Int := if now ≤ old then 1 else if now < 4611686018427387904 then 0 else 7
theorem cas_yes (b : Nat) (n old now : Int) (w : World) (hc : w.cell? ⟨b, 0, none⟩ = some (.int .u64 n)) (hf : w.frozen? ⟨b, 0, none⟩ = false) (hD : casD n old now = true) :
    Calls Try.prog 9 #[ptr b, .int .u64 old, .int .u64 now] w fun e w' => e = .returned (.tuple #[.bool true, .int .i64 0]) ∧ w' = w.setCell ⟨b, 0, none⟩ (.int .u64 now) := by
  simp only [casD, Bool.and_eq_true, decide_eq_true_eq, beq_iff_eq] at hD
  obtain ⟨h1, h2, rfl⟩ := hD
  go_enter Try.func9, Try.ntmps9
  go_wp2
  go_ret2
  exact ⟨rfl, rfl⟩
theorem cas_no (b : Nat) (n old now : Int) (w : World) (hc : w.cell? ⟨b, 0, none⟩ = some (.int .u64 n)) (hD : casD n old now = false) :
    Calls Try.prog 9 #[ptr b, .int .u64 old, .int .u64 now] w fun e w' => e = .returned (.tuple #[.bool false, .int .i64 (casE old now)]) ∧ w = w' := by
  by_cases h1 : now ≤ old
  · have e : casE old now = 1 := by simp [casE, h1]
    rw [e]
    clear e hD
    go_enter Try.func9, Try.ntmps9
    go_wp2
    go_ret2
    exact ⟨rfl, rfl⟩
  · by_cases h2 : now < 4611686018427387904
    · have e : casE old now = 0 := by simp [casE, h1, h2]
      have h3 : (n == old) = false := by
        cases hh : n == old
        · rfl
        · simp [casD, hh, h2] at hD; omega
      rw [e]
      clear e hD
      go_enter Try.func9, Try.ntmps9
      go_wp2
      go_ret2
      exact ⟨rfl, rfl⟩
    · have e : casE old now = 7 := by simp [casE, h1, h2]
      rw [e]
      clear e hD
      go_enter Try.func9, Try.ntmps9
      go_wp2
      go_ret2
      exact ⟨rfl, rfl⟩
set_option maxHeartbeats 1000000 in
theorem runs_any (w : World) : Calls Try.prog 3 #[] w fun e w' => e = .returned (.bool true) ∧ Below w.heap.size w w' := by
  have e0 : capC 5 = 5 := by decide
  go_enter Try.func3, Try.ntmps3
  go_wp2_with (first | (go_at_call 8; (with_reducible refine (new_any _ _).mono ?_); rintro e w' ⟨rfl, rfl⟩))
  go_wp2_with (first | (go_at_call 9; (with_reducible refine (cas_yes _ 5 5 6 _ (by simp [*]) (by simp) (by decide)).mono ?_); rintro e w' ⟨rfl, rfl⟩))
  go_wp2_with (first | (go_at_call 9; (with_reducible refine (cas_no _ 6 5 7 _ (by simp) (by decide)).mono ?_); rintro e w' ⟨rfl, rfl⟩))
  go_wp2_with (first | (go_at_call 9; (with_reducible refine (cas_no _ 6 6 6 _ (by simp) (by decide)).mono ?_); rintro e w' ⟨rfl, rfl⟩))
  have e1 : casE 5 7 = 0 := by decide
  have e2 : casE 6 6 = 1 := by decide
  go_wp2_with (first | (go_at_call 10; (with_reducible refine (load_any _ 6 _ (by simp)).mono ?_); rintro e w' ⟨rfl, rfl⟩))
  go_wp2_with (first | (go_at_call 11; (with_reducible refine (copy_any _ 6 _ (by simp)).mono ?_); rintro e w' ⟨rfl, rfl⟩))
  go_outline
  go_ret
  refine ⟨rfl, ?_⟩
  repeat (first | exact Below.refl _ _ | refine Below.setCell ?_ (by first | (simp; done) | (simp; omega)) _ | refine Below.alloc ?_ (by first | (simp; done) | (simp; omega)) _ | refine Below.drew ?_ | (refine Below.trans ?_ (Below.mono (by assumption) ?_); rotate_left; (first | (simp; done) | (simp; omega) | (simp [*]; omega))))
end Go.Proofs.Ytbggbmcijhnijaa
