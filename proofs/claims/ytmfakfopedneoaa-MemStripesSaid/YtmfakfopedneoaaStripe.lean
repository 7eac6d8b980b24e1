/- Contracts of package stripe. -/

import Derived.Test.YtmfakfopedneoaaRows
import Derived.WalkKit
import Derived.ProofKit
import Derived.OpenShut
import Derived.ShutString
import Derived.ChangeOld
import Derived.Below
import Derived.Lib.Hide
import Derived.BigQuiet
import Derived.Deep.QuietTactic
import Derived.Deep.RegionWith
import Derived.RegionTactic
import Derived.Deep.Draws
import Derived.Outline
import Derived.Handy
import Derived.Lib.LazyBuf
import Derived.Laws.OwnMore
namespace Go.Proofs.Ytmfakfopedneoaa
open Go.ChangeShapes Go.WideShapes Go.ChangeAt Go.RowKit
open Go.ChangeMaps (open_string shut_string)
set_option linter.unusedVariables false
theorem cas1 (w : World) (a : Addr) (o0 : Obj) (h : (w.cell? a).isSome = true) : (w.alloc o0).cell? a = w.cell? a := by
  obtain ⟨u, hu⟩ := Option.isSome_iff_exists.1 h
  exact World.cell?_alloc_lt _ _ _ (World.block_lt_of_cell? w a hu)
theorem fas1 (w : World) (a : Addr) (o0 : Obj) (h : (w.cell? a).isSome = true) : (w.alloc o0).frozen? a = w.frozen? a := by
  obtain ⟨u, hu⟩ := Option.isSome_iff_exists.1 h
  have := World.block_lt_of_cell? w a hu
  exact World.frozen?_alloc_old _ _ _ (by omega)
theorem cas2 (w : World) (a : Addr) (o0 o1 : Obj) (h : (w.cell? a).isSome = true) : ((w.alloc o0).alloc o1).cell? a = w.cell? a := by
  rw [cas1 _ _ _ (by rw [cas1 _ _ _ h]; exact h), cas1 _ _ _ h]
theorem fas2 (w : World) (a : Addr) (o0 o1 : Obj) (h : (w.cell? a).isSome = true) : ((w.alloc o0).alloc o1).frozen? a = w.frozen? a := by
  rw [fas1 _ _ _ (by rw [cas1 _ _ _ h]; exact h), fas1 _ _ _ h]
theorem cas3 (w : World) (a : Addr) (o0 o1 o2 : Obj) (h : (w.cell? a).isSome = true) : (((w.alloc o0).alloc o1).alloc o2).cell? a = w.cell? a := by
  rw [cas1 _ _ _ (by rw [cas2 _ _ _ _ h]; exact h), cas2 _ _ _ _ h]
theorem fas3 (w : World) (a : Addr) (o0 o1 o2 : Obj) (h : (w.cell? a).isSome = true) : (((w.alloc o0).alloc o1).alloc o2).frozen? a = w.frozen? a := by
  rw [fas1 _ _ _ (by rw [cas2 _ _ _ _ h]; exact h), fas2 _ _ _ _ h]
theorem cas4 (w : World) (a : Addr) (o0 o1 o2 o3 : Obj) (h : (w.cell? a).isSome = true) : ((((w.alloc o0).alloc o1).alloc o2).alloc o3).cell? a = w.cell? a := by
  rw [cas1 _ _ _ (by rw [cas3 _ _ _ _ _ h]; exact h), cas3 _ _ _ _ _ h]
theorem fas4 (w : World) (a : Addr) (o0 o1 o2 o3 : Obj) (h : (w.cell? a).isSome = true) : ((((w.alloc o0).alloc o1).alloc o2).alloc o3).frozen? a = w.frozen? a := by
  rw [fas1 _ _ _ (by rw [cas3 _ _ _ _ _ h]; exact h), fas3 _ _ _ _ _ h]
theorem cas5 (w : World) (a : Addr) (o0 o1 o2 o3 o4 : Obj) (h : (w.cell? a).isSome = true) : (((((w.alloc o0).alloc o1).alloc o2).alloc o3).alloc o4).cell? a = w.cell? a := by
  rw [cas1 _ _ _ (by rw [cas4 _ _ _ _ _ _ h]; exact h), cas4 _ _ _ _ _ _ h]
theorem fas5 (w : World) (a : Addr) (o0 o1 o2 o3 o4 : Obj) (h : (w.cell? a).isSome = true) : (((((w.alloc o0).alloc o1).alloc o2).alloc o3).alloc o4).frozen? a = w.frozen? a := by
  rw [fas1 _ _ _ (by rw [cas4 _ _ _ _ _ _ h]; exact h), fas4 _ _ _ _ _ _ h]
theorem cas6 (w : World) (a : Addr) (o0 o1 o2 o3 o4 o5 : Obj) (h : (w.cell? a).isSome = true) : ((((((w.alloc o0).alloc o1).alloc o2).alloc o3).alloc o4).alloc o5).cell? a = w.cell? a := by
  rw [cas1 _ _ _ (by rw [cas5 _ _ _ _ _ _ _ h]; exact h), cas5 _ _ _ _ _ _ _ h]
theorem fas6 (w : World) (a : Addr) (o0 o1 o2 o3 o4 o5 : Obj) (h : (w.cell? a).isSome = true) : ((((((w.alloc o0).alloc o1).alloc o2).alloc o3).alloc o4).alloc o5).frozen? a = w.frozen? a := by
  rw [fas1 _ _ _ (by rw [cas5 _ _ _ _ _ _ _ h]; exact h), fas5 _ _ _ _ _ _ _ h]
theorem cas7 (w : World) (a : Addr) (o0 o1 o2 o3 o4 o5 o6 : Obj) (h : (w.cell? a).isSome = true) : (((((((w.alloc o0).alloc o1).alloc o2).alloc o3).alloc o4).alloc o5).alloc o6).cell? a = w.cell? a := by
  rw [cas1 _ _ _ (by rw [cas6 _ _ _ _ _ _ _ _ h]; exact h), cas6 _ _ _ _ _ _ _ _ h]
theorem fas7 (w : World) (a : Addr) (o0 o1 o2 o3 o4 o5 o6 : Obj) (h : (w.cell? a).isSome = true) : (((((((w.alloc o0).alloc o1).alloc o2).alloc o3).alloc o4).alloc o5).alloc o6).frozen? a = w.frozen? a := by
  rw [fas1 _ _ _ (by rw [cas6 _ _ _ _ _ _ _ _ h]; exact h), fas6 _ _ _ _ _ _ _ _ h]
theorem cas8 (w : World) (a : Addr) (o0 o1 o2 o3 o4 o5 o6 o7 : Obj) (h : (w.cell? a).isSome = true) : ((((((((w.alloc o0).alloc o1).alloc o2).alloc o3).alloc o4).alloc o5).alloc o6).alloc o7).cell? a = w.cell? a := by
  rw [cas1 _ _ _ (by rw [cas7 _ _ _ _ _ _ _ _ _ h]; exact h), cas7 _ _ _ _ _ _ _ _ _ h]
theorem fas8 (w : World) (a : Addr) (o0 o1 o2 o3 o4 o5 o6 o7 : Obj) (h : (w.cell? a).isSome = true) : ((((((((w.alloc o0).alloc o1).alloc o2).alloc o3).alloc o4).alloc o5).alloc o6).alloc o7).frozen? a = w.frozen? a := by
  rw [fas1 _ _ _ (by rw [cas7 _ _ _ _ _ _ _ _ _ h]; exact h), fas7 _ _ _ _ _ _ _ _ _ h]
theorem cas9 (w : World) (a : Addr) (o0 o1 o2 o3 o4 o5 o6 o7 o8 : Obj) (h : (w.cell? a).isSome = true) : (((((((((w.alloc o0).alloc o1).alloc o2).alloc o3).alloc o4).alloc o5).alloc o6).alloc o7).alloc o8).cell? a = w.cell? a := by
  rw [cas1 _ _ _ (by rw [cas8 _ _ _ _ _ _ _ _ _ _ h]; exact h), cas8 _ _ _ _ _ _ _ _ _ _ h]
theorem fas9 (w : World) (a : Addr) (o0 o1 o2 o3 o4 o5 o6 o7 o8 : Obj) (h : (w.cell? a).isSome = true) : (((((((((w.alloc o0).alloc o1).alloc o2).alloc o3).alloc o4).alloc o5).alloc o6).alloc o7).alloc o8).frozen? a = w.frozen? a := by
  rw [fas1 _ _ _ (by rw [cas8 _ _ _ _ _ _ _ _ _ _ h]; exact h), fas8 _ _ _ _ _ _ _ _ _ _ h]
theorem cas10 (w : World) (a : Addr) (o0 o1 o2 o3 o4 o5 o6 o7 o8 o9 : Obj) (h : (w.cell? a).isSome = true) : ((((((((((w.alloc o0).alloc o1).alloc o2).alloc o3).alloc o4).alloc o5).alloc o6).alloc o7).alloc o8).alloc o9).cell? a = w.cell? a := by
  rw [cas1 _ _ _ (by rw [cas9 _ _ _ _ _ _ _ _ _ _ _ h]; exact h), cas9 _ _ _ _ _ _ _ _ _ _ _ h]
theorem fas10 (w : World) (a : Addr) (o0 o1 o2 o3 o4 o5 o6 o7 o8 o9 : Obj) (h : (w.cell? a).isSome = true) : ((((((((((w.alloc o0).alloc o1).alloc o2).alloc o3).alloc o4).alloc o5).alloc o6).alloc o7).alloc o8).alloc o9).frozen? a = w.frozen? a := by
  rw [fas1 _ _ _ (by rw [cas9 _ _ _ _ _ _ _ _ _ _ _ h]; exact h), fas9 _ _ _ _ _ _ _ _ _ _ _ h]
attribute [go_sem] cas1 fas1 cas2 fas2 cas3 fas3 cas4 fas4 cas5 fas5 cas6 fas6 cas7 fas7 cas8 fas8 cas9 fas9 cas10 fas10
theorem bcell {W w1 : World} (hb : Below W.heap.size W w1) : (∀ b o, b < W.heap.size → w1.cell? ⟨b, o, none⟩ = W.cell? ⟨b, o, none⟩) ∧ (∀ b o, b < W.heap.size → w1.frozen? ⟨b, o, none⟩ = W.frozen? ⟨b, o, none⟩) ∧ (∀ b, b < W.heap.size → b < w1.heap.size) ∧ (∀ b, b < W.heap.size → b < w1.heap.size + 1) ∧ (∀ b, b < W.heap.size → b < w1.heap.size + 1 + 1) ∧ (∀ b, b < W.heap.size → b < w1.heap.size + 1 + 1 + 1) ∧ (∀ b, b < W.heap.size → b < w1.heap.size + 1 + 1 + 1 + 1) ∧ (∀ b, b < W.heap.size → b < w1.heap.size + 1 + 1 + 1 + 1 + 1) ∧ (∀ b, b < W.heap.size → b < w1.heap.size + 1 + 1 + 1 + 1 + 1 + 1) ∧ (∀ b, b < W.heap.size → (b = w1.heap.size) = False) ∧ (∀ b, b < W.heap.size → (b = w1.heap.size + 1) = False) ∧ (∀ b, b < W.heap.size → (b = w1.heap.size + 1 + 1) = False) ∧ (∀ b, b < W.heap.size → (b = w1.heap.size + 1 + 1 + 1) = False) ∧ (∀ b, b < W.heap.size → (b = w1.heap.size + 1 + 1 + 1 + 1) = False) ∧ (∀ b, b < W.heap.size → (b = w1.heap.size + 1 + 1 + 1 + 1 + 1) = False) ∧ (∀ b, b < W.heap.size → (b = w1.heap.size + 1 + 1 + 1 + 1 + 1 + 1) = False) :=
  ⟨fun b o h => hb.cell (p := ⟨b, o, none⟩) h, fun b o h => hb.frozen (p := ⟨b, o, none⟩) h, fun b h => by have := hb.size; omega, fun b h => by have := hb.size; omega, fun b h => by have := hb.size; omega, fun b h => by have := hb.size; omega, fun b h => by have := hb.size; omega, fun b h => by have := hb.size; omega, fun b h => by have := hb.size; omega, fun b h => by have := hb.size; simp only [eq_iff_iff, iff_false]; omega, fun b h => by have := hb.size; simp only [eq_iff_iff, iff_false]; omega, fun b h => by have := hb.size; simp only [eq_iff_iff, iff_false]; omega, fun b h => by have := hb.size; simp only [eq_iff_iff, iff_false]; omega, fun b h => by have := hb.size; simp only [eq_iff_iff, iff_false]; omega, fun b h => by have := hb.size; simp only [eq_iff_iff, iff_false]; omega, fun b h => by have := hb.size; simp only [eq_iff_iff, iff_false]; omega⟩

/-- These cells hold these values. -/
def AllC (w : World) : List (Addr × Value) → Prop
  | [] => True
  | p :: r => w.cell? p.1 = some p.2 ∧ AllC w r
theorem keepC {W w1 : World} (hb : Below W.heap.size W w1) : ∀ {L : List (Addr × Value)}, AllC W L → AllC w1 L
  | [], _ => trivial
  | _ :: _, h => ⟨(hb.cell (World.block_lt_of_cell? W _ h.1)).trans h.1, keepC hb h.2⟩

theorem setCell_drewN (w : World) (n : Nat) (a : Addr) (v : Value) : (w.drewN n).setCell a v = (w.setCell a v).drewN n := rfl
theorem alloc_drewN (w : World) (n : Nat) (o : Obj) : (w.drewN n).alloc o = (w.alloc o).drewN n := rfl
theorem below_drewN {B : Nat} {a w : World} (h : Below B a w) (n : Nat) : Below B a (w.drewN n) := ⟨h.os, h.tape, h.output, h.size, h.block⟩
attribute [go_sem] setCell_drewN alloc_drewN

/-- A world that keeps what W holds: x, if it does; else W. -/
noncomputable def wext (W x : World) : World := by
  classical
  exact if Below W.heap.size W x then x else W
theorem below_wext (W x : World) : Below W.heap.size W (wext W x) := by
  classical
  unfold wext
  split
  · assumption
  · exact Below.refl _ _
theorem wext_of {W w : World} (h : Below W.heap.size W w) : w = wext W w := by
  classical
  unfold wext
  rw [if_pos h]
theorem wext_cell (W x : World) (a : Addr) (h : (W.cell? a).isSome = true) : (wext W x).cell? a = W.cell? a := by
  obtain ⟨u, hu⟩ := Option.isSome_iff_exists.1 h
  exact (below_wext W x).cell (World.block_lt_of_cell? W a hu)
theorem wext_frozen (W x : World) (a : Addr) (h : (W.cell? a).isSome = true) : (wext W x).frozen? a = W.frozen? a := by
  obtain ⟨u, hu⟩ := Option.isSome_iff_exists.1 h
  exact (below_wext W x).frozen (World.block_lt_of_cell? W a hu)
attribute [go_sem] wext_cell wext_frozen
/-- A region that draws its order, whose operations only read, and whose callees keep what there is: one walk, in the order of the text. -/
theorem wp_region_ext {P : Program} {id : Nat} {Q : Exit → Act → World → Prop} {a : Act} {w : World} {l : List Oper} (hm : P.follows .mixedOrders = true) (hB : Region.lexB .any l.toArray = true)
    (h : wpQuiet P l.toArray (fun w' => ∃ x, w' = wext w x) (fun a' => ∀ w', (∃ x, w' = wext w x) → Q .normal a' w') l a) : (Code.region id l.toArray true).wp P Q a w :=
  wp_region_quiet (C := fun w' => ∃ x, w' = wext w x) hm hB ⟨_, wext_of (⟨rfl, rfl, rfl, Nat.le_refl _, fun _ _ => rfl⟩ : Below w.heap.size w { w with drawn := w.drawn + 1 })⟩ (by simpa using h)
theorem ext_of {P : Program} {f : FuncId} {args : Array Value} {W x : World} {v : Value} (h : Calls P f args (wext W x) fun e w' => e = .returned v ∧ Below (wext W x).heap.size (wext W x) w') :
    Calls P f args (wext W x) fun e w'' => e = .returned v ∧ ∃ y, w'' = wext W y :=
  h.mono fun _ _ ⟨he, hb⟩ => ⟨he, _, wext_of ((below_wext W x).trans (hb.mono (below_wext W x).size))⟩
theorem ext_alloc {P : Program} {f : FuncId} {args : Array Value} {W x : World} {v : Value} {o : Obj} (h : Calls P f args (wext W x) fun e w' => e = .returned v ∧ w' = (wext W x).alloc o) :
    Calls P f args (wext W x) fun e w'' => e = .returned v ∧ ∃ y, w'' = wext W y :=
  ext_of (h.mono fun _ _ ⟨he, hb⟩ => ⟨he, hb ▸ (Below.refl _ _).alloc (Nat.le_refl _) _⟩)
theorem ext_gen (W x : World) : ∃ w', w' = wext W x ∧ Below W.heap.size W w' := ⟨_, rfl, below_wext W x⟩

abbrev ptr (b : Nat) : Value := .pointer (some ⟨b, 0, none⟩)
def c16 (n : Int) : Int := if n < 1 then 1 else if 16 < n then 16 else n
theorem c16_bd (n : Int) : 1 ≤ c16 n ∧ c16 n ≤ 16 := by unfold c16; split; omega; split <;> omega
theorem c16_c16 (n : Int) : c16 (c16 n) = c16 n := by have := c16_bd n; generalize c16 n = m at *; unfold c16; split; omega; split <;> omega
theorem c16_in (n : Int) (h : 1 ≤ n) (h2 : n ≤ 16) : c16 n = n := by unfold c16; split; omega; split <;> omega
theorem heldLen_any (n : Int) (w : World) : Calls Try.prog 46 #[.int .i64 n] w fun e w' => e = .returned (.int .i64 (c16 n)) ∧ w = w' := by
  by_cases h1 : n < 1
  · have e : c16 n = 1 := by simp [c16, h1]
    have hm : ¬ (1 : Int) < n := by omega
    have hm2 : n ≤ 1 := by omega
    rw [e]
    clear e
    go_enter Try.func46, Try.ntmps46
    go_wp2
    go_ret
    exact ⟨rfl, rfl⟩
  · by_cases h2 : 16 < n
    · have e : c16 n = 16 := by simp [c16, h1, h2]
      have hm : (1 : Int) < n := by omega
      rw [e]
      clear e
      go_enter Try.func46, Try.ntmps46
      go_wp2
      go_ret
      exact ⟨rfl, rfl⟩
    · have e : c16 n = n := by simp [c16, h1, h2]
      rw [e]
      clear e
      by_cases h3 : n = 1
      · subst h3
        go_enter Try.func46, Try.ntmps46
        go_wp2
        go_ret
        exact ⟨rfl, rfl⟩
      · have hm : (1 : Int) < n := by omega
        have hm3 : ¬ n < 1 := by omega
        clear h3
        go_enter Try.func46, Try.ntmps46
        go_wp2
        go_ret
        exact ⟨rfl, rfl⟩
theorem heldWide_any (n : Int) (w : World) : Calls Try.prog 45 #[.int .i64 n] w fun e w' => e = .returned (.int .i64 (c16 n)) ∧ w = w' := by
  by_cases h1 : n < 1
  · have e : c16 n = 1 := by simp [c16, h1]
    have hm : ¬ (1 : Int) < n := by omega
    have hm2 : n ≤ 1 := by omega
    rw [e]
    clear e
    go_enter Try.func45, Try.ntmps45
    go_wp2
    go_ret
    exact ⟨rfl, rfl⟩
  · by_cases h2 : 16 < n
    · have e : c16 n = 16 := by simp [c16, h1, h2]
      have hm : (1 : Int) < n := by omega
      rw [e]
      clear e
      go_enter Try.func45, Try.ntmps45
      go_wp2
      go_ret
      exact ⟨rfl, rfl⟩
    · have e : c16 n = n := by simp [c16, h1, h2]
      rw [e]
      clear e
      by_cases h3 : n = 1
      · subst h3
        go_enter Try.func45, Try.ntmps45
        go_wp2
        go_ret
        exact ⟨rfl, rfl⟩
      · have hm : (1 : Int) < n := by omega
        have hm3 : ¬ n < 1 := by omega
        clear h3
        go_enter Try.func45, Try.ntmps45
        go_wp2
        go_ret
        exact ⟨rfl, rfl⟩
def ofK (at' n wd : Int) : Int := if at' < 0 then -1 else (at'.tdiv (c16 wd)).tmod (c16 n)
theorem ofK_nat (a n wd : Int) (h : 0 ≤ a) : ofK a n wd = a / c16 wd % c16 n := by
  have := c16_bd wd
  rw [ofK, if_neg (by omega), Int.tdiv_eq_ediv_of_nonneg h, Int.tmod_eq_emod_of_nonneg (Int.ediv_nonneg h (by omega))]
theorem wrap_tdiv (a x : Int) (h0 : 0 ≤ a) (h1 : a ≤ 9223372036854775807) (hx : 1 ≤ x) : wrap64 (a.tdiv x) = a.tdiv x := by
  rw [Int.tdiv_eq_ediv_of_nonneg h0]
  have h2 : 0 ≤ a / x := Int.ediv_nonneg h0 (by omega)
  have h3 : a / x ≤ a := Int.ediv_le_self x h0
  go_arith
theorem of_any (at' n wd : Int) (w : World) (hat : at' ≤ 9223372036854775807) : Calls Try.prog 55 #[.int .i64 at', .int .i64 n, .int .i64 wd] w fun e w' => e = .returned (.int .i64 (ofK at' n wd)) ∧ ∃ k, w' = w.drewN k := by
  by_cases h : at' < 0
  · have e : ofK at' n wd = -1 := by simp [ofK, h]
    rw [e]
    clear e
    go_enter Try.func55, Try.ntmps55
    go_wp2
    go_ret
    exact ⟨rfl, 0, rfl⟩
  · have e : ofK at' n wd = (at'.tdiv (c16 wd)).tmod (c16 n) := by simp [ofK, h]
    have H1 : ∀ w : World, Calls Try.prog 45 #[.int .i64 wd] w fun e w' => e = .returned (.int .i64 (c16 wd)) ∧ w = w' := fun w => heldWide_any wd w
    have H2 : ∀ w : World, Calls Try.prog 46 #[.int .i64 n] w fun e w' => e = .returned (.int .i64 (c16 n)) ∧ w = w' := fun w => heldLen_any n w
    have b1 := c16_bd wd
    have b2 := c16_bd n
    rw [e]
    clear e
    have HA := Lib.hid H1
    have HB := Lib.hid H2
    clear H1 H2
    generalize c16 wd = x at *
    generalize c16 n = y at *
    have x0 : ¬ x = 0 := by omega
    have y0 : ¬ y = 0 := by omega
    have x1 : ¬ x = -1 := by omega
    have hwr : wrap64 (at'.tdiv x) = at'.tdiv x := wrap_tdiv at' x (by omega) hat (by omega)
    clear b1 b2
    go_enter Try.func55, Try.ntmps55
    go_wp2
    go_quiet (first | (go_at_call 45; exact Calls.quiet_of_same ((HA.out _).mono fun e w' h => ⟨h.1, h.2.symm⟩)) | (go_at_call 46; exact Calls.quiet_of_same ((HB.out _).mono fun e w' h => ⟨h.1, h.2.symm⟩)))
    go_wp2
    go_ret
    exact ⟨rfl, _, rfl⟩
theorem held_of (a lo hi : Int) (w : World) (h : lo ≤ hi) : Calls Try.prog 43 #[.int .i64 a, .int .i64 lo, .int .i64 hi] w fun e w' => e = .returned (.int .i64 (if a < lo then lo else if hi < a then hi else a)) ∧ w = w' := by
  by_cases h1 : a < lo
  · rw [if_pos h1]
    go_enter Try.func43, Try.ntmps43
    go_wp2
    go_ret
    exact ⟨rfl, rfl⟩
  · by_cases h2 : hi < a
    · rw [if_neg h1, if_pos h2]
      go_enter Try.func43, Try.ntmps43
      go_wp2
      go_ret
      exact ⟨rfl, rfl⟩
    · rw [if_neg h1, if_neg h2]
      go_enter Try.func43, Try.ntmps43
      go_wp2
      go_ret
      exact ⟨rfl, rfl⟩
theorem held16 (a : Int) (w : World) : Calls Try.prog 43 #[.int .i64 a, .int .i64 1, .int .i64 16] w fun e w' => e = .returned (.int .i64 (c16 a)) ∧ w = w' := held_of a 1 16 w (by decide)
theorem rof_any (at' n wd : Int) (w : World) (hat : at' ≤ 9223372036854775807) : Calls Try.prog 21 #[.int .i64 at', .int .i64 n, .int .i64 wd] w fun e w' => e = .returned (.int .i64 (ofK at' n wd)) ∧ ∃ k, w' = w.drewN k := by
  by_cases h : at' < 0
  · have e : ofK at' n wd = -1 := by simp [ofK, h]
    rw [e]
    clear e
    go_enter Try.func21, Try.ntmps21
    go_wp2
    go_ret
    exact ⟨rfl, 0, rfl⟩
  · have e : ofK at' n wd = (at'.tdiv (c16 wd)).tmod (c16 n) := by simp [ofK, h]
    have H1 : ∀ w : World, Calls Try.prog 43 #[.int .i64 wd, .int .i64 1, .int .i64 16] w fun e w' => e = .returned (.int .i64 (c16 wd)) ∧ w = w' := fun w => held16 wd w
    have H2 : ∀ w : World, Calls Try.prog 43 #[.int .i64 n, .int .i64 1, .int .i64 16] w fun e w' => e = .returned (.int .i64 (c16 n)) ∧ w = w' := fun w => held16 n w
    have b1 := c16_bd wd
    have b2 := c16_bd n
    rw [e]
    clear e
    have HA := Lib.hid H1
    have HB := Lib.hid H2
    clear H1 H2
    generalize c16 wd = x at *
    generalize c16 n = y at *
    have x0 : ¬ x = 0 := by omega
    have y0 : ¬ y = 0 := by omega
    have x1 : ¬ x = -1 := by omega
    have hwr : wrap64 (at'.tdiv x) = at'.tdiv x := wrap_tdiv at' x (by omega) hat (by omega)
    clear b1 b2
    go_enter Try.func21, Try.ntmps21
    go_wp2
    go_quiet ((go_at_call 43; first | (with_reducible exact Calls.quiet_of_same ((HA.out _).mono fun e w' h => ⟨h.1, h.2.symm⟩)) | (with_reducible exact Calls.quiet_of_same ((HB.out _).mono fun e w' h => ⟨h.1, h.2.symm⟩))))
    go_wp2
    go_ret
    exact ⟨rfl, _, rfl⟩
structure Lk where
  v : Int
  h : Bool
  o : Int
abbrev lkV (l : Lk) : Value := .agg #[.int .u64 l.v, .bool l.h, .int .i64 l.o]
def Lk.zero : Lk := ⟨0, false, 0⟩
/-- A row of locks in block r. -/
structure LRow (w : World) (r n : Nat) (L : List Lk) : Prop where
  len : L.length = n
  cv : ∀ i, i < n → w.cell? ⟨r, i * 3, none⟩ = some (.int .u64 (L.getD i .zero).v)
  ch : ∀ i, i < n → w.cell? ⟨r, i * 3 + 1, none⟩ = some (.bool (L.getD i .zero).h)
  co : ∀ i, i < n → w.cell? ⟨r, i * 3 + 2, none⟩ = some (.int .i64 (L.getD i .zero).o)
  fz : ∀ j, j < n * 3 → w.frozen? ⟨r, j, none⟩ = false
/-- A table stands at block t, its locks in block r. -/
structure TabAt (w : World) (t r n : Nat) (wd : Int) (L : List Lk) : Prop where
  c0 : w.cell? ⟨t, 0, none⟩ = some (.int .i64 wd)
  c1 : ∃ c, w.cell? ⟨t, 1, none⟩ = some (.slice (some ⟨r, 0, none⟩) n c)
  row : LRow w r n L
  ne : t ≠ r
  lt : t < w.heap.size
theorem mkl_row (m : Int) (h0 : 0 ≤ m) (h1 : m ≤ 1000) (w : World) : (Instr.makeSlice 40 (.int .i64 m) (.int .i64 m)).run Try.prog w = .ok (.slice (some ⟨w.heap.size, 0, none⟩) m.toNat m.toNat) (w.alloc (.cells (madeCells #[.int .u64 0, .bool false, .int .i64 0] (m.toNat * 3)) 28)) := by
  have info : (Try.prog.info? 28).map (fun i => (i.zero, i.size, i.bytes)) = some (some (.agg #[.int .u64 0, .bool false, .int .i64 0]), 3, 24) := by kernel_rfl
  obtain ⟨i, hi, hz0, hz1, hz2⟩ := info_parts info
  have := run_make (P := Try.prog) w 40 28 i (.agg #[.int .u64 0, .bool false, .int .i64 0]) Try.underlying40 hi hz0 .i64 .i64 m m h0 (Int.le_refl _) (by rw [hz2]; omega) (by omega)
  rw [hz1, show (Value.agg #[Value.int .u64 0, .bool false, .int .i64 0]).cells = #[.int .u64 0, .bool false, .int .i64 0] from rfl] at this
  simpa using this
end Go.Proofs.Ytmfakfopedneoaa
