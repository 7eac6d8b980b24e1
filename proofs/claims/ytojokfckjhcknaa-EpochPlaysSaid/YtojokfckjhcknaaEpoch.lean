/- Contracts of package epoch. -/

import Derived.Test.YtojokfckjhcknaaRows
import Derived.WalkKit
import Derived.ProofKit
import Derived.OpenShut
import Derived.ShutString
import Derived.ChangeOld
import Derived.Below
import Derived.Lib.Hide
import Derived.BigQuiet
import Derived.Deep.QuietTactic
import Derived.Deep.RegionWith
import Derived.Deep.Draws
import Derived.Outline
import Derived.Handy
import Derived.Lib.LazyBuf
namespace Go.Proofs.Ytojokfckjhcknaa
open Go.ChangeShapes Go.WideShapes Go.ChangeAt Go.RowKit
open Go.ChangeMaps (open_string shut_string)
set_option linter.unusedVariables false
theorem cas1 (w : World) (a : Addr) (o0 : Obj) (h : (w.cell? a).isSome = true) : (w.alloc o0).cell? a = w.cell? a := by
  obtain ⟨u, hu⟩ := Option.isSome_iff_exists.1 h
  exact World.cell?_alloc_lt _ _ _ (World.block_lt_of_cell? w a hu)
theorem fas1 (w : World) (a : Addr) (o0 : Obj) (h : (w.cell? a).isSome = true) : (w.alloc o0).frozen? a = w.frozen? a := by
  obtain ⟨u, hu⟩ := Option.isSome_iff_exists.1 h
  have := World.block_lt_of_cell? w a hu
  exact World.frozen?_alloc_old _ _ _ (by omega)
theorem cas2 (w : World) (a : Addr) (o0 o1 : Obj) (h : (w.cell? a).isSome = true) : ((w.alloc o0).alloc o1).cell? a = w.cell? a := by
  rw [cas1 _ _ _ (by rw [cas1 _ _ _ h]; exact h), cas1 _ _ _ h]
theorem fas2 (w : World) (a : Addr) (o0 o1 : Obj) (h : (w.cell? a).isSome = true) : ((w.alloc o0).alloc o1).frozen? a = w.frozen? a := by
  rw [fas1 _ _ _ (by rw [cas1 _ _ _ h]; exact h), fas1 _ _ _ h]
theorem cas3 (w : World) (a : Addr) (o0 o1 o2 : Obj) (h : (w.cell? a).isSome = true) : (((w.alloc o0).alloc o1).alloc o2).cell? a = w.cell? a := by
  rw [cas1 _ _ _ (by rw [cas2 _ _ _ _ h]; exact h), cas2 _ _ _ _ h]
theorem fas3 (w : World) (a : Addr) (o0 o1 o2 : Obj) (h : (w.cell? a).isSome = true) : (((w.alloc o0).alloc o1).alloc o2).frozen? a = w.frozen? a := by
  rw [fas1 _ _ _ (by rw [cas2 _ _ _ _ h]; exact h), fas2 _ _ _ _ h]
theorem cas4 (w : World) (a : Addr) (o0 o1 o2 o3 : Obj) (h : (w.cell? a).isSome = true) : ((((w.alloc o0).alloc o1).alloc o2).alloc o3).cell? a = w.cell? a := by
  rw [cas1 _ _ _ (by rw [cas3 _ _ _ _ _ h]; exact h), cas3 _ _ _ _ _ h]
theorem fas4 (w : World) (a : Addr) (o0 o1 o2 o3 : Obj) (h : (w.cell? a).isSome = true) : ((((w.alloc o0).alloc o1).alloc o2).alloc o3).frozen? a = w.frozen? a := by
  rw [fas1 _ _ _ (by rw [cas3 _ _ _ _ _ h]; exact h), fas3 _ _ _ _ _ h]
theorem cas5 (w : World) (a : Addr) (o0 o1 o2 o3 o4 : Obj) (h : (w.cell? a).isSome = true) : (((((w.alloc o0).alloc o1).alloc o2).alloc o3).alloc o4).cell? a = w.cell? a := by
  rw [cas1 _ _ _ (by rw [cas4 _ _ _ _ _ _ h]; exact h), cas4 _ _ _ _ _ _ h]
theorem fas5 (w : World) (a : Addr) (o0 o1 o2 o3 o4 : Obj) (h : (w.cell? a).isSome = true) : (((((w.alloc o0).alloc o1).alloc o2).alloc o3).alloc o4).frozen? a = w.frozen? a := by
  rw [fas1 _ _ _ (by rw [cas4 _ _ _ _ _ _ h]; exact h), fas4 _ _ _ _ _ _ h]
theorem cas6 (w : World) (a : Addr) (o0 o1 o2 o3 o4 o5 : Obj) (h : (w.cell? a).isSome = true) : ((((((w.alloc o0).alloc o1).alloc o2).alloc o3).alloc o4).alloc o5).cell? a = w.cell? a := by
  rw [cas1 _ _ _ (by rw [cas5 _ _ _ _ _ _ _ h]; exact h), cas5 _ _ _ _ _ _ _ h]
theorem fas6 (w : World) (a : Addr) (o0 o1 o2 o3 o4 o5 : Obj) (h : (w.cell? a).isSome = true) : ((((((w.alloc o0).alloc o1).alloc o2).alloc o3).alloc o4).alloc o5).frozen? a = w.frozen? a := by
  rw [fas1 _ _ _ (by rw [cas5 _ _ _ _ _ _ _ h]; exact h), fas5 _ _ _ _ _ _ _ h]
theorem cas7 (w : World) (a : Addr) (o0 o1 o2 o3 o4 o5 o6 : Obj) (h : (w.cell? a).isSome = true) : (((((((w.alloc o0).alloc o1).alloc o2).alloc o3).alloc o4).alloc o5).alloc o6).cell? a = w.cell? a := by
  rw [cas1 _ _ _ (by rw [cas6 _ _ _ _ _ _ _ _ h]; exact h), cas6 _ _ _ _ _ _ _ _ h]
theorem fas7 (w : World) (a : Addr) (o0 o1 o2 o3 o4 o5 o6 : Obj) (h : (w.cell? a).isSome = true) : (((((((w.alloc o0).alloc o1).alloc o2).alloc o3).alloc o4).alloc o5).alloc o6).frozen? a = w.frozen? a := by
  rw [fas1 _ _ _ (by rw [cas6 _ _ _ _ _ _ _ _ h]; exact h), fas6 _ _ _ _ _ _ _ _ h]
theorem cas8 (w : World) (a : Addr) (o0 o1 o2 o3 o4 o5 o6 o7 : Obj) (h : (w.cell? a).isSome = true) : ((((((((w.alloc o0).alloc o1).alloc o2).alloc o3).alloc o4).alloc o5).alloc o6).alloc o7).cell? a = w.cell? a := by
  rw [cas1 _ _ _ (by rw [cas7 _ _ _ _ _ _ _ _ _ h]; exact h), cas7 _ _ _ _ _ _ _ _ _ h]
theorem fas8 (w : World) (a : Addr) (o0 o1 o2 o3 o4 o5 o6 o7 : Obj) (h : (w.cell? a).isSome = true) : ((((((((w.alloc o0).alloc o1).alloc o2).alloc o3).alloc o4).alloc o5).alloc o6).alloc o7).frozen? a = w.frozen? a := by
  rw [fas1 _ _ _ (by rw [cas7 _ _ _ _ _ _ _ _ _ h]; exact h), fas7 _ _ _ _ _ _ _ _ _ h]
theorem cas9 (w : World) (a : Addr) (o0 o1 o2 o3 o4 o5 o6 o7 o8 : Obj) (h : (w.cell? a).isSome = true) : (((((((((w.alloc o0).alloc o1).alloc o2).alloc o3).alloc o4).alloc o5).alloc o6).alloc o7).alloc o8).cell? a = w.cell? a := by
  rw [cas1 _ _ _ (by rw [cas8 _ _ _ _ _ _ _ _ _ _ h]; exact h), cas8 _ _ _ _ _ _ _ _ _ _ h]
theorem fas9 (w : World) (a : Addr) (o0 o1 o2 o3 o4 o5 o6 o7 o8 : Obj) (h : (w.cell? a).isSome = true) : (((((((((w.alloc o0).alloc o1).alloc o2).alloc o3).alloc o4).alloc o5).alloc o6).alloc o7).alloc o8).frozen? a = w.frozen? a := by
  rw [fas1 _ _ _ (by rw [cas8 _ _ _ _ _ _ _ _ _ _ h]; exact h), fas8 _ _ _ _ _ _ _ _ _ _ h]
theorem cas10 (w : World) (a : Addr) (o0 o1 o2 o3 o4 o5 o6 o7 o8 o9 : Obj) (h : (w.cell? a).isSome = true) : ((((((((((w.alloc o0).alloc o1).alloc o2).alloc o3).alloc o4).alloc o5).alloc o6).alloc o7).alloc o8).alloc o9).cell? a = w.cell? a := by
  rw [cas1 _ _ _ (by rw [cas9 _ _ _ _ _ _ _ _ _ _ _ h]; exact h), cas9 _ _ _ _ _ _ _ _ _ _ _ h]
theorem fas10 (w : World) (a : Addr) (o0 o1 o2 o3 o4 o5 o6 o7 o8 o9 : Obj) (h : (w.cell? a).isSome = true) : ((((((((((w.alloc o0).alloc o1).alloc o2).alloc o3).alloc o4).alloc o5).alloc o6).alloc o7).alloc o8).alloc o9).frozen? a = w.frozen? a := by
  rw [fas1 _ _ _ (by rw [cas9 _ _ _ _ _ _ _ _ _ _ _ h]; exact h), fas9 _ _ _ _ _ _ _ _ _ _ _ h]
attribute [go_sem] cas1 fas1 cas2 fas2 cas3 fas3 cas4 fas4 cas5 fas5 cas6 fas6 cas7 fas7 cas8 fas8 cas9 fas9 cas10 fas10
theorem bcell {W w1 : World} (hb : Below W.heap.size W w1) : (∀ b o, b < W.heap.size → w1.cell? ⟨b, o, none⟩ = W.cell? ⟨b, o, none⟩) ∧ (∀ b o, b < W.heap.size → w1.frozen? ⟨b, o, none⟩ = W.frozen? ⟨b, o, none⟩) ∧ (∀ b, b < W.heap.size → b < w1.heap.size) ∧ (∀ b, b < W.heap.size → b < w1.heap.size + 1) ∧ (∀ b, b < W.heap.size → b < w1.heap.size + 1 + 1) ∧ (∀ b, b < W.heap.size → b < w1.heap.size + 1 + 1 + 1) ∧ (∀ b, b < W.heap.size → b < w1.heap.size + 1 + 1 + 1 + 1) ∧ (∀ b, b < W.heap.size → b < w1.heap.size + 1 + 1 + 1 + 1 + 1) ∧ (∀ b, b < W.heap.size → b < w1.heap.size + 1 + 1 + 1 + 1 + 1 + 1) ∧ (∀ b, b < W.heap.size → (b = w1.heap.size) = False) ∧ (∀ b, b < W.heap.size → (b = w1.heap.size + 1) = False) ∧ (∀ b, b < W.heap.size → (b = w1.heap.size + 1 + 1) = False) ∧ (∀ b, b < W.heap.size → (b = w1.heap.size + 1 + 1 + 1) = False) ∧ (∀ b, b < W.heap.size → (b = w1.heap.size + 1 + 1 + 1 + 1) = False) ∧ (∀ b, b < W.heap.size → (b = w1.heap.size + 1 + 1 + 1 + 1 + 1) = False) ∧ (∀ b, b < W.heap.size → (b = w1.heap.size + 1 + 1 + 1 + 1 + 1 + 1) = False) :=
  ⟨fun b o h => hb.cell (p := ⟨b, o, none⟩) h, fun b o h => hb.frozen (p := ⟨b, o, none⟩) h, fun b h => by have := hb.size; omega, fun b h => by have := hb.size; omega, fun b h => by have := hb.size; omega, fun b h => by have := hb.size; omega, fun b h => by have := hb.size; omega, fun b h => by have := hb.size; omega, fun b h => by have := hb.size; omega, fun b h => by have := hb.size; simp only [eq_iff_iff, iff_false]; omega, fun b h => by have := hb.size; simp only [eq_iff_iff, iff_false]; omega, fun b h => by have := hb.size; simp only [eq_iff_iff, iff_false]; omega, fun b h => by have := hb.size; simp only [eq_iff_iff, iff_false]; omega, fun b h => by have := hb.size; simp only [eq_iff_iff, iff_false]; omega, fun b h => by have := hb.size; simp only [eq_iff_iff, iff_false]; omega, fun b h => by have := hb.size; simp only [eq_iff_iff, iff_false]; omega⟩

/-- These cells hold these values. -/
def AllC (w : World) : List (Addr × Value) → Prop
  | [] => True
  | p :: r => w.cell? p.1 = some p.2 ∧ AllC w r
theorem keepC {W w1 : World} (hb : Below W.heap.size W w1) : ∀ {L : List (Addr × Value)}, AllC W L → AllC w1 L
  | [], _ => trivial
  | _ :: _, h => ⟨(hb.cell (World.block_lt_of_cell? W _ h.1)).trans h.1, keepC hb h.2⟩

theorem setCell_drewN (w : World) (n : Nat) (a : Addr) (v : Value) : (w.drewN n).setCell a v = (w.setCell a v).drewN n := rfl
theorem alloc_drewN (w : World) (n : Nat) (o : Obj) : (w.drewN n).alloc o = (w.alloc o).drewN n := rfl
theorem below_drewN {B : Nat} {a w : World} (h : Below B a w) (n : Nat) : Below B a (w.drewN n) := ⟨h.os, h.tape, h.output, h.size, h.block⟩
attribute [go_sem] setCell_drewN alloc_drewN

/-- A world that keeps what W holds: x, if it does; else W. -/
noncomputable def wext (W x : World) : World := by
  classical
  exact if Below W.heap.size W x then x else W
theorem below_wext (W x : World) : Below W.heap.size W (wext W x) := by
  classical
  unfold wext
  split
  · assumption
  · exact Below.refl _ _
theorem wext_of {W w : World} (h : Below W.heap.size W w) : w = wext W w := by
  classical
  unfold wext
  rw [if_pos h]
theorem wext_cell (W x : World) (a : Addr) (h : (W.cell? a).isSome = true) : (wext W x).cell? a = W.cell? a := by
  obtain ⟨u, hu⟩ := Option.isSome_iff_exists.1 h
  exact (below_wext W x).cell (World.block_lt_of_cell? W a hu)
theorem wext_frozen (W x : World) (a : Addr) (h : (W.cell? a).isSome = true) : (wext W x).frozen? a = W.frozen? a := by
  obtain ⟨u, hu⟩ := Option.isSome_iff_exists.1 h
  exact (below_wext W x).frozen (World.block_lt_of_cell? W a hu)
attribute [go_sem] wext_cell wext_frozen
/-- A region that draws its order, whose operations only read, and whose callees keep what there is: one walk, in the order of the text. -/
theorem wp_region_ext {P : Program} {id : Nat} {Q : Exit → Act → World → Prop} {a : Act} {w : World} {l : List Oper} (hm : P.follows .mixedOrders = true) (hB : Region.lexB .any l.toArray = true)
    (h : wpQuiet P l.toArray (fun w' => ∃ x, w' = wext w x) (fun a' => ∀ w', (∃ x, w' = wext w x) → Q .normal a' w') l a) : (Code.region id l.toArray true).wp P Q a w :=
  wp_region_quiet (C := fun w' => ∃ x, w' = wext w x) hm hB ⟨_, wext_of (⟨rfl, rfl, rfl, Nat.le_refl _, fun _ _ => rfl⟩ : Below w.heap.size w { w with drawn := w.drawn + 1 })⟩ (by simpa using h)
theorem ext_of {P : Program} {f : FuncId} {args : Array Value} {W x : World} {v : Value} (h : Calls P f args (wext W x) fun e w' => e = .returned v ∧ Below (wext W x).heap.size (wext W x) w') :
    Calls P f args (wext W x) fun e w'' => e = .returned v ∧ ∃ y, w'' = wext W y :=
  h.mono fun _ _ ⟨he, hb⟩ => ⟨he, _, wext_of ((below_wext W x).trans (hb.mono (below_wext W x).size))⟩
theorem ext_alloc {P : Program} {f : FuncId} {args : Array Value} {W x : World} {v : Value} {o : Obj} (h : Calls P f args (wext W x) fun e w' => e = .returned v ∧ w' = (wext W x).alloc o) :
    Calls P f args (wext W x) fun e w'' => e = .returned v ∧ ∃ y, w'' = wext W y :=
  ext_of (h.mono fun _ _ ⟨he, hb⟩ => ⟨he, hb ▸ (Below.refl _ _).alloc (Nat.le_refl _) _⟩)
theorem ext_gen (W x : World) : ∃ w', w' = wext W x ∧ Below W.heap.size W w' := ⟨_, rfl, below_wext W x⟩

/-- slices.Clone of a row that is not nil: a new row of the same values. -/

abbrev ptr (b : Nat) : Value := .pointer (some ⟨b, 0, none⟩)
theorem info_clone : (Try.prog.info? 26).map (fun i => (i.zero, i.size, i.bytes)) = some (some (.int .u64 0), 1, 8) := by kernel_rfl
set_option maxHeartbeats 1000000 in
theorem clone_row (b off n cap : Nat) (xs : List Value) (w : World) (hl : xs.length = n) (h63 : n ≤ 1000000) (hc : ∀ j u, xs[j]? = some u → w.cell? ((⟨b, off, none⟩ : Addr).add j) = some u) (h1 : ∀ u ∈ xs, u.oneCell' = true) :
    Calls Try.prog 19 #[.slice (some ⟨b, off, none⟩) n cap] w fun e w' => ∃ v, e = .returned v ∧ w'.ownsRow w.heap.size 26 1 v n xs ∧ Below w.heap.size w w' := by
  obtain ⟨i, hi, hz0, hz1, hz2⟩ := info_parts info_clone
  have H1 := Lib.hid h1
  have HC := Lib.hid hc
  have hown := World.ownsRow_lit (base := w.heap.size) (e := 26) (size := 1) w #[] 0 (Nat.le_refl _) (by decide) (by simp)
  have HO := Lib.hid hown
  have hnil : ∀ w : World, (binOp .eql 31 (.slice (some ⟨b, off, none⟩) n cap) (.slice none 0 0)).run Try.prog w = .ok (.bool false) w := fun w => Go.run_eql_slice_nil w 31 26 (some ⟨b, off, none⟩) n cap Try.underlying31
  clear h1 hc hown
  go_enter Try.func19, Try.ntmps19
  go_wp2_with (first | (at_builtin; refine wpList_append_own _ rfl _ _ 31 rfl w.heap.size 26 i (.int .u64 0) 1 8 Try.underlying31 hi hz0 hz1 hz2 rfl (by decide) (.slice (some ⟨w.heap.size, 0, none⟩) 0 0) 0 [] rfl HO.out ⟨b, off, none⟩ n cap xs rfl (by omega) (fun j u hj => by have := HC.out j u hj; rw [World.cell?_alloc_lt _ _ _ (World.block_lt_of_cell? w _ this)]; exact this) H1.out (by unfold maxLen; omega) (by omega) (by simp) ?_; intro v' w1 hown' hgrow _; have OW := Lib.hid hown'; have GW := Lib.hid hgrow; clear hown' hgrow))
  go_ret
  refine ⟨_, rfl, by simpa using OW.out, ?_⟩
  exact ((Below.refl _ _).alloc (Nat.le_refl _) _).grown GW.out (by simp) (by intro k hk; simp [Value.ownBlock] at hk; omega)
/-- Each of the first k words is 0, or above the stamp. -/
def psd (ws : Nat → Int) (st : Int) : Nat → Bool
  | 0 => true
  | k + 1 => psd ws st k && (ws k == 0 || decide (st < ws k))
theorem psd_false {ws : Nat → Int} {st : Int} {k n : Nat} (h : psd ws st k = false) (hn : k ≤ n) : psd ws st n = false := by
  induction n with
  | zero => obtain rfl : k = 0 := by omega
            exact h
  | succ n ih =>
    by_cases e : k = n + 1
    · subst e; exact h
    · simp [psd, ih (by omega)]
set_option maxHeartbeats 1000000 in
theorem passed_row (b off n cap : Nat) (ws : Nat → Int) (st : Int) (w : World) (hn : n ≤ 9223372036854775807) (hb : ∀ i, i < n → 0 ≤ ws i) (hs : 0 ≤ st) (hc : ∀ i, i < n → w.cell? ⟨b, off + i, none⟩ = some (.int .u64 (ws i))) :
    Calls Try.prog 14 #[.slice (some ⟨b, off, none⟩) n cap, .int .u64 st] w fun e w' => e = .returned (.bool (psd ws st n)) ∧ w = w' := by
  have HC := Lib.hid hc
  have HB := Lib.hid hb
  clear hc hb
  go_enter Try.func14, Try.ntmps14
  go_wp2
  go_loop [9] (fun u => ∃ k : Nat, k ≤ n ∧ u = .int .i64 k ∧ Hid (psd ws st k = true)) (fun u => n - (intOf u).toNat)
  case atStart => exact ⟨0, by omega, rfl, rfl⟩
  case round =>
    obtain ⟨k, hk, rfl, hp⟩ := hrel
    by_cases hlt : k < n
    · have hc := HC.out k hlt
      have hb := HB.out k hlt
      obtain ⟨x, hx⟩ : ∃ x, ws k = x := ⟨_, rfl⟩
      rw [hx] at hc hb
      have HX := Lib.hid hx
      clear hx
      have hki : (k : Int) < (n : Int) := by omega
      by_cases h0 : x = 0
      · have e0 : (x != 0) = false := by simp [h0]
        have H0 := Lib.hid h0
        clear h0
        go_wp2
        go_round
        case rel => exact ⟨k + 1, by omega, by go_num, by have := hp.out; unfold Hid; simp [psd, this, HX.out, H0.out]⟩
        case measure => simp [intOf]; omega
      · have e0 : (x != 0) = true := by simp [h0]
        by_cases h1 : x ≤ st
        · have hf : psd ws st n = false := psd_false (k := k + 1) (by simp [psd, HX.out, h0]; intro _; omega) (by omega)
          have HF := Lib.hid hf
          clear h0 hf
          go_wp2
          go_ret
          exact ⟨by rw [HF.out]; rfl, rfl⟩
        · have e1 : decide (x ≤ st) = false := by simpa using h1
          have e2 : st < x := by omega
          have H0 := Lib.hid (And.intro h0 e2)
          clear h0 h1 e2
          go_wp2
          go_round
          case rel => exact ⟨k + 1, by omega, by go_num, by have := hp.out; unfold Hid; simp [psd, this, HX.out, H0.out.2]⟩
          case measure => simp [intOf]; omega
    · obtain rfl : k = n := by omega
      have hl : decide ((k : Int) < (k : Int)) = false := by simp
      go_wp2
      go_ret
      exact ⟨by rw [hp.out]; rfl, rfl⟩
theorem passed_empty (a : Option Addr) (cap : Nat) (st : Int) (w : World) : Calls Try.prog 14 #[.slice a 0 cap, .int .u64 st] w fun e w' => e = .returned (.bool true) ∧ w = w' := by
  go_enter Try.func14, Try.ntmps14
  go_wp2
  refine wp_loop_rounds 1 ?_
  rw [rounds_succ]
  go_wp2
  go_ret
  exact ⟨rfl, rfl⟩
end Go.Proofs.Ytojokfckjhcknaa
