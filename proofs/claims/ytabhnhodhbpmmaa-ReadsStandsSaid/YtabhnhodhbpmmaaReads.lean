/- Contracts of package reads: a row of stripes seen, each once. -/

import Derived.Test.YtabhnhodhbpmmaaRows
import Derived.WalkKit
import Derived.ProofKit
import Derived.OpenShut
import Derived.ShutString
import Derived.ChangeOld
import Derived.Below
import Derived.Lib.Hide
import Derived.BigQuiet
import Derived.Deep.QuietTactic
import Derived.Deep.RegionWith
import Derived.Deep.RegionHeld3
import Derived.Deep.RegionLaw
import Derived.Deep.AppendLies
import Derived.RegionTactic
import Derived.Deep.Draws
import Derived.Outline
import Derived.Handy
import Derived.Lib.LazyBuf
import Derived.Laws.OwnMore
namespace Go.Proofs.Ytabhnhodhbpmmaa
open Go.ChangeShapes Go.WideShapes Go.ChangeAt Go.RowKit
open Go.ChangeMaps (open_string shut_string)
set_option linter.unusedVariables false
theorem cas1 (w : World) (a : Addr) (o0 : Obj) (h : (w.cell? a).isSome = true) : (w.alloc o0).cell? a = w.cell? a := by
  obtain ⟨u, hu⟩ := Option.isSome_iff_exists.1 h
  exact World.cell?_alloc_lt _ _ _ (World.block_lt_of_cell? w a hu)
theorem fas1 (w : World) (a : Addr) (o0 : Obj) (h : (w.cell? a).isSome = true) : (w.alloc o0).frozen? a = w.frozen? a := by
  obtain ⟨u, hu⟩ := Option.isSome_iff_exists.1 h
  have := World.block_lt_of_cell? w a hu
  exact World.frozen?_alloc_old _ _ _ (by omega)
theorem cas2 (w : World) (a : Addr) (o0 o1 : Obj) (h : (w.cell? a).isSome = true) : ((w.alloc o0).alloc o1).cell? a = w.cell? a := by
  rw [cas1 _ _ _ (by rw [cas1 _ _ _ h]; exact h), cas1 _ _ _ h]
theorem fas2 (w : World) (a : Addr) (o0 o1 : Obj) (h : (w.cell? a).isSome = true) : ((w.alloc o0).alloc o1).frozen? a = w.frozen? a := by
  rw [fas1 _ _ _ (by rw [cas1 _ _ _ h]; exact h), fas1 _ _ _ h]
theorem cas3 (w : World) (a : Addr) (o0 o1 o2 : Obj) (h : (w.cell? a).isSome = true) : (((w.alloc o0).alloc o1).alloc o2).cell? a = w.cell? a := by
  rw [cas1 _ _ _ (by rw [cas2 _ _ _ _ h]; exact h), cas2 _ _ _ _ h]
theorem fas3 (w : World) (a : Addr) (o0 o1 o2 : Obj) (h : (w.cell? a).isSome = true) : (((w.alloc o0).alloc o1).alloc o2).frozen? a = w.frozen? a := by
  rw [fas1 _ _ _ (by rw [cas2 _ _ _ _ h]; exact h), fas2 _ _ _ _ h]
theorem cas4 (w : World) (a : Addr) (o0 o1 o2 o3 : Obj) (h : (w.cell? a).isSome = true) : ((((w.alloc o0).alloc o1).alloc o2).alloc o3).cell? a = w.cell? a := by
  rw [cas1 _ _ _ (by rw [cas3 _ _ _ _ _ h]; exact h), cas3 _ _ _ _ _ h]
theorem fas4 (w : World) (a : Addr) (o0 o1 o2 o3 : Obj) (h : (w.cell? a).isSome = true) : ((((w.alloc o0).alloc o1).alloc o2).alloc o3).frozen? a = w.frozen? a := by
  rw [fas1 _ _ _ (by rw [cas3 _ _ _ _ _ h]; exact h), fas3 _ _ _ _ _ h]
theorem cas5 (w : World) (a : Addr) (o0 o1 o2 o3 o4 : Obj) (h : (w.cell? a).isSome = true) : (((((w.alloc o0).alloc o1).alloc o2).alloc o3).alloc o4).cell? a = w.cell? a := by
  rw [cas1 _ _ _ (by rw [cas4 _ _ _ _ _ _ h]; exact h), cas4 _ _ _ _ _ _ h]
theorem fas5 (w : World) (a : Addr) (o0 o1 o2 o3 o4 : Obj) (h : (w.cell? a).isSome = true) : (((((w.alloc o0).alloc o1).alloc o2).alloc o3).alloc o4).frozen? a = w.frozen? a := by
  rw [fas1 _ _ _ (by rw [cas4 _ _ _ _ _ _ h]; exact h), fas4 _ _ _ _ _ _ h]
theorem cas6 (w : World) (a : Addr) (o0 o1 o2 o3 o4 o5 : Obj) (h : (w.cell? a).isSome = true) : ((((((w.alloc o0).alloc o1).alloc o2).alloc o3).alloc o4).alloc o5).cell? a = w.cell? a := by
  rw [cas1 _ _ _ (by rw [cas5 _ _ _ _ _ _ _ h]; exact h), cas5 _ _ _ _ _ _ _ h]
theorem fas6 (w : World) (a : Addr) (o0 o1 o2 o3 o4 o5 : Obj) (h : (w.cell? a).isSome = true) : ((((((w.alloc o0).alloc o1).alloc o2).alloc o3).alloc o4).alloc o5).frozen? a = w.frozen? a := by
  rw [fas1 _ _ _ (by rw [cas5 _ _ _ _ _ _ _ h]; exact h), fas5 _ _ _ _ _ _ _ h]
theorem cas7 (w : World) (a : Addr) (o0 o1 o2 o3 o4 o5 o6 : Obj) (h : (w.cell? a).isSome = true) : (((((((w.alloc o0).alloc o1).alloc o2).alloc o3).alloc o4).alloc o5).alloc o6).cell? a = w.cell? a := by
  rw [cas1 _ _ _ (by rw [cas6 _ _ _ _ _ _ _ _ h]; exact h), cas6 _ _ _ _ _ _ _ _ h]
theorem fas7 (w : World) (a : Addr) (o0 o1 o2 o3 o4 o5 o6 : Obj) (h : (w.cell? a).isSome = true) : (((((((w.alloc o0).alloc o1).alloc o2).alloc o3).alloc o4).alloc o5).alloc o6).frozen? a = w.frozen? a := by
  rw [fas1 _ _ _ (by rw [cas6 _ _ _ _ _ _ _ _ h]; exact h), fas6 _ _ _ _ _ _ _ _ h]
theorem cas8 (w : World) (a : Addr) (o0 o1 o2 o3 o4 o5 o6 o7 : Obj) (h : (w.cell? a).isSome = true) : ((((((((w.alloc o0).alloc o1).alloc o2).alloc o3).alloc o4).alloc o5).alloc o6).alloc o7).cell? a = w.cell? a := by
  rw [cas1 _ _ _ (by rw [cas7 _ _ _ _ _ _ _ _ _ h]; exact h), cas7 _ _ _ _ _ _ _ _ _ h]
theorem fas8 (w : World) (a : Addr) (o0 o1 o2 o3 o4 o5 o6 o7 : Obj) (h : (w.cell? a).isSome = true) : ((((((((w.alloc o0).alloc o1).alloc o2).alloc o3).alloc o4).alloc o5).alloc o6).alloc o7).frozen? a = w.frozen? a := by
  rw [fas1 _ _ _ (by rw [cas7 _ _ _ _ _ _ _ _ _ h]; exact h), fas7 _ _ _ _ _ _ _ _ _ h]
theorem cas9 (w : World) (a : Addr) (o0 o1 o2 o3 o4 o5 o6 o7 o8 : Obj) (h : (w.cell? a).isSome = true) : (((((((((w.alloc o0).alloc o1).alloc o2).alloc o3).alloc o4).alloc o5).alloc o6).alloc o7).alloc o8).cell? a = w.cell? a := by
  rw [cas1 _ _ _ (by rw [cas8 _ _ _ _ _ _ _ _ _ _ h]; exact h), cas8 _ _ _ _ _ _ _ _ _ _ h]
theorem fas9 (w : World) (a : Addr) (o0 o1 o2 o3 o4 o5 o6 o7 o8 : Obj) (h : (w.cell? a).isSome = true) : (((((((((w.alloc o0).alloc o1).alloc o2).alloc o3).alloc o4).alloc o5).alloc o6).alloc o7).alloc o8).frozen? a = w.frozen? a := by
  rw [fas1 _ _ _ (by rw [cas8 _ _ _ _ _ _ _ _ _ _ h]; exact h), fas8 _ _ _ _ _ _ _ _ _ _ h]
theorem cas10 (w : World) (a : Addr) (o0 o1 o2 o3 o4 o5 o6 o7 o8 o9 : Obj) (h : (w.cell? a).isSome = true) : ((((((((((w.alloc o0).alloc o1).alloc o2).alloc o3).alloc o4).alloc o5).alloc o6).alloc o7).alloc o8).alloc o9).cell? a = w.cell? a := by
  rw [cas1 _ _ _ (by rw [cas9 _ _ _ _ _ _ _ _ _ _ _ h]; exact h), cas9 _ _ _ _ _ _ _ _ _ _ _ h]
theorem fas10 (w : World) (a : Addr) (o0 o1 o2 o3 o4 o5 o6 o7 o8 o9 : Obj) (h : (w.cell? a).isSome = true) : ((((((((((w.alloc o0).alloc o1).alloc o2).alloc o3).alloc o4).alloc o5).alloc o6).alloc o7).alloc o8).alloc o9).frozen? a = w.frozen? a := by
  rw [fas1 _ _ _ (by rw [cas9 _ _ _ _ _ _ _ _ _ _ _ h]; exact h), fas9 _ _ _ _ _ _ _ _ _ _ _ h]
attribute [go_sem] cas1 fas1 cas2 fas2 cas3 fas3 cas4 fas4 cas5 fas5 cas6 fas6 cas7 fas7 cas8 fas8 cas9 fas9 cas10 fas10
theorem bcell {W w1 : World} (hb : Below W.heap.size W w1) : (∀ b o, b < W.heap.size → w1.cell? ⟨b, o, none⟩ = W.cell? ⟨b, o, none⟩) ∧ (∀ b o, b < W.heap.size → w1.frozen? ⟨b, o, none⟩ = W.frozen? ⟨b, o, none⟩) ∧ (∀ b, b < W.heap.size → b < w1.heap.size) ∧ (∀ b, b < W.heap.size → b < w1.heap.size + 1) ∧ (∀ b, b < W.heap.size → b < w1.heap.size + 1 + 1) ∧ (∀ b, b < W.heap.size → b < w1.heap.size + 1 + 1 + 1) ∧ (∀ b, b < W.heap.size → b < w1.heap.size + 1 + 1 + 1 + 1) ∧ (∀ b, b < W.heap.size → b < w1.heap.size + 1 + 1 + 1 + 1 + 1) ∧ (∀ b, b < W.heap.size → b < w1.heap.size + 1 + 1 + 1 + 1 + 1 + 1) ∧ (∀ b, b < W.heap.size → (b = w1.heap.size) = False) ∧ (∀ b, b < W.heap.size → (b = w1.heap.size + 1) = False) ∧ (∀ b, b < W.heap.size → (b = w1.heap.size + 1 + 1) = False) ∧ (∀ b, b < W.heap.size → (b = w1.heap.size + 1 + 1 + 1) = False) ∧ (∀ b, b < W.heap.size → (b = w1.heap.size + 1 + 1 + 1 + 1) = False) ∧ (∀ b, b < W.heap.size → (b = w1.heap.size + 1 + 1 + 1 + 1 + 1) = False) ∧ (∀ b, b < W.heap.size → (b = w1.heap.size + 1 + 1 + 1 + 1 + 1 + 1) = False) :=
  ⟨fun b o h => hb.cell (p := ⟨b, o, none⟩) h, fun b o h => hb.frozen (p := ⟨b, o, none⟩) h, fun b h => by have := hb.size; omega, fun b h => by have := hb.size; omega, fun b h => by have := hb.size; omega, fun b h => by have := hb.size; omega, fun b h => by have := hb.size; omega, fun b h => by have := hb.size; omega, fun b h => by have := hb.size; omega, fun b h => by have := hb.size; simp only [eq_iff_iff, iff_false]; omega, fun b h => by have := hb.size; simp only [eq_iff_iff, iff_false]; omega, fun b h => by have := hb.size; simp only [eq_iff_iff, iff_false]; omega, fun b h => by have := hb.size; simp only [eq_iff_iff, iff_false]; omega, fun b h => by have := hb.size; simp only [eq_iff_iff, iff_false]; omega, fun b h => by have := hb.size; simp only [eq_iff_iff, iff_false]; omega, fun b h => by have := hb.size; simp only [eq_iff_iff, iff_false]; omega⟩

/-- These cells hold these values. -/
def AllC (w : World) : List (Addr × Value) → Prop
  | [] => True
  | p :: r => w.cell? p.1 = some p.2 ∧ AllC w r
theorem keepC {W w1 : World} (hb : Below W.heap.size W w1) : ∀ {L : List (Addr × Value)}, AllC W L → AllC w1 L
  | [], _ => trivial
  | _ :: _, h => ⟨(hb.cell (World.block_lt_of_cell? W _ h.1)).trans h.1, keepC hb h.2⟩

theorem setCell_drewN (w : World) (n : Nat) (a : Addr) (v : Value) : (w.drewN n).setCell a v = (w.setCell a v).drewN n := rfl
theorem alloc_drewN (w : World) (n : Nat) (o : Obj) : (w.drewN n).alloc o = (w.alloc o).drewN n := rfl
theorem below_drewN {B : Nat} {a w : World} (h : Below B a w) (n : Nat) : Below B a (w.drewN n) := ⟨h.os, h.tape, h.output, h.size, h.block⟩
attribute [go_sem] setCell_drewN alloc_drewN

/-- A world that keeps what W holds: x, if it does; else W. -/
noncomputable def wext (W x : World) : World := by
  classical
  exact if Below W.heap.size W x then x else W
theorem below_wext (W x : World) : Below W.heap.size W (wext W x) := by
  classical
  unfold wext
  split
  · assumption
  · exact Below.refl _ _
theorem wext_of {W w : World} (h : Below W.heap.size W w) : w = wext W w := by
  classical
  unfold wext
  rw [if_pos h]
theorem wext_cell (W x : World) (a : Addr) (h : (W.cell? a).isSome = true) : (wext W x).cell? a = W.cell? a := by
  obtain ⟨u, hu⟩ := Option.isSome_iff_exists.1 h
  exact (below_wext W x).cell (World.block_lt_of_cell? W a hu)
theorem wext_frozen (W x : World) (a : Addr) (h : (W.cell? a).isSome = true) : (wext W x).frozen? a = W.frozen? a := by
  obtain ⟨u, hu⟩ := Option.isSome_iff_exists.1 h
  exact (below_wext W x).frozen (World.block_lt_of_cell? W a hu)
attribute [go_sem] wext_cell wext_frozen
/-- A region that draws its order, whose operations only read, and whose callees keep what there is: one walk, in the order of the text. -/
theorem wp_region_ext {P : Program} {id : Nat} {Q : Exit → Act → World → Prop} {a : Act} {w : World} {l : List Oper} (hm : P.follows .mixedOrders = true) (hB : Region.lexB .any l.toArray = true)
    (h : wpQuiet P l.toArray (fun w' => ∃ x, w' = wext w x) (fun a' => ∀ w', (∃ x, w' = wext w x) → Q .normal a' w') l a) : (Code.region id l.toArray true).wp P Q a w :=
  wp_region_quiet (C := fun w' => ∃ x, w' = wext w x) hm hB ⟨_, wext_of (⟨rfl, rfl, rfl, Nat.le_refl _, fun _ _ => rfl⟩ : Below w.heap.size w { w with drawn := w.drawn + 1 })⟩ (by simpa using h)
theorem ext_of {P : Program} {f : FuncId} {args : Array Value} {W x : World} {v : Value} (h : Calls P f args (wext W x) fun e w' => e = .returned v ∧ Below (wext W x).heap.size (wext W x) w') :
    Calls P f args (wext W x) fun e w'' => e = .returned v ∧ ∃ y, w'' = wext W y :=
  h.mono fun _ _ ⟨he, hb⟩ => ⟨he, _, wext_of ((below_wext W x).trans (hb.mono (below_wext W x).size))⟩
theorem ext_alloc {P : Program} {f : FuncId} {args : Array Value} {W x : World} {v : Value} {o : Obj} (h : Calls P f args (wext W x) fun e w' => e = .returned v ∧ w' = (wext W x).alloc o) :
    Calls P f args (wext W x) fun e w'' => e = .returned v ∧ ∃ y, w'' = wext W y :=
  ext_of (h.mono fun _ _ ⟨he, hb⟩ => ⟨he, hb ▸ (Below.refl _ _).alloc (Nat.le_refl _) _⟩)
theorem ext_gen (W x : World) : ∃ w', w' = wext W x ∧ Below W.heap.size W w' := ⟨_, rfl, below_wext W x⟩

/-- Of what was there only the blocks bs may have turned. -/
structure Only (bs : List Nat) (w w' : World) : Prop where
  os : w'.os = w.os
  tape : w'.tape = w.tape
  output : w'.output = w.output
  size : w.heap.size ≤ w'.heap.size
  block : ∀ k, k < w.heap.size → k ∉ bs → w'.heap[k]? = w.heap[k]?
theorem Only.refl (bs : List Nat) (w : World) : Only bs w w := ⟨rfl, rfl, rfl, Nat.le_refl _, fun _ _ _ => rfl⟩
theorem Only.alloc {bs : List Nat} {a w : World} (h : Only bs a w) (o : Obj) : Only bs a (w.alloc o) :=
  ⟨h.os, h.tape, h.output, by have := h.size; simp; omega, fun k hk h1 => (Below.heap_alloc w o k (by have := h.size; omega)).trans (h.block k hk h1)⟩
theorem Only.drewN {bs : List Nat} {a w : World} (h : Only bs a w) (n : Nat) : Only bs a (w.drewN n) := ⟨h.os, h.tape, h.output, h.size, h.block⟩
theorem Only.drew {bs : List Nat} {a w : World} (h : Only bs a w) : Only bs a w.drew := ⟨h.os, h.tape, h.output, h.size, h.block⟩
theorem Only.set {bs : List Nat} {a w : World} (h : Only bs a w) (b o : Nat) (hb : b ∈ bs) (v : Value) : Only bs a (w.setCell ⟨b, o, none⟩ v) :=
  ⟨h.os, h.tape, h.output, by have := h.size; simp; omega, fun k hk h1 => (Below.heap_setCell w _ v k (fun e => h1 (e ▸ hb))).trans (h.block k hk h1)⟩
theorem Only.setNew {bs : List Nat} {a w : World} (h : Only bs a w) (x : Addr) (hx : a.heap.size ≤ x.block) (v : Value) : Only bs a (w.setCell x v) :=
  ⟨h.os, h.tape, h.output, by have := h.size; simp; omega, fun k hk h1 => (Below.heap_setCell w _ v k (by omega)).trans (h.block k hk h1)⟩
theorem Only.trans {bs : List Nat} {a b c : World} (h : Only bs a b) (g : Only bs b c) : Only bs a c :=
  ⟨g.os.trans h.os, g.tape.trans h.tape, g.output.trans h.output, Nat.le_trans h.size g.size, fun k hk h1 => (g.block k (by have := h.size; omega) h1).trans (h.block k hk h1)⟩
theorem Only.mono {bs cs : List Nat} {a b : World} (h : Only bs a b) (hs : ∀ x ∈ bs, x ∈ cs) : Only cs a b :=
  ⟨h.os, h.tape, h.output, h.size, fun k hk h1 => h.block k hk (fun e => h1 (hs k e))⟩
/-- Blocks that are new to the first world need not be listed. -/
theorem Only.fresh {bs cs : List Nat} {a b : World} (h : Only bs a b) (hs : ∀ x ∈ bs, x ∈ cs ∨ a.heap.size ≤ x) : Only cs a b :=
  ⟨h.os, h.tape, h.output, h.size, fun k hk h1 => h.block k hk (fun e => by rcases hs k e with h2 | h2; exact h1 h2; omega)⟩
theorem Only.then {bs : List Nat} {a b c : World} (h : Only bs a b) (g : Below b.heap.size b c) : Only bs a c :=
  ⟨g.os.trans h.os, g.tape.trans h.tape, g.output.trans h.output, Nat.le_trans h.size g.size, fun k hk h1 => (g.block k (by have := h.size; omega)).trans (h.block k hk h1)⟩
theorem Only.of_below {bs : List Nat} {a b : World} (g : Below a.heap.size a b) : Only bs a b := (Only.refl bs a).then g
theorem Only.below {bs : List Nat} {B : Nat} {a w : World} (h : Only bs a w) (hb : ∀ b ∈ bs, B ≤ b) (hB : B ≤ a.heap.size) : Below B a w :=
  ⟨h.os, h.tape, h.output, h.size, fun k hk => h.block k (by omega) (fun e => by have := hb k e; omega)⟩
theorem Only.cell {bs : List Nat} {a w : World} (h : Only bs a w) {b o : Nat} (hb : b < a.heap.size) (h1 : b ∉ bs) : w.cell? ⟨b, o, none⟩ = a.cell? ⟨b, o, none⟩ := World.cell?_of_block (h.block b hb h1)
theorem Only.frozen {bs : List Nat} {a w : World} (h : Only bs a w) {b o : Nat} (hb : b < a.heap.size) (h1 : b ∉ bs) : w.frozen? ⟨b, o, none⟩ = a.frozen? ⟨b, o, none⟩ := World.frozen?_of_block (h.block b hb h1)
theorem keepO {bs : List Nat} {W w1 : World} (hg : Only bs W w1) : ∀ {L : List (Addr × Value)}, (∀ p ∈ L, p.1.block ∉ bs) → AllC W L → AllC w1 L
  | [], _, _ => trivial
  | p :: _, hn, h => ⟨(World.cell?_of_block (hg.block p.1.block (World.block_lt_of_cell? W _ h.1) (hn p (by simp)))).trans h.1, keepO hg (fun q hq => hn q (by simp [hq])) h.2⟩

abbrev ptr (b : Nat) : Value := .pointer (some ⟨b, 0, none⟩)
def c16 (n : Int) : Int := if n < 1 then 1 else if 16 < n then 16 else n
theorem c16_bd (n : Int) : 1 ≤ c16 n ∧ c16 n ≤ 16 := by unfold c16; split; omega; split <;> omega
structure Sn where
  s : Int
  v : Int
def SC : List Sn → List Value
  | [] => []
  | x :: xs => .int .i64 x.s :: .int .u64 x.v :: SC xs
theorem SC_len : ∀ L : List Sn, (SC L).length = L.length * 2
  | [] => rfl
  | l :: ls => by simp [SC, SC_len ls]; omega
theorem SC_one : ∀ (L : List Sn), ∀ u ∈ SC L, u.oneCell' = true
  | [], u, h => by simp [SC] at h
  | l :: ls, u, h => by
    simp only [SC, List.mem_cons] at h
    rcases h with rfl | rfl | h
    · rfl
    · rfl
    · exact SC_one ls u h
theorem SC_app : ∀ (A B : List Sn), SC (A ++ B) = SC A ++ SC B
  | [], B => rfl
  | a :: A, B => by simp [SC, SC_app A B]
def Sn.zero : Sn := ⟨0, 0⟩
theorem SC_get : ∀ (L : List Sn) (i : Nat), i < L.length → (SC L)[i * 2]? = some (.int .i64 (L.getD i .zero).s) ∧ (SC L)[i * 2 + 1]? = some (.int .u64 (L.getD i .zero).v)
  | [], i, h => by simp at h
  | l :: ls, 0, _ => by simp [SC]
  | l :: ls, i + 1, h => by
    have := SC_get ls i (by simpa using h)
    have e : (i + 1) * 2 = i * 2 + 1 + 1 := by omega
    rw [e]
    simpa [SC] using this
/-- What was seen of a stripe first. -/
def fnd (s : Int) : List Sn → Option Int
  | [] => none
  | x :: xs => if x.s == s then some x.v else fnd s xs
theorem fnd_app (s : Int) (x : Sn) : ∀ L : List Sn, fnd s (L ++ [x]) = (fnd s L).or (if x.s == s then some x.v else none)
  | [] => by simp [fnd]
  | l :: ls => by
    simp only [List.cons_append, fnd]
    split
    · simp
    · exact fnd_app s x ls
/-- Reads stand at block R: this is in them. -/
structure ReadsAt (w : World) (R : Nat) (most : Int) (xs : List Sn) : Prop where
  c0 : w.cell? ⟨R, 0, none⟩ = some (.int .i64 most)
  c1 : ∃ v, w.cell? ⟨R, 1, none⟩ = some v ∧ w.ownsRow (R + 1) 28 2 v xs.length (SC xs)
  f1 : w.frozen? ⟨R, 1, none⟩ = false
  lt : R < w.heap.size
theorem ReadsAt.below {w w' : World} {R : Nat} {most : Int} {xs : List Sn} (q : ReadsAt w R most xs) (hb : Below w.heap.size w w') : ReadsAt w' R most xs := by
  obtain ⟨v, h1, h2⟩ := q.c1
  exact ⟨(hb.cell q.lt).trans q.c0, ⟨v, (hb.cell q.lt).trans h1, h2.kept ⟨hb.os, hb.tape, hb.output, hb.size, fun k hk _ => hb.block k hk⟩ (row := none) (by cases h : v.ownBlock with | none => exact .inl rfl | some b => exact .inr (by simp))⟩, (hb.frozen q.lt).trans q.f1, Nat.lt_of_lt_of_le q.lt hb.size⟩
theorem rnew_any (n : Int) (w : World) : Calls Try.prog 7 #[.int .i64 n] w fun e w' => e = .returned (ptr w.heap.size) ∧ ReadsAt w' w.heap.size (c16 n) [] ∧ Below w.heap.size w w' := by
  have en : ∃ b1, (if n < 1 then 1 else n) = b1 ∧ (if 16 < b1 then 16 else b1) = c16 n := ⟨_, rfl, by unfold c16; split <;> (try split) <;> (try split) <;> omega⟩
  obtain ⟨b1, e1, e2⟩ := en
  generalize c16 n = x at *
  go_enter Try.func7, Try.ntmps7
  go_wp2
  go_ret
  refine ⟨rfl, ⟨by simp, ⟨.slice none 0 0, by simp, World.ownsRow_nil _ _ _ _⟩, by simp, by simp⟩, (Below.refl _ _).alloc (Nat.le_refl _) _⟩
set_option maxHeartbeats 1000000 in
theorem rget_any (R : Nat) (most st : Int) (xs : List Sn) (w : World) (q : ReadsAt w R most xs) (hn : xs.length ≤ 1000) : Calls Try.prog 9 #[ptr R, .int .i64 st] w fun e w' => e = .returned (.tuple #[.int .u64 ((fnd st xs).getD 0), .bool (fnd st xs).isSome]) ∧ Below w.heap.size w w' := by
  obtain ⟨v, h1, hown⟩ := q.c1
  rcases hown.2 with ⟨rfl, h0⟩ | ⟨g, cap, cur, rfl, hg, _⟩
  · have : xs = [] := List.eq_nil_of_length_eq_zero h0
    subst this
    clear q hown
    go_enter Try.func9, Try.ntmps9
    go_wp2
    refine wp_loop_rounds 1 ?_
    rw [rounds_succ]
    go_wp2
    go_ret2
    exact ⟨rfl, Below.refl _ _⟩
  · have HO := Lib.hid hown
    have hgl : g < w.heap.size := (hown.lt g rfl).2
    obtain ⟨n, hnn⟩ : ∃ n, xs.length = n := ⟨_, rfl⟩
    have HN := Lib.hid hnn
    have F0 := Lib.hid (rfl : fnd st xs = fnd st xs)
    rw [hnn] at h1 hn
    have CS : Hid (∀ i, i < n → w.cell? ⟨g, i * 2, none⟩ = some (.int .i64 (xs.getD i .zero).s) ∧ w.cell? ⟨g, i * 2 + 1, none⟩ = some (.int .u64 (xs.getD i .zero).v)) := fun i hi => by
      have hi' : i < xs.length := by rw [hnn]; exact hi
      exact ⟨(hown.cellAt _ (by omega)).trans (SC_get xs i hi').1, (hown.cellAt _ (by omega)).trans (SC_get xs i hi').2⟩
    clear hown q hnn hg
    go_enter Try.func9, Try.ntmps9
    go_wp2
    go_loopw [13] (fun u wr => ∃ k : Nat, k ≤ n ∧ u = .int .i64 k ∧ Hid (fnd st xs = fnd st (xs.drop k)) ∧ Hid (Below w.heap.size w wr)) (fun u _ => n - (intOf u).toNat)
    case atStart => exact ⟨0, by omega, rfl, rfl, Below.refl _ _⟩
    case round =>
      obtain ⟨k, hk, rfl, hf, hb⟩ := hrel
      by_cases hlt : k < n
      · obtain ⟨c0, c1⟩ := CS.out k hlt
        have d0 : wr.cell? ⟨g, k * 2, none⟩ = some (.int .i64 (xs.getD k .zero).s) := (hb.out.cell (by exact hgl)).trans c0
        have d1 : wr.cell? ⟨g, k * 2 + 1, none⟩ = some (.int .u64 (xs.getD k .zero).v) := (hb.out.cell (by exact hgl)).trans c1
        have hd : xs.drop k = xs.getD k .zero :: xs.drop (k + 1) := by
          have hi' : k < xs.length := by rw [HN.out]; exact hlt
          rw [List.drop_eq_getElem_cons hi', List.getD_eq_getElem?_getD, List.getElem?_eq_getElem hi']; rfl
        have hstep : fnd st xs = if (xs.getD k .zero).s == st then some (xs.getD k .zero).v else fnd st (xs.drop (k + 1)) := by rw [hf.out, hd, fnd]
        have HS := Lib.hid hstep
        generalize xs.getD k .zero = y at *
        have hki : (k : Int) < (n : Int) := by omega
        have hk0 : (0 : Int) ≤ (k : Int) := by omega
        clear c0 c1 hd hstep
        cases he : (y.s == st)
        · have HE := Lib.hid he
          go_wp2
          go_roundw
          case rel => exact ⟨k + 1, by omega, by go_num, (by show _ = _; rw [HS.out, HE.out]; rfl), hb.out.alloc hb.out.size _⟩
          case measure => simp [intOf]; omega
        · have HE := Lib.hid he
          go_wp2
          go_ret2
          exact ⟨by rw [HS.out, HE.out]; rfl, hb.out.alloc hb.out.size _⟩
      · have hkn : k = n := by omega
        have hd : decide ((k : Int) < (n : Int)) = false := decide_eq_false (by omega)
        have hnone : fnd st xs = none := by rw [hf.out, hkn, ← HN.out, List.drop_length]; rfl
        have HNN := Lib.hid hnone
        clear hkn hnone
        go_wp2
        go_ret2
        exact ⟨by rw [HNN.out]; rfl, hb.out⟩
end Go.Proofs.Ytabhnhodhbpmmaa
