/- the reference's new memory: its rows may be made in any order -/
import Derived.Test.YtmeehagbfcfceaaCW10
import Derived.Test.YtmeehagbfcfceaaLc
import Derived.Test.YtmeehagbfcfceaaChecked
import Derived.KernelRfl

import Derived.WalkKit
import Derived.ProofKit
import Derived.OpenShut
import Derived.ShutString
import Derived.ChangeOld
import Derived.Below
import Derived.Lib.Hide
import Derived.BigQuiet
import Derived.Deep.QuietTactic
import Derived.Deep.RegionWith
import Derived.Deep.Draws
import Derived.Outline
import Derived.Handy
import Derived.Lib.LazyBuf
import Derived.Deep.RegionHeld3
import Derived.RegionTactic
import Derived.OwnWalk
import Derived.Laws.MakeOwn
namespace Go.Proofs.Ytmeehagbfcfceaa
open Go.ChangeShapes Go.WideShapes Go.ChangeAt Go.RowKit
open Go.ChangeMaps (open_string shut_string)
set_option linter.unusedVariables false
set_option linter.unusedSimpArgs false
theorem hp_alloc (w : World) (o : Obj) (k : Nat) : (w.alloc o).heap[k]? = if k = w.heap.size then some o else w.heap[k]? := by
  simp only [World.alloc, Array.getElem?_push]
theorem sz_alloc (w : World) (o : Obj) : (w.alloc o).heap.size = w.heap.size + 1 := by simp
theorem sz_dr1 (w : World) : w.drew.heap.size = w.heap.size := rfl
theorem hp_dr1 (w : World) : w.drew.heap = w.heap := rfl
theorem hp_drew (w : World) (n : Nat) : (w.drewN n).heap = w.heap := rfl
theorem cas1 (w : World) (a : Addr) (o0 : Obj) (h : (w.cell? a).isSome = true) : (w.alloc o0).cell? a = w.cell? a := by
  obtain ⟨u, hu⟩ := Option.isSome_iff_exists.1 h
  exact World.cell?_alloc_lt _ _ _ (World.block_lt_of_cell? w a hu)
theorem cas2 (w : World) (a : Addr) (o0 o1 : Obj) (h : (w.cell? a).isSome = true) : ((w.alloc o0).alloc o1).cell? a = w.cell? a := by
  rw [cas1 _ _ _ (by rw [cas1 _ _ _ h]; exact h), cas1 _ _ _ h]
theorem cas3 (w : World) (a : Addr) (o0 o1 o2 : Obj) (h : (w.cell? a).isSome = true) : (((w.alloc o0).alloc o1).alloc o2).cell? a = w.cell? a := by
  rw [cas1 _ _ _ (by rw [cas2 _ _ _ _ h]; exact h), cas2 _ _ _ _ h]
theorem cas4 (w : World) (a : Addr) (o0 o1 o2 o3 : Obj) (h : (w.cell? a).isSome = true) : ((((w.alloc o0).alloc o1).alloc o2).alloc o3).cell? a = w.cell? a := by
  rw [cas1 _ _ _ (by rw [cas3 _ _ _ _ _ h]; exact h), cas3 _ _ _ _ _ h]
theorem cas5 (w : World) (a : Addr) (o0 o1 o2 o3 o4 : Obj) (h : (w.cell? a).isSome = true) : (((((w.alloc o0).alloc o1).alloc o2).alloc o3).alloc o4).cell? a = w.cell? a := by
  rw [cas1 _ _ _ (by rw [cas4 _ _ _ _ _ _ h]; exact h), cas4 _ _ _ _ _ _ h]
theorem cas6 (w : World) (a : Addr) (o0 o1 o2 o3 o4 o5 : Obj) (h : (w.cell? a).isSome = true) : ((((((w.alloc o0).alloc o1).alloc o2).alloc o3).alloc o4).alloc o5).cell? a = w.cell? a := by
  rw [cas1 _ _ _ (by rw [cas5 _ _ _ _ _ _ _ h]; exact h), cas5 _ _ _ _ _ _ _ h]
abbrev shV (a b c d e : Int) : Value := .agg #[.int .i64 a, .int .i64 b, .int .i64 c, .int .i64 d, .int .u64 e]
theorem shape_calls (sa sb sc sd se : Int) (w : World) : Calls Go.Proofs.Try.prog 30 #[shV sa sb sc sd se] w fun e w' => e = .returned (shV (Go.Lev.xmn (Go.Lev.xmx sa 32) 256) (Go.Lev.xmn (Go.Lev.xmx sb 1) 16) (Go.Lev.xmn (Go.Lev.xmx sc 1) 16) (Go.Lev.xmn (Go.Lev.xmx sd 1) 4) (Go.Lev.xmn se 4611686018427387903)) ∧ Below w.heap.size w w' := by
  have hI := Go.Lev.Inv.start w (g := []) (fun x hx => by cases hx)
  refine (Go.Lev.shape_ok sa sb sc sd se w _ w [shV sa sb sc sd se] hI ?_).mono ?_
  · simp only [Go.Lev.VRs, Go.Lev.VR]
    exact ⟨_, _, rfl, ⟨_, rfl, _, _, rfl, rfl, _, _, rfl, rfl, _, _, rfl, rfl, _, _, rfl, rfl, _, _, rfl, rfl, rfl⟩, rfl⟩
  · rintro e w' ⟨l, s', v, r', ⟨rfl, rfl⟩, rfl, hv, hi, _⟩
    simp only [Go.Lev.VRs, Go.Lev.VR] at hv
    obtain ⟨us, rfl, _, _, rfl, rfl, _, _, rfl, rfl, _, _, rfl, rfl, _, _, rfl, rfl, _, _, rfl, rfl, rfl⟩ := hv
    exact ⟨rfl, hi.below⟩
theorem mkw_row (m : Int) (h0 : 0 ≤ m) (h1 : m ≤ 1000) (w : World) : (Instr.makeSlice 67 (.int .i64 m) (.int .i64 m)).run Go.Proofs.Try.prog w = .ok (.slice (some ⟨w.heap.size, 0, none⟩) m.toNat m.toNat) (w.alloc (.cells (madeCells #[.int .u64 0] m.toNat) 24)) := by
  have info : (Go.Proofs.Try.prog.info? 24).map (fun i => (i.zero, i.size, i.bytes)) = some (some (.int .u64 0), 1, 8) := by kernel_rfl
  obtain ⟨i, hi, hz0, hz1, hz2⟩ := info_parts info
  have := run_make (P := Go.Proofs.Try.prog) w 67 24 i (.int .u64 0) Go.Proofs.Try.underlying67 hi hz0 .i64 .i64 m m h0 (Int.le_refl _) (by rw [hz2]; omega) (by omega)
  rw [hz1, show (Value.int .u64 0).cells = #[.int .u64 0] from rfl] at this
  simpa using this
theorem mkl_row (m : Int) (h0 : 0 ≤ m) (h1 : m ≤ 1000) (w : World) : (Instr.makeSlice 53 (.int .i64 m) (.int .i64 m)).run Go.Proofs.Try.prog w = .ok (.slice (some ⟨w.heap.size, 0, none⟩) m.toNat m.toNat) (w.alloc (.cells (madeCells #[.int .u64 0, .bool false, .int .i64 0] (m.toNat * 3)) 26)) := by
  have info : (Go.Proofs.Try.prog.info? 26).map (fun i => (i.zero, i.size, i.bytes)) = some (some (.agg #[.int .u64 0, .bool false, .int .i64 0]), 3, 24) := by kernel_rfl
  obtain ⟨i, hi, hz0, hz1, hz2⟩ := info_parts info
  have := run_make (P := Go.Proofs.Try.prog) w 53 26 i (.agg #[.int .u64 0, .bool false, .int .i64 0]) Go.Proofs.Try.underlying53 hi hz0 .i64 .i64 m m h0 (Int.le_refl _) (by rw [hz2]; omega) (by omega)
  rw [hz1, show (Value.agg #[Value.int .u64 0, .bool false, .int .i64 0]).cells = #[.int .u64 0, .bool false, .int .i64 0] from rfl] at this
  simpa using this
/-- Four new blocks: the memory, its words, its locks, its slots. -/
def NewPost (w : World) (a b c d s : Int) (e : Ending) (w' : World) : Prop := ∃ (m W L S : Nat) (t1 t2 t3 t4 : TypeId), e = .returned (.pointer (some ⟨m, 0, none⟩)) ∧
  w'.heap[m]? = some (.cells #[.int .i64 a, .int .i64 b, .int .i64 c, .int .i64 d, .int .u64 s, .slice (some ⟨W, 0, none⟩) a.toNat a.toNat, .slice (some ⟨L, 0, none⟩) b.toNat b.toNat, .int .u64 s, .slice (some ⟨S, 0, none⟩) d.toNat d.toNat, .int .i64 0] t1) ∧
  w'.heap[W]? = some (.cells (madeCells #[.int .u64 0] a.toNat) t2) ∧ w'.heap[L]? = some (.cells (madeCells #[.int .u64 0, .bool false, .int .i64 0] (b.toNat * 3)) t3) ∧ w'.heap[S]? = some (.cells (madeCells #[.int .u64 0] d.toNat) t4) ∧
  w.heap.size ≤ m ∧ w.heap.size ≤ W ∧ w.heap.size ≤ L ∧ w.heap.size ≤ S ∧ m ≠ W ∧ m ≠ L ∧ m ≠ S ∧ W ≠ L ∧ W ≠ S ∧ L ≠ S ∧ Below w.heap.size w w'
set_option maxRecDepth 100000 in
set_option maxHeartbeats 2000000 in
theorem newmem_any (sa sb sc sd se a b c d s : Int) (ha : Go.Lev.xmn (Go.Lev.xmx sa 32) 256 = a) (hb : Go.Lev.xmn (Go.Lev.xmx sb 1) 16 = b) (hc : Go.Lev.xmn (Go.Lev.xmx sc 1) 16 = c) (hd : Go.Lev.xmn (Go.Lev.xmx sd 1) 4 = d) (hs : Go.Lev.xmn se 4611686018427387903 = s)
    (a0 : 0 ≤ a) (a1 : a ≤ 1000) (b0 : 0 ≤ b) (b1 : b ≤ 1000) (d0 : 0 ≤ d) (d1 : d ≤ 1000) (w : World) : Calls Go.Proofs.Try.prog 17 #[shV sa sb sc sd se] w (NewPost w a b c d s) := by
  have mk1 := mkw_row a a0 a1
  have mk2 := mkl_row b b0 b1
  have mk3 := mkw_row d d0 d1
  have HS := shape_calls sa sb sc sd se
  rw [ha, hb, hc, hd, hs] at HS
  have HH := Lib.hid HS
  clear HS ha hb hc hd hs
  go_enter Go.Proofs.Try.func17, Go.Proofs.Try.ntmps17
  go_wp2_with (first | (go_at_call 30; (with_reducible refine (HH.out _).mono ?_); rintro e w1 ⟨rfl, hb1⟩; have B1 : Below w.heap.size w w1 := (by refine Below.trans ?_ (hb1.mono (by first | (simp; done) | (have := (Below.refl 0 w).size; simp; omega))); repeat (first | exact Below.refl _ _ | assumption | refine Below.setCell ?_ (by first | (simp; done) | (have := (Below.refl 0 w).size; simp; omega)) _ | refine Below.alloc ?_ (by first | (simp; done) | (have := (Below.refl 0 w).size; simp; omega)) _ | refine Below.drew ?_)); clear hb1))
  go_region_held3 (fun w' => w'.cell? ⟨w1.heap.size, 0, none⟩ = some (.int .i64 a) ∧ w'.cell? ⟨w1.heap.size, 1, none⟩ = some (.int .i64 b) ∧ w'.cell? ⟨w1.heap.size, 2, none⟩ = some (.int .i64 c) ∧ w'.cell? ⟨w1.heap.size, 3, none⟩ = some (.int .i64 d) ∧ w'.cell? ⟨w1.heap.size, 4, none⟩ = some (.int .u64 s)) (first | (simp [*, World.cell?_alloc_some, World.cell?_setCell_far]; done) | (simp [cas1, cas2, cas3, cas4, cas5, cas6]; done)) (fail)
  all_goals go_wp2
  all_goals go_ret
  all_goals have hz := B1.size
  all_goals first
    | (refine ⟨w1.heap.size + 4, w1.heap.size + 1, w1.heap.size + 2, w1.heap.size + 3, 69, 24, 26, 24, rfl, ?_, ?_, ?_, ?_, by omega, by omega, by omega, by omega, by omega, by omega, by omega, by omega, by omega, by omega, ?_⟩ <;> first | (simp only [hp_alloc, hp_dr1, hp_drew, sz_alloc, sz_dr1]; (repeat (first | rw [if_pos (by omega)] | rw [if_neg (by omega)])); rfl) | ((repeat (first | exact Below.refl _ _ | assumption | refine Below.alloc ?_ (by first | (simp; done) | (have := B1.size; simp; omega)) _ | refine Below.drew ?_)); done))
    | (refine ⟨w1.heap.size + 4, w1.heap.size + 1, w1.heap.size + 3, w1.heap.size + 2, 69, 24, 26, 24, rfl, ?_, ?_, ?_, ?_, by omega, by omega, by omega, by omega, by omega, by omega, by omega, by omega, by omega, by omega, ?_⟩ <;> first | (simp only [hp_alloc, hp_dr1, hp_drew, sz_alloc, sz_dr1]; (repeat (first | rw [if_pos (by omega)] | rw [if_neg (by omega)])); rfl) | ((repeat (first | exact Below.refl _ _ | assumption | refine Below.alloc ?_ (by first | (simp; done) | (have := B1.size; simp; omega)) _ | refine Below.drew ?_)); done))
    | (refine ⟨w1.heap.size + 4, w1.heap.size + 2, w1.heap.size + 1, w1.heap.size + 3, 69, 24, 26, 24, rfl, ?_, ?_, ?_, ?_, by omega, by omega, by omega, by omega, by omega, by omega, by omega, by omega, by omega, by omega, ?_⟩ <;> first | (simp only [hp_alloc, hp_dr1, hp_drew, sz_alloc, sz_dr1]; (repeat (first | rw [if_pos (by omega)] | rw [if_neg (by omega)])); rfl) | ((repeat (first | exact Below.refl _ _ | assumption | refine Below.alloc ?_ (by first | (simp; done) | (have := B1.size; simp; omega)) _ | refine Below.drew ?_)); done))
    | (refine ⟨w1.heap.size + 4, w1.heap.size + 2, w1.heap.size + 3, w1.heap.size + 1, 69, 24, 26, 24, rfl, ?_, ?_, ?_, ?_, by omega, by omega, by omega, by omega, by omega, by omega, by omega, by omega, by omega, by omega, ?_⟩ <;> first | (simp only [hp_alloc, hp_dr1, hp_drew, sz_alloc, sz_dr1]; (repeat (first | rw [if_pos (by omega)] | rw [if_neg (by omega)])); rfl) | ((repeat (first | exact Below.refl _ _ | assumption | refine Below.alloc ?_ (by first | (simp; done) | (have := B1.size; simp; omega)) _ | refine Below.drew ?_)); done))
    | (refine ⟨w1.heap.size + 4, w1.heap.size + 3, w1.heap.size + 1, w1.heap.size + 2, 69, 24, 26, 24, rfl, ?_, ?_, ?_, ?_, by omega, by omega, by omega, by omega, by omega, by omega, by omega, by omega, by omega, by omega, ?_⟩ <;> first | (simp only [hp_alloc, hp_dr1, hp_drew, sz_alloc, sz_dr1]; (repeat (first | rw [if_pos (by omega)] | rw [if_neg (by omega)])); rfl) | ((repeat (first | exact Below.refl _ _ | assumption | refine Below.alloc ?_ (by first | (simp; done) | (have := B1.size; simp; omega)) _ | refine Below.drew ?_)); done))
    | (refine ⟨w1.heap.size + 4, w1.heap.size + 3, w1.heap.size + 2, w1.heap.size + 1, 69, 24, 26, 24, rfl, ?_, ?_, ?_, ?_, by omega, by omega, by omega, by omega, by omega, by omega, by omega, by omega, by omega, by omega, ?_⟩ <;> first | (simp only [hp_alloc, hp_dr1, hp_drew, sz_alloc, sz_dr1]; (repeat (first | rw [if_pos (by omega)] | rw [if_neg (by omega)])); rfl) | ((repeat (first | exact Below.refl _ _ | assumption | refine Below.alloc ?_ (by first | (simp; done) | (have := B1.size; simp; omega)) _ | refine Below.drew ?_)); done))
end Go.Proofs.Ytmeehagbfcfceaa
namespace Go.Lev
open Go.RowKit
set_option linter.unusedVariables false
set_option linter.unusedSimpArgs false
noncomputable section
def zW (n : Nat) : List LV := encL (cI .u64) (List.replicate n 0)

def zL (n : Nat) : List LV := encL cL (List.replicate n (0, false, 0))

def m0 (a b d s : Int) : MS := ⟨List.replicate a.toNat 0, List.replicate b.toNat (0, false, 0), s, List.replicate d.toNat 0, 0⟩
def nmR (m W L S : Nat) (a b d : Int) : Ren
  | 0 => some (m, 0, 1)
  | 1 => some (W, 0, a.toNat)
  | 2 => some (L, 0, b.toNat)
  | 3 => some (S, 0, d.toNat)
  | _ => none
theorem made_w {r : Ren} (n i : Nat) (l : LV) (h : (encL (cI .u64) (List.replicate n 0))[i]? = some l) : l.plain = true ∧ ∃ u, (madeCells #[.int .u64 0] n)[0 + i]? = some u ∧ VR r l u := by
  have hl : (encL (cI .u64) (List.replicate n (0 : Int))).length = n := by rw [encIu64_len]; simp
  have hi : i < n := by have := (List.getElem?_eq_some_iff.1 h).1; omega
  have := encL_get (cI_len .u64) (List.replicate n (0 : Int)) i 0 (by simpa using hi) (by omega)
  simp only [Nat.mul_one, Nat.add_zero] at this
  rw [this] at h
  simp [cI] at h
  subst h
  have hm : (madeCells #[.int .u64 0] n)[0 + i]? = some ((#[Value.int .u64 0] : Array Value)[i % 1]!) := by simp [madeCells, hi]
  rw [Nat.mod_one] at hm
  exact ⟨rfl, _, hm, by simp only [VR]; try rfl⟩
theorem made_l {r : Ren} (n i : Nat) (l : LV) (h : (encL cL (List.replicate n ((0 : Int), false, (0 : Int))))[i]? = some l) : l.plain = true ∧ ∃ u, (madeCells #[.int .u64 0, .bool false, .int .i64 0] (n * 3))[0 + i]? = some u ∧ VR r l u := by
  have hl : (encL cL (List.replicate n ((0 : Int), false, (0 : Int)))).length = n * 3 := by rw [lk_n]; simp
  have hi : i < n * 3 := by have := (List.getElem?_eq_some_iff.1 h).1; omega
  have hj : i / 3 < n := by omega
  have := encL_get cL_len (List.replicate n ((0 : Int), false, (0 : Int))) (i / 3) (i % 3) (by simpa using hj) (Nat.mod_lt _ (by omega))
  rw [show i / 3 * 3 + i % 3 = i by omega] at this
  rw [this] at h
  simp only [List.getElem_replicate] at h
  have hm : (madeCells #[.int .u64 0, .bool false, .int .i64 0] (n * 3))[0 + i]? = some ((#[Value.int .u64 0, .bool false, .int .i64 0] : Array Value)[i % 3]!) := by simp [madeCells, hi]
  rw [hm]
  have h3 : i % 3 = 0 ∨ i % 3 = 1 ∨ i % 3 = 2 := by omega
  rcases h3 with e | e | e <;> rw [e] at h ⊢ <;> simp [cL] at h <;> subst h
  · exact ⟨rfl, _, rfl, by simp only [VR]; try rfl⟩
  · exact ⟨rfl, _, rfl, by simp only [VR]; try rfl⟩
  · exact ⟨rfl, _, rfl, by simp only [VR]; try rfl⟩
theorem made_one (z : Array Value) (n : Nat) (hz : ∀ i, (z[i % z.size]!).oneCell' = true) : ∀ v ∈ (madeCells z n).toList, v.oneCell' = true := by
  intro v hv
  simp [madeCells] at hv
  obtain ⟨i, _, rfl⟩ := hv
  exact hz i
theorem mod3_one (i : Nat) : ((#[Value.int .u64 0, .bool false, .int .i64 0] : Array Value)[i % (#[Value.int .u64 0, .bool false, .int .i64 0] : Array Value).size]!).oneCell' = true := by
  have h3 : i % 3 = 0 ∨ i % 3 = 1 ∨ i % 3 = 2 := by omega
  show ((#[Value.int .u64 0, .bool false, .int .i64 0] : Array Value)[i % 3]!).oneCell' = true
  rcases h3 with e | e | e <;> rw [e] <;> rfl
theorem mod1_one (i : Nat) : ((#[Value.int .u64 0] : Array Value)[i % (#[Value.int .u64 0] : Array Value).size]!).oneCell' = true := by
  show ((#[Value.int .u64 0] : Array Value)[i % 1]!).oneCell' = true
  rw [Nat.mod_one]; rfl
theorem newmem_fun (sa sb sc sd se a b c d s : Int) (ha : xmn (xmx sa 32) 256 = a) (hb : xmn (xmx sb 1) 16 = b) (hc : xmn (xmx sc 1) 16 = c) (hd : xmn (xmx sd 1) 4 = d) (hs : xmn se 4611686018427387903 = s)
    (a0 : 0 ≤ a) (a1 : a ≤ 1000) (b0 : 0 ≤ b) (b1 : b ≤ 1000) (d0 : 0 ≤ d) (d1 : d ≤ 1000) : SFun Go.Proofs.Try.prog 17 [.agg (shC sa sb sc sd se)] (mkS [])
    fun l s' => l = .ptr 0 0 ∧ s' = mkS (rH a b c d s s 0 a.toNat b.toNat d.toNat (zW a.toNat) (zL b.toNat) (zW d.toNat)) := by
  intro W0 r w us hI hv
  have hus : us = [.agg #[.int .i64 sa, .int .i64 sb, .int .i64 sc, .int .i64 sd, .int .u64 se]] := by
    simp only [VRs, VR] at hv
    obtain ⟨_, _, rfl, ⟨_, rfl, _, _, rfl, rfl, _, _, rfl, rfl, _, _, rfl, rfl, _, _, rfl, rfl, _, _, rfl, rfl, rfl⟩, rfl⟩ := hv
    rfl
  subst hus
  refine (Go.Proofs.Ytmeehagbfcfceaa.newmem_any sa sb sc sd se a b c d s ha hb hc hd hs a0 a1 b0 b1 d0 d1 w).mono fun e w' ⟨m, W, L, S, t1, t2, t3, t4, he, hm, hW, hL, hS, gm, gW, gL, gS, n1, n2, n3, n4, n5, n6, bel⟩ => ?_
  have sz : ∀ (B : Nat) (o : Obj), w'.heap[B]? = some o → B < w'.heap.size := fun B o h => (Array.getElem?_eq_some_iff.1 h).1
  have wsz := hI.below.size
  have get := fun k => mkS_get (rH a b c d s s 0 a.toNat b.toNat d.toNat (zW a.toNat) (zL b.toNat) (zW d.toNat)) [] k
  have hr : ∀ k x, nmR m W L S a b d k = some x → (k = 0 ∧ x = (m, 0, 1)) ∨ (k = 1 ∧ x = (W, 0, a.toNat)) ∨ (k = 2 ∧ x = (L, 0, b.toNat)) ∨ (k = 3 ∧ x = (S, 0, d.toNat)) := fun k x h => by
    rcases k with _ | _ | _ | _ | k <;> simp [nmR] at h
    · exact .inl ⟨rfl, h.symm⟩
    · exact .inr (.inl ⟨rfl, h.symm⟩)
    · exact .inr (.inr (.inl ⟨rfl, h.symm⟩))
    · exact .inr (.inr (.inr ⟨rfl, h.symm⟩))
  have lo : ∀ k x, nmR m W L S a b d k = some x → w.heap.size ≤ x.1 := fun k x h => by
    rcases hr k x h with ⟨_, rfl⟩ | ⟨_, rfl⟩ | ⟨_, rfl⟩ | ⟨_, rfl⟩ <;> assumption
  refine ⟨.ptr 0 0, _, _, nmR m W L S a b d, ⟨rfl, rfl⟩, he, ?_, ⟨?_, ?_, ?_, ?_, ?_, ?_, ?_, ?_, ?_⟩, ⟨?_, Nat.zero_le _, bel.size, ?_, ?_⟩⟩
  · simp only [VR]; exact ⟨m, 0, 1, rfl, rfl⟩
  · exact hI.below.trans (bel.mono wsz)
  · intro k x h
    refine ⟨?_, ?_⟩
    · rw [mkS_n]; rcases hr k x h with ⟨rfl, _⟩ | ⟨rfl, _⟩ | ⟨rfl, _⟩ | ⟨rfl, _⟩ <;> simp
    · rcases hr k x h with ⟨_, rfl⟩ | ⟨_, rfl⟩ | ⟨_, rfl⟩ | ⟨_, rfl⟩
      · exact sz _ _ hm
      · exact sz _ _ hW
      · exact sz _ _ hL
      · exact sz _ _ hS
  · intro k x _ h; exact Nat.le_trans wsz (lo k x h)
  · intro k h
    rw [mkS_n] at h
    rw [get k]; exact List.getElem?_eq_none h
  · intro k k' x x' _ _ h h' e'
    rcases hr k x h with ⟨rfl, rfl⟩ | ⟨rfl, rfl⟩ | ⟨rfl, rfl⟩ | ⟨rfl, rfl⟩ <;> rcases hr k' x' h' with ⟨rfl, rfl⟩ | ⟨rfl, rfl⟩ | ⟨rfl, rfl⟩ | ⟨rfl, rfl⟩ <;> first | rfl | (simp only at e'; omega)
  · intro k cs op h
    rw [get k] at h
    rcases k with _ | _ | _ | _ | k
    · simp at h; obtain ⟨rfl, rfl⟩ := h
      refine .inr ⟨_, rfl, ⟨⟨_, t1, 0, 0, hm, fun i l hl => ?_, fun i _ hh => by omega, by simp [room], ?_⟩, by simp [room]⟩⟩
      · rcases i with _ | _ | _ | _ | _ | _ | _ | _ | _ | _ | i <;> simp at hl <;> subst hl
        · exact ⟨rfl, _, rfl, by simp only [VR]; try rfl⟩
        · exact ⟨rfl, _, rfl, by simp only [VR]; try rfl⟩
        · exact ⟨rfl, _, rfl, by simp only [VR]; try rfl⟩
        · exact ⟨rfl, _, rfl, by simp only [VR]; try rfl⟩
        · exact ⟨rfl, _, rfl, by simp only [VR]; try rfl⟩
        · exact ⟨rfl, _, rfl, by simp only [VR]; exact .inl ⟨W, 0, a.toNat, rfl, by omega, rfl⟩⟩
        · exact ⟨rfl, _, rfl, by simp only [VR]; exact .inl ⟨L, 0, b.toNat, rfl, by omega, rfl⟩⟩
        · exact ⟨rfl, _, rfl, by simp only [VR]; try rfl⟩
        · exact ⟨rfl, _, rfl, by simp only [VR]; exact .inl ⟨S, 0, d.toNat, rfl, by omega, rfl⟩⟩
        · exact ⟨rfl, _, rfl, by simp only [VR]; try rfl⟩
      · intro v hv; simp at hv; rcases hv with rfl | rfl | rfl | rfl | rfl | rfl | rfl | rfl | rfl | rfl <;> rfl
    · simp at h; obtain ⟨rfl, rfl⟩ := h
      exact .inr ⟨_, rfl, ⟨⟨_, t2, 0, 0, hW, fun i l hl => made_w _ i l hl, fun i _ hh => by omega, by simp [room, size_madeCells], made_one _ _ mod1_one⟩, by simp [room, zW, encIu64_len]⟩⟩
    · simp at h; obtain ⟨rfl, rfl⟩ := h
      exact .inr ⟨_, rfl, ⟨⟨_, t3, 0, 0, hL, fun i l hl => made_l _ i l hl, fun i _ hh => by omega, by simp [room, size_madeCells], made_one _ _ mod3_one⟩, by simp [room, zL, lk_n]⟩⟩
    · simp at h; obtain ⟨rfl, rfl⟩ := h
      exact .inr ⟨_, rfl, ⟨⟨_, t4, 0, 0, hS, fun i l hl => made_w _ i l hl, fun i _ hh => by omega, by simp [room, size_madeCells], made_one _ _ mod1_one⟩, by simp [room, zW, encIu64_len]⟩⟩
    · simp at h
  · intro k t p h
    rw [get k] at h
    rcases k with _ | _ | _ | _ | k <;> simp at h
  · intro x hx; cases hx
  · intro k cs h
    rw [get k] at h
    rcases k with _ | _ | _ | _ | k <;> simp at h
  · intro k x h
    have := (hI.dom k x h).1
    rw [mkS_n] at this
    simp at this
  · intro k x _ h hlt
    have := lo k x h
    omega
  · intro B hB _; exact bel.block B hB
def newmemG : Gc := fun args s => match args, s.g with
  | [.agg [.int .i64 sa, .int .i64 sb, .int .i64 sc, .int .i64 sd, .int .u64 se]], [] => (match s.lay [] [] [.cells [.int .i64 (xmn (xmx sa 32) 256), .int .i64 (xmn (xmx sb 1) 16), .int .i64 (xmn (xmx sc 1) 16), .int .i64 (xmn (xmx sd 1) 4), .int .u64 (xmn se 4611686018427387903), .slo (Nat.succ s.n) 0 (xnat (xmn (xmx sa 32) 256)) 0, .slo (Nat.succ (Nat.succ s.n)) 0 (xnat (xmn (xmx sb 1) 16)) 0, .int .u64 (xmn se 4611686018427387903), .slo (Nat.succ (Nat.succ (Nat.succ s.n))) 0 (xnat (xmn (xmx sd 1) 4)) 0, .int .i64 0] none, .cells (zW (xnat (xmn (xmx sa 32) 256))) (some 1), .cells (zL (xnat (xmn (xmx sb 1) 16))) (some 3), .cells (zW (xnat (xmn (xmx sd 1) 4))) (some 1)] with
    | some s' => some ([], .ptr s.n 0, s')
    | none => none)
  | _, _ => none
theorem cl_in (a : Int) {lo hi : Int} (h : lo ≤ hi) : lo ≤ xmn (xmx a lo) hi ∧ xmn (xmx a lo) hi ≤ hi := by
  simp only [wd_mn, wd_mx]; split <;> split <;> omega
theorem newmemG_ok : GOk Go.Proofs.Try.prog 17 newmemG := by
  intro args s bs l s' hg hb hfr
  unfold newmemG at hg
  split at hg
  · rename_i sa sb sc sd se hgl
    split at hg
    · rename_i s1 hs1
      simp only [Option.some.injEq, Prod.mk.injEq] at hg
      obtain ⟨rfl, rfl, rfl⟩ := hg
      have c1 := cl_in sa (show (32 : Int) ≤ 256 by omega)
      have c2 := cl_in sb (show (1 : Int) ≤ 16 by omega)
      have c4 := cl_in sd (show (1 : Int) ≤ 4 by omega)
      have hx := newmem_fun sa sb sc sd se _ _ _ _ _ rfl rfl rfl rfl rfl (by omega) (by omega) (by omega) (by omega) (by omega) (by omega)
      generalize xmn (xmx sa 32) 256 = a at *
      generalize xmn (xmx sb 1) 16 = b at *
      generalize xmn (xmx sc 1) 16 = c at *
      generalize xmn (xmx sd 1) 4 = d at *
      generalize xmn se 4611686018427387903 = e at *
      refine SFun.lay (bs := []) (bs' := rH a b c d e e 0 a.toNat b.toNat d.toNat (zW a.toNat) (zL b.toNat) (zW d.toNat)) (args0 := [.agg (shC sa sb sc sd se)]) (v0 := .ptr 0 0) hfr hs1 (by simp) trivial (by ((repeat refine lws_cons (by (first | exact lw_any | exact lw_int | exact lw_bool | exact lw_ptr rfl | exact lw_slo rfl | exact lw_nilp | exact lw_nils | exact lw_str | exact lw_slo_nils | exact lw_slo_sle | exact lw_sl rfl | exact lw_unb | exact lw_gptr | exact lw_noid rfl | exact lw_cap rfl (Nat.le_refl _) | exact lw_cap rfl (by omega) | assumption | exact lw_tup (by ((repeat refine lws_cons (by (first | exact lw_any | exact lw_int | exact lw_bool | exact lw_ptr rfl | exact lw_slo rfl | exact lw_nilp | exact lw_nils | exact lw_str | exact lw_slo_nils | exact lw_slo_sle | exact lw_sl rfl | exact lw_unb | exact lw_gptr | exact lw_noid rfl | exact lw_cap rfl (Nat.le_refl _) | exact lw_cap rfl (by omega) | assumption)) ?_); exact lws_nil)))) ?_); exact lws_nil)) ?_
        fun κ h1 h2 => ⟨⟨lb_cells (lws_cons lw_int (lws_cons lw_int (lws_cons lw_int (lws_cons lw_int (lws_cons lw_int (lws_cons (lw_slo (h2 1 (by simp))) (lws_cons (lw_slo (h2 2 (by simp))) (lws_cons lw_int (lws_cons (lw_slo (h2 3 (by simp))) (lws_cons lw_int lws_nil)))))))))) (by simp), lb_same (noIds_Iu64 _), lb_same (noids_l _), lb_same (noIds_Iu64 _), trivial⟩, lw_ptr (h2 0 (by simp))⟩
      rw [hgl]
      exact hx
    · cases hg
  · cases hg
end
end Go.Lev

