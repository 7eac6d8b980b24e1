/- LockBack: the walk of the law. -/


import Derived.Test.YtekndgioebfmbaaRuns
import Derived.Test.YtekndgioebfmbaaMath
import Derived.Deep.QuietTactic
import Derived.Deep.RegionWith
namespace Go.Proofs.Ytekndgioebfmbaa
open Go.ChangeShapes Go.WideShapes Go.ChangeAt Go.RowKit
open Go.ChangeMaps (open_string shut_string)
set_option linter.unusedVariables false
/-- A world that keeps what W holds: x, if it does; else W. -/
noncomputable def wext (W x : World) : World := by
  classical
  exact if Below W.heap.size W x then x else W
theorem below_wext (W x : World) : Below W.heap.size W (wext W x) := by
  classical
  unfold wext
  split
  · assumption
  · exact Below.refl _ _
theorem wext_of {W w : World} (h : Below W.heap.size W w) : w = wext W w := by
  classical
  unfold wext
  rw [if_pos h]
theorem wext_cell (W x : World) (a : Addr) (h : (W.cell? a).isSome = true) : (wext W x).cell? a = W.cell? a := by
  obtain ⟨u, hu⟩ := Option.isSome_iff_exists.1 h
  exact (below_wext W x).cell (World.block_lt_of_cell? W a hu)
theorem wext_frozen (W x : World) (a : Addr) (h : (W.cell? a).isSome = true) : (wext W x).frozen? a = W.frozen? a := by
  obtain ⟨u, hu⟩ := Option.isSome_iff_exists.1 h
  exact (below_wext W x).frozen (World.block_lt_of_cell? W a hu)
attribute [go_sem] wext_cell wext_frozen
/-- A region that draws its order, whose operations only read, and whose callees keep what there is: one walk, in the order of the text. -/
theorem wp_region_ext {P : Program} {id : Nat} {Q : Exit → Act → World → Prop} {a : Act} {w : World} {l : List Oper} (hm : P.follows .mixedOrders = true) (hB : Region.lexB .any l.toArray = true)
    (h : wpQuiet P l.toArray (fun w' => ∃ x, w' = wext w x) (fun a' => ∀ w', (∃ x, w' = wext w x) → Q .normal a' w') l a) : (Code.region id l.toArray true).wp P Q a w :=
  wp_region_quiet (C := fun w' => ∃ x, w' = wext w x) hm hB ⟨_, wext_of (⟨rfl, rfl, rfl, Nat.le_refl _, fun _ _ => rfl⟩ : Below w.heap.size w { w with drawn := w.drawn + 1 })⟩ (by simpa using h)
theorem ext_of {P : Program} {f : FuncId} {args : Array Value} {W x : World} {v : Value} (h : Calls P f args (wext W x) fun e w' => e = .returned v ∧ Below (wext W x).heap.size (wext W x) w') :
    Calls P f args (wext W x) fun e w'' => e = .returned v ∧ ∃ y, w'' = wext W y :=
  h.mono fun _ _ ⟨he, hb⟩ => ⟨he, _, wext_of ((below_wext W x).trans (hb.mono (below_wext W x).size))⟩
theorem ext_alloc {P : Program} {f : FuncId} {args : Array Value} {W x : World} {v : Value} {o : Obj} (h : Calls P f args (wext W x) fun e w' => e = .returned v ∧ w' = (wext W x).alloc o) :
    Calls P f args (wext W x) fun e w'' => e = .returned v ∧ ∃ y, w'' = wext W y :=
  ext_of (h.mono fun _ _ ⟨he, hb⟩ => ⟨he, hb ▸ (Below.refl _ _).alloc (Nat.le_refl _) _⟩)
theorem ext_gen (W x : World) : ∃ w', w' = wext W x ∧ Below W.heap.size W w' := ⟨_, rfl, below_wext W x⟩

theorem ba_eq {a b : ByteArray} (h : (a.toList == b.toList) = true) : a = b := by
  have e := eq_of_beq h
  rw [ByteArray.toList_eq, ByteArray.toList_eq] at e
  obtain ⟨⟨a⟩⟩ := a
  obtain ⟨⟨b⟩⟩ := b
  simp at e
  rw [e]
theorem strB_size (v : Int) (h : Bool) (o : Int) (hk : isB v h o = true) : (strB v h o).size = 9 := by rw [strB_lit v h o hk]; rfl
theorem read_str (v : Int) (h : Bool) (o : Int) (w : World) (hk : isB v h o = true) (h0 : 0 ≤ v) : Calls Try.prog 17 #[.string (strB v h o)] w fun e w' => e = .returned (.tuple #[lk v h o, .bool true]) ∧ Below w.heap.size w w' := by
  obtain ⟨e1, e2, e3⟩ := rd_back v h o hk h0
  have e4 := rK_back v h o hk h0
  rw [strB_lit v h o hk]
  refine (read_9 _ _ _ _ _ _ _ _ _ w).mono fun e w' hh => ?_
  rw [e1, e2, e3, e4] at hh
  exact hh
theorem read_str0 (v : Int) (h : Bool) (o : Int) (w : World) (hk : isB v h o = true) : Calls Try.prog 17 #[.string (strB v h o ++ ⟨#[0]⟩)] w fun e w' => e = .returned (.tuple #[lk 0 false 0, .bool false]) ∧ Below w.heap.size w w' := by
  have h10 : (strB v h o ++ (⟨#[0]⟩ : ByteArray)).size = 10 := by rw [strB_lit v h o hk]; rfl
  exact read_no _ w (by omega) (by rw [h10]; decide)
set_option maxRecDepth 100000 in
set_option maxHeartbeats 1000000 in
theorem back_no (v o v2 o2 : Int) (h h2 : Bool) (w : World) (p1 : 0 ≤ v) (p2 : 0 ≤ v2) (hk : isB v h o = false) : Calls Try.prog 6 #[lk v h o, lk v2 h2 o2] w fun e w' => e = .returned (.bool true) ∧ Below w.heap.size w w' := by
  have es : strB v h o = ⟨#[]⟩ := by rw [strB, if_neg (by simp [hk])]
  go_enter Try.func6, Try.ntmps6
  go_wp2_with (first | (go_at_call 3; (with_reducible refine (runs_any _).mono ?_); rintro e w1 ⟨rfl, hb1⟩; have K1 := keepC hb1 (L := [(⟨w.heap.size, 0, none⟩, .int .u64 v), (⟨w.heap.size, 1, none⟩, .bool h), (⟨w.heap.size, 2, none⟩, .int .i64 o), (⟨w.heap.size + 1, 0, none⟩, .int .u64 v2), (⟨w.heap.size + 1, 1, none⟩, .bool h2), (⟨w.heap.size + 1, 2, none⟩, .int .i64 o2)]) (by simp [AllC, *, go_sem]); simp only [AllC] at K1; obtain ⟨c1_0, c1_1, c1_2, c1_3, c1_4, c1_5, -⟩ := K1; have B1 : Below w.heap.size w w1 := (by refine Below.trans ?_ (hb1.mono (by first | (simp; done) | (have := (Below.refl 0 w).size; simp; omega))); repeat (first | exact Below.refl _ _ | assumption | refine Below.setCell ?_ (by first | (simp; done) | (have := (Below.refl 0 w).size; simp; omega)) _ | refine Below.alloc ?_ (by first | (simp; done) | (have := (Below.refl 0 w).size; simp; omega)) _ | refine Below.drew ?_)); clear hb1))
  go_wp2
  refine wp_region_ext (by kernel_rfl) (by kernel_rfl) ?_
  repeat (quiet_step (first | (go_at_call_of 11 (Value.int .u64 v); exact ext_of (bytes_any _ _ _ _ p1)) | (go_at_call 11; exact ext_of (bytes_any _ _ _ _ p2))))
  refine wpQuiet_nil ?_
  rintro _ ⟨x2, rfl⟩
  obtain ⟨w2, hg2, hb2⟩ := ext_gen _ x2
  rw [← hg2]
  clear hg2
  have K2 := keepC hb2 (L := [(⟨w.heap.size, 0, none⟩, .int .u64 v), (⟨w.heap.size, 1, none⟩, .bool h), (⟨w.heap.size, 2, none⟩, .int .i64 o), (⟨w.heap.size + 1, 0, none⟩, .int .u64 v2), (⟨w.heap.size + 1, 1, none⟩, .bool h2), (⟨w.heap.size + 1, 2, none⟩, .int .i64 o2)]) (by simp [AllC, *, go_sem])
  simp only [AllC] at K2
  obtain ⟨c2_0, c2_1, c2_2, c2_3, c2_4, c2_5, -⟩ := K2
  have B2 : Below w.heap.size w w2 := (by refine Below.trans ?_ (hb2.mono (by first | (simp; done) | (have := (B1).size; simp; omega))); repeat (first | exact Below.refl _ _ | assumption | refine Below.setCell ?_ (by first | (simp; done) | (have := (B1).size; simp; omega)) _ | refine Below.alloc ?_ (by first | (simp; done) | (have := (B1).size; simp; omega)) _ | refine Below.drew ?_))
  clear hb2
  go_wp2_with (first | (go_at_call 13; refine Calls.mono (is_any _ _ _ _) ?_; rintro e w' ⟨rfl, rfl⟩))
  go_wp2
  go_ret
  refine ⟨rfl, ?_⟩
  repeat (first | exact Below.refl _ _ | assumption | refine Below.setCell ?_ (by first | (simp; done) | (have := (B2).size; simp; omega)) _ | refine Below.alloc ?_ (by first | (simp; done) | (have := (B2).size; simp; omega)) _ | refine Below.drew ?_)
set_option maxRecDepth 100000 in
set_option maxHeartbeats 1000000 in
theorem back_eq (v o : Int) (h : Bool) (w : World) (p1 : 0 ≤ v) (p2 : 0 ≤ v) (hk : isB v h o = true) : Calls Try.prog 6 #[lk v h o, lk v h o] w fun e w' => e = .returned (.bool true) ∧ Below w.heap.size w w' := by
  have hsz := strB_size v h o hk
  have HK := Lib.hid hk
  go_enter Try.func6, Try.ntmps6
  go_wp2_with (first | (go_at_call 3; (with_reducible refine (runs_any _).mono ?_); rintro e w1 ⟨rfl, hb1⟩; have K1 := keepC hb1 (L := [(⟨w.heap.size, 0, none⟩, .int .u64 v), (⟨w.heap.size, 1, none⟩, .bool h), (⟨w.heap.size, 2, none⟩, .int .i64 o), (⟨w.heap.size + 1, 0, none⟩, .int .u64 v), (⟨w.heap.size + 1, 1, none⟩, .bool h), (⟨w.heap.size + 1, 2, none⟩, .int .i64 o)]) (by simp [AllC, *, go_sem]); simp only [AllC] at K1; obtain ⟨c1_0, c1_1, c1_2, c1_3, c1_4, c1_5, -⟩ := K1; have B1 : Below w.heap.size w w1 := (by refine Below.trans ?_ (hb1.mono (by first | (simp; done) | (have := (Below.refl 0 w).size; simp; omega))); repeat (first | exact Below.refl _ _ | assumption | refine Below.setCell ?_ (by first | (simp; done) | (have := (Below.refl 0 w).size; simp; omega)) _ | refine Below.alloc ?_ (by first | (simp; done) | (have := (Below.refl 0 w).size; simp; omega)) _ | refine Below.drew ?_)); clear hb1))
  go_wp2
  refine wp_region_ext (by kernel_rfl) (by kernel_rfl) ?_
  repeat (quiet_step (first | (go_at_call_of 11 (Value.int .u64 v); exact ext_of (bytes_any _ _ _ _ p1)) | (go_at_call 11; exact ext_of (bytes_any _ _ _ _ p2))))
  refine wpQuiet_nil ?_
  rintro _ ⟨x2, rfl⟩
  obtain ⟨w2, hg2, hb2⟩ := ext_gen _ x2
  rw [← hg2]
  clear hg2
  have K2 := keepC hb2 (L := [(⟨w.heap.size, 0, none⟩, .int .u64 v), (⟨w.heap.size, 1, none⟩, .bool h), (⟨w.heap.size, 2, none⟩, .int .i64 o), (⟨w.heap.size + 1, 0, none⟩, .int .u64 v), (⟨w.heap.size + 1, 1, none⟩, .bool h), (⟨w.heap.size + 1, 2, none⟩, .int .i64 o)]) (by simp [AllC, *, go_sem])
  simp only [AllC] at K2
  obtain ⟨c2_0, c2_1, c2_2, c2_3, c2_4, c2_5, -⟩ := K2
  have B2 : Below w.heap.size w w2 := (by refine Below.trans ?_ (hb2.mono (by first | (simp; done) | (have := (B1).size; simp; omega))); repeat (first | exact Below.refl _ _ | assumption | refine Below.setCell ?_ (by first | (simp; done) | (have := (B1).size; simp; omega)) _ | refine Below.alloc ?_ (by first | (simp; done) | (have := (B1).size; simp; omega)) _ | refine Below.drew ?_))
  clear hb2
  go_wp2_with (first | (go_at_call 13; refine Calls.mono (is_any _ _ _ _) ?_; rintro e w' ⟨rfl, rfl⟩))
  go_wp2_with (first | (go_at_call 17; (with_reducible refine (read_str v h o _ HK.out p1).mono ?_); rintro e w3 ⟨rfl, hb3⟩; have K3 := keepC hb3 (L := [(⟨w.heap.size, 0, none⟩, .int .u64 v), (⟨w.heap.size, 1, none⟩, .bool h), (⟨w.heap.size, 2, none⟩, .int .i64 o), (⟨w.heap.size + 1, 0, none⟩, .int .u64 v), (⟨w.heap.size + 1, 1, none⟩, .bool h), (⟨w.heap.size + 1, 2, none⟩, .int .i64 o)]) (by simp [AllC, *, go_sem]); simp only [AllC] at K3; obtain ⟨c3_0, c3_1, c3_2, c3_3, c3_4, c3_5, -⟩ := K3; have B3 : Below w.heap.size w w3 := (by refine Below.trans ?_ (hb3.mono (by first | (simp; done) | (have := (B2).size; simp; omega))); repeat (first | exact Below.refl _ _ | assumption | refine Below.setCell ?_ (by first | (simp; done) | (have := (B2).size; simp; omega)) _ | refine Below.alloc ?_ (by first | (simp; done) | (have := (B2).size; simp; omega)) _ | refine Below.drew ?_)); clear hb3))
  go_wp2_with (first | (go_at_call 17; (with_reducible refine (read_str0 v h o _ HK.out).mono ?_); rintro e w4 ⟨rfl, hb4⟩; have K4 := keepC hb4 (L := [(⟨w.heap.size, 0, none⟩, .int .u64 v), (⟨w.heap.size, 1, none⟩, .bool h), (⟨w.heap.size, 2, none⟩, .int .i64 o), (⟨w.heap.size + 1, 0, none⟩, .int .u64 v), (⟨w.heap.size + 1, 1, none⟩, .bool h), (⟨w.heap.size + 1, 2, none⟩, .int .i64 o), (⟨w3.heap.size, 0, none⟩, .int .u64 v), (⟨w3.heap.size, 1, none⟩, .bool h), (⟨w3.heap.size, 2, none⟩, .int .i64 o)]) (by simp [AllC, *, go_sem]); simp only [AllC] at K4; obtain ⟨c4_0, c4_1, c4_2, c4_3, c4_4, c4_5, c4_6, c4_7, c4_8, -⟩ := K4; have B4 : Below w.heap.size w w4 := (by refine Below.trans ?_ (hb4.mono (by first | (simp; done) | (have := (B3).size; simp; omega))); repeat (first | exact Below.refl _ _ | assumption | refine Below.setCell ?_ (by first | (simp; done) | (have := (B3).size; simp; omega)) _ | refine Below.alloc ?_ (by first | (simp; done) | (have := (B3).size; simp; omega)) _ | refine Below.drew ?_)); clear hb4))
  go_wp2
  go_ret
  refine ⟨rfl, ?_⟩
  repeat (first | exact Below.refl _ _ | assumption | refine Below.setCell ?_ (by first | (simp; done) | (have := (B4).size; simp; omega)) _ | refine Below.alloc ?_ (by first | (simp; done) | (have := (B4).size; simp; omega)) _ | refine Below.drew ?_)
set_option maxRecDepth 100000 in
set_option maxHeartbeats 1000000 in
theorem back_n1 (v o v2 o2 : Int) (h h2 : Bool) (w : World) (p1 : 0 ≤ v) (p2 : 0 ≤ v2) (hk : isB v h o = true) (hn : ¬ v = v2) : Calls Try.prog 6 #[lk v h o, lk v2 h2 o2] w fun e w' => e = .returned (.bool true) ∧ Below w.heap.size w w' := by
  have hsz := strB_size v h o hk
  have HK := Lib.hid hk
  have ns : ((strB v h o).toList == (strB v2 h2 o2).toList) = false := by
    rw [Bool.eq_false_iff]
    intro e0
    have e := ba_eq e0
    have := strB_inj v h o v2 h2 o2 hk p1 p2 e
    simp_all
  have n1 : (v == v2) = false := by simp [hn]
  clear hn
  go_enter Try.func6, Try.ntmps6
  go_wp2_with (first | (go_at_call 3; (with_reducible refine (runs_any _).mono ?_); rintro e w1 ⟨rfl, hb1⟩; have K1 := keepC hb1 (L := [(⟨w.heap.size, 0, none⟩, .int .u64 v), (⟨w.heap.size, 1, none⟩, .bool h), (⟨w.heap.size, 2, none⟩, .int .i64 o), (⟨w.heap.size + 1, 0, none⟩, .int .u64 v2), (⟨w.heap.size + 1, 1, none⟩, .bool h2), (⟨w.heap.size + 1, 2, none⟩, .int .i64 o2)]) (by simp [AllC, *, go_sem]); simp only [AllC] at K1; obtain ⟨c1_0, c1_1, c1_2, c1_3, c1_4, c1_5, -⟩ := K1; have B1 : Below w.heap.size w w1 := (by refine Below.trans ?_ (hb1.mono (by first | (simp; done) | (have := (Below.refl 0 w).size; simp; omega))); repeat (first | exact Below.refl _ _ | assumption | refine Below.setCell ?_ (by first | (simp; done) | (have := (Below.refl 0 w).size; simp; omega)) _ | refine Below.alloc ?_ (by first | (simp; done) | (have := (Below.refl 0 w).size; simp; omega)) _ | refine Below.drew ?_)); clear hb1))
  go_wp2
  refine wp_region_ext (by kernel_rfl) (by kernel_rfl) ?_
  repeat (quiet_step (first | (go_at_call_of 11 (Value.int .u64 v); exact ext_of (bytes_any _ _ _ _ p1)) | (go_at_call 11; exact ext_of (bytes_any _ _ _ _ p2))))
  refine wpQuiet_nil ?_
  rintro _ ⟨x2, rfl⟩
  obtain ⟨w2, hg2, hb2⟩ := ext_gen _ x2
  rw [← hg2]
  clear hg2
  have K2 := keepC hb2 (L := [(⟨w.heap.size, 0, none⟩, .int .u64 v), (⟨w.heap.size, 1, none⟩, .bool h), (⟨w.heap.size, 2, none⟩, .int .i64 o), (⟨w.heap.size + 1, 0, none⟩, .int .u64 v2), (⟨w.heap.size + 1, 1, none⟩, .bool h2), (⟨w.heap.size + 1, 2, none⟩, .int .i64 o2)]) (by simp [AllC, *, go_sem])
  simp only [AllC] at K2
  obtain ⟨c2_0, c2_1, c2_2, c2_3, c2_4, c2_5, -⟩ := K2
  have B2 : Below w.heap.size w w2 := (by refine Below.trans ?_ (hb2.mono (by first | (simp; done) | (have := (B1).size; simp; omega))); repeat (first | exact Below.refl _ _ | assumption | refine Below.setCell ?_ (by first | (simp; done) | (have := (B1).size; simp; omega)) _ | refine Below.alloc ?_ (by first | (simp; done) | (have := (B1).size; simp; omega)) _ | refine Below.drew ?_))
  clear hb2
  go_wp2_with (first | (go_at_call 13; refine Calls.mono (is_any _ _ _ _) ?_; rintro e w' ⟨rfl, rfl⟩))
  go_wp2_with (first | (go_at_call 17; (with_reducible refine (read_str v h o _ HK.out p1).mono ?_); rintro e w3 ⟨rfl, hb3⟩; have K3 := keepC hb3 (L := [(⟨w.heap.size, 0, none⟩, .int .u64 v), (⟨w.heap.size, 1, none⟩, .bool h), (⟨w.heap.size, 2, none⟩, .int .i64 o), (⟨w.heap.size + 1, 0, none⟩, .int .u64 v2), (⟨w.heap.size + 1, 1, none⟩, .bool h2), (⟨w.heap.size + 1, 2, none⟩, .int .i64 o2)]) (by simp [AllC, *, go_sem]); simp only [AllC] at K3; obtain ⟨c3_0, c3_1, c3_2, c3_3, c3_4, c3_5, -⟩ := K3; have B3 : Below w.heap.size w w3 := (by refine Below.trans ?_ (hb3.mono (by first | (simp; done) | (have := (B2).size; simp; omega))); repeat (first | exact Below.refl _ _ | assumption | refine Below.setCell ?_ (by first | (simp; done) | (have := (B2).size; simp; omega)) _ | refine Below.alloc ?_ (by first | (simp; done) | (have := (B2).size; simp; omega)) _ | refine Below.drew ?_)); clear hb3))
  go_wp2_with (first | (go_at_call 17; (with_reducible refine (read_str0 v h o _ HK.out).mono ?_); rintro e w4 ⟨rfl, hb4⟩; have K4 := keepC hb4 (L := [(⟨w.heap.size, 0, none⟩, .int .u64 v), (⟨w.heap.size, 1, none⟩, .bool h), (⟨w.heap.size, 2, none⟩, .int .i64 o), (⟨w.heap.size + 1, 0, none⟩, .int .u64 v2), (⟨w.heap.size + 1, 1, none⟩, .bool h2), (⟨w.heap.size + 1, 2, none⟩, .int .i64 o2), (⟨w3.heap.size, 0, none⟩, .int .u64 v), (⟨w3.heap.size, 1, none⟩, .bool h), (⟨w3.heap.size, 2, none⟩, .int .i64 o)]) (by simp [AllC, *, go_sem]); simp only [AllC] at K4; obtain ⟨c4_0, c4_1, c4_2, c4_3, c4_4, c4_5, c4_6, c4_7, c4_8, -⟩ := K4; have B4 : Below w.heap.size w w4 := (by refine Below.trans ?_ (hb4.mono (by first | (simp; done) | (have := (B3).size; simp; omega))); repeat (first | exact Below.refl _ _ | assumption | refine Below.setCell ?_ (by first | (simp; done) | (have := (B3).size; simp; omega)) _ | refine Below.alloc ?_ (by first | (simp; done) | (have := (B3).size; simp; omega)) _ | refine Below.drew ?_)); clear hb4))
  go_wp2
  go_ret
  refine ⟨rfl, ?_⟩
  repeat (first | exact Below.refl _ _ | assumption | refine Below.setCell ?_ (by first | (simp; done) | (have := (B4).size; simp; omega)) _ | refine Below.alloc ?_ (by first | (simp; done) | (have := (B4).size; simp; omega)) _ | refine Below.drew ?_)
set_option maxRecDepth 100000 in
set_option maxHeartbeats 1000000 in
theorem back_n2true (v o o2 : Int) (w : World) (p1 : 0 ≤ v) (p2 : 0 ≤ v) (hk : isB v true o = true) : Calls Try.prog 6 #[lk v true o, lk v false o2] w fun e w' => e = .returned (.bool true) ∧ Below w.heap.size w w' := by
  have hsz := strB_size v true o hk
  have HK := Lib.hid hk
  have ns : ((strB v true o).toList == (strB v false o2).toList) = false := by
    rw [Bool.eq_false_iff]
    intro e0
    have e := ba_eq e0
    have := strB_inj v true o v false o2 hk p1 p2 e
    simp_all
  go_enter Try.func6, Try.ntmps6
  go_wp2_with (first | (go_at_call 3; (with_reducible refine (runs_any _).mono ?_); rintro e w1 ⟨rfl, hb1⟩; have K1 := keepC hb1 (L := [(⟨w.heap.size, 0, none⟩, .int .u64 v), (⟨w.heap.size, 1, none⟩, .bool true), (⟨w.heap.size, 2, none⟩, .int .i64 o), (⟨w.heap.size + 1, 0, none⟩, .int .u64 v), (⟨w.heap.size + 1, 1, none⟩, .bool false), (⟨w.heap.size + 1, 2, none⟩, .int .i64 o2)]) (by simp [AllC, *, go_sem]); simp only [AllC] at K1; obtain ⟨c1_0, c1_1, c1_2, c1_3, c1_4, c1_5, -⟩ := K1; have B1 : Below w.heap.size w w1 := (by refine Below.trans ?_ (hb1.mono (by first | (simp; done) | (have := (Below.refl 0 w).size; simp; omega))); repeat (first | exact Below.refl _ _ | assumption | refine Below.setCell ?_ (by first | (simp; done) | (have := (Below.refl 0 w).size; simp; omega)) _ | refine Below.alloc ?_ (by first | (simp; done) | (have := (Below.refl 0 w).size; simp; omega)) _ | refine Below.drew ?_)); clear hb1))
  go_wp2
  refine wp_region_ext (by kernel_rfl) (by kernel_rfl) ?_
  repeat (quiet_step (first | (go_at_call_of 11 (Value.int .u64 v); exact ext_of (bytes_any _ _ _ _ p1)) | (go_at_call 11; exact ext_of (bytes_any _ _ _ _ p2))))
  refine wpQuiet_nil ?_
  rintro _ ⟨x2, rfl⟩
  obtain ⟨w2, hg2, hb2⟩ := ext_gen _ x2
  rw [← hg2]
  clear hg2
  have K2 := keepC hb2 (L := [(⟨w.heap.size, 0, none⟩, .int .u64 v), (⟨w.heap.size, 1, none⟩, .bool true), (⟨w.heap.size, 2, none⟩, .int .i64 o), (⟨w.heap.size + 1, 0, none⟩, .int .u64 v), (⟨w.heap.size + 1, 1, none⟩, .bool false), (⟨w.heap.size + 1, 2, none⟩, .int .i64 o2)]) (by simp [AllC, *, go_sem])
  simp only [AllC] at K2
  obtain ⟨c2_0, c2_1, c2_2, c2_3, c2_4, c2_5, -⟩ := K2
  have B2 : Below w.heap.size w w2 := (by refine Below.trans ?_ (hb2.mono (by first | (simp; done) | (have := (B1).size; simp; omega))); repeat (first | exact Below.refl _ _ | assumption | refine Below.setCell ?_ (by first | (simp; done) | (have := (B1).size; simp; omega)) _ | refine Below.alloc ?_ (by first | (simp; done) | (have := (B1).size; simp; omega)) _ | refine Below.drew ?_))
  clear hb2
  go_wp2_with (first | (go_at_call 13; refine Calls.mono (is_any _ _ _ _) ?_; rintro e w' ⟨rfl, rfl⟩))
  go_wp2_with (first | (go_at_call 17; (with_reducible refine (read_str v true o _ HK.out p1).mono ?_); rintro e w3 ⟨rfl, hb3⟩; have K3 := keepC hb3 (L := [(⟨w.heap.size, 0, none⟩, .int .u64 v), (⟨w.heap.size, 1, none⟩, .bool true), (⟨w.heap.size, 2, none⟩, .int .i64 o), (⟨w.heap.size + 1, 0, none⟩, .int .u64 v), (⟨w.heap.size + 1, 1, none⟩, .bool false), (⟨w.heap.size + 1, 2, none⟩, .int .i64 o2)]) (by simp [AllC, *, go_sem]); simp only [AllC] at K3; obtain ⟨c3_0, c3_1, c3_2, c3_3, c3_4, c3_5, -⟩ := K3; have B3 : Below w.heap.size w w3 := (by refine Below.trans ?_ (hb3.mono (by first | (simp; done) | (have := (B2).size; simp; omega))); repeat (first | exact Below.refl _ _ | assumption | refine Below.setCell ?_ (by first | (simp; done) | (have := (B2).size; simp; omega)) _ | refine Below.alloc ?_ (by first | (simp; done) | (have := (B2).size; simp; omega)) _ | refine Below.drew ?_)); clear hb3))
  go_wp2_with (first | (go_at_call 17; (with_reducible refine (read_str0 v true o _ HK.out).mono ?_); rintro e w4 ⟨rfl, hb4⟩; have K4 := keepC hb4 (L := [(⟨w.heap.size, 0, none⟩, .int .u64 v), (⟨w.heap.size, 1, none⟩, .bool true), (⟨w.heap.size, 2, none⟩, .int .i64 o), (⟨w.heap.size + 1, 0, none⟩, .int .u64 v), (⟨w.heap.size + 1, 1, none⟩, .bool false), (⟨w.heap.size + 1, 2, none⟩, .int .i64 o2), (⟨w3.heap.size, 0, none⟩, .int .u64 v), (⟨w3.heap.size, 1, none⟩, .bool true), (⟨w3.heap.size, 2, none⟩, .int .i64 o)]) (by simp [AllC, *, go_sem]); simp only [AllC] at K4; obtain ⟨c4_0, c4_1, c4_2, c4_3, c4_4, c4_5, c4_6, c4_7, c4_8, -⟩ := K4; have B4 : Below w.heap.size w w4 := (by refine Below.trans ?_ (hb4.mono (by first | (simp; done) | (have := (B3).size; simp; omega))); repeat (first | exact Below.refl _ _ | assumption | refine Below.setCell ?_ (by first | (simp; done) | (have := (B3).size; simp; omega)) _ | refine Below.alloc ?_ (by first | (simp; done) | (have := (B3).size; simp; omega)) _ | refine Below.drew ?_)); clear hb4))
  go_wp2
  go_ret
  refine ⟨rfl, ?_⟩
  repeat (first | exact Below.refl _ _ | assumption | refine Below.setCell ?_ (by first | (simp; done) | (have := (B4).size; simp; omega)) _ | refine Below.alloc ?_ (by first | (simp; done) | (have := (B4).size; simp; omega)) _ | refine Below.drew ?_)
set_option maxRecDepth 100000 in
set_option maxHeartbeats 1000000 in
theorem back_n2false (v o o2 : Int) (w : World) (p1 : 0 ≤ v) (p2 : 0 ≤ v) (hk : isB v false o = true) : Calls Try.prog 6 #[lk v false o, lk v true o2] w fun e w' => e = .returned (.bool true) ∧ Below w.heap.size w w' := by
  have hsz := strB_size v false o hk
  have HK := Lib.hid hk
  have ns : ((strB v false o).toList == (strB v true o2).toList) = false := by
    rw [Bool.eq_false_iff]
    intro e0
    have e := ba_eq e0
    have := strB_inj v false o v true o2 hk p1 p2 e
    simp_all
  go_enter Try.func6, Try.ntmps6
  go_wp2_with (first | (go_at_call 3; (with_reducible refine (runs_any _).mono ?_); rintro e w1 ⟨rfl, hb1⟩; have K1 := keepC hb1 (L := [(⟨w.heap.size, 0, none⟩, .int .u64 v), (⟨w.heap.size, 1, none⟩, .bool false), (⟨w.heap.size, 2, none⟩, .int .i64 o), (⟨w.heap.size + 1, 0, none⟩, .int .u64 v), (⟨w.heap.size + 1, 1, none⟩, .bool true), (⟨w.heap.size + 1, 2, none⟩, .int .i64 o2)]) (by simp [AllC, *, go_sem]); simp only [AllC] at K1; obtain ⟨c1_0, c1_1, c1_2, c1_3, c1_4, c1_5, -⟩ := K1; have B1 : Below w.heap.size w w1 := (by refine Below.trans ?_ (hb1.mono (by first | (simp; done) | (have := (Below.refl 0 w).size; simp; omega))); repeat (first | exact Below.refl _ _ | assumption | refine Below.setCell ?_ (by first | (simp; done) | (have := (Below.refl 0 w).size; simp; omega)) _ | refine Below.alloc ?_ (by first | (simp; done) | (have := (Below.refl 0 w).size; simp; omega)) _ | refine Below.drew ?_)); clear hb1))
  go_wp2
  refine wp_region_ext (by kernel_rfl) (by kernel_rfl) ?_
  repeat (quiet_step (first | (go_at_call_of 11 (Value.int .u64 v); exact ext_of (bytes_any _ _ _ _ p1)) | (go_at_call 11; exact ext_of (bytes_any _ _ _ _ p2))))
  refine wpQuiet_nil ?_
  rintro _ ⟨x2, rfl⟩
  obtain ⟨w2, hg2, hb2⟩ := ext_gen _ x2
  rw [← hg2]
  clear hg2
  have K2 := keepC hb2 (L := [(⟨w.heap.size, 0, none⟩, .int .u64 v), (⟨w.heap.size, 1, none⟩, .bool false), (⟨w.heap.size, 2, none⟩, .int .i64 o), (⟨w.heap.size + 1, 0, none⟩, .int .u64 v), (⟨w.heap.size + 1, 1, none⟩, .bool true), (⟨w.heap.size + 1, 2, none⟩, .int .i64 o2)]) (by simp [AllC, *, go_sem])
  simp only [AllC] at K2
  obtain ⟨c2_0, c2_1, c2_2, c2_3, c2_4, c2_5, -⟩ := K2
  have B2 : Below w.heap.size w w2 := (by refine Below.trans ?_ (hb2.mono (by first | (simp; done) | (have := (B1).size; simp; omega))); repeat (first | exact Below.refl _ _ | assumption | refine Below.setCell ?_ (by first | (simp; done) | (have := (B1).size; simp; omega)) _ | refine Below.alloc ?_ (by first | (simp; done) | (have := (B1).size; simp; omega)) _ | refine Below.drew ?_))
  clear hb2
  go_wp2_with (first | (go_at_call 13; refine Calls.mono (is_any _ _ _ _) ?_; rintro e w' ⟨rfl, rfl⟩))
  go_wp2_with (first | (go_at_call 17; (with_reducible refine (read_str v false o _ HK.out p1).mono ?_); rintro e w3 ⟨rfl, hb3⟩; have K3 := keepC hb3 (L := [(⟨w.heap.size, 0, none⟩, .int .u64 v), (⟨w.heap.size, 1, none⟩, .bool false), (⟨w.heap.size, 2, none⟩, .int .i64 o), (⟨w.heap.size + 1, 0, none⟩, .int .u64 v), (⟨w.heap.size + 1, 1, none⟩, .bool true), (⟨w.heap.size + 1, 2, none⟩, .int .i64 o2)]) (by simp [AllC, *, go_sem]); simp only [AllC] at K3; obtain ⟨c3_0, c3_1, c3_2, c3_3, c3_4, c3_5, -⟩ := K3; have B3 : Below w.heap.size w w3 := (by refine Below.trans ?_ (hb3.mono (by first | (simp; done) | (have := (B2).size; simp; omega))); repeat (first | exact Below.refl _ _ | assumption | refine Below.setCell ?_ (by first | (simp; done) | (have := (B2).size; simp; omega)) _ | refine Below.alloc ?_ (by first | (simp; done) | (have := (B2).size; simp; omega)) _ | refine Below.drew ?_)); clear hb3))
  go_wp2_with (first | (go_at_call 17; (with_reducible refine (read_str0 v false o _ HK.out).mono ?_); rintro e w4 ⟨rfl, hb4⟩; have K4 := keepC hb4 (L := [(⟨w.heap.size, 0, none⟩, .int .u64 v), (⟨w.heap.size, 1, none⟩, .bool false), (⟨w.heap.size, 2, none⟩, .int .i64 o), (⟨w.heap.size + 1, 0, none⟩, .int .u64 v), (⟨w.heap.size + 1, 1, none⟩, .bool true), (⟨w.heap.size + 1, 2, none⟩, .int .i64 o2), (⟨w3.heap.size, 0, none⟩, .int .u64 v), (⟨w3.heap.size, 1, none⟩, .bool false), (⟨w3.heap.size, 2, none⟩, .int .i64 o)]) (by simp [AllC, *, go_sem]); simp only [AllC] at K4; obtain ⟨c4_0, c4_1, c4_2, c4_3, c4_4, c4_5, c4_6, c4_7, c4_8, -⟩ := K4; have B4 : Below w.heap.size w w4 := (by refine Below.trans ?_ (hb4.mono (by first | (simp; done) | (have := (B3).size; simp; omega))); repeat (first | exact Below.refl _ _ | assumption | refine Below.setCell ?_ (by first | (simp; done) | (have := (B3).size; simp; omega)) _ | refine Below.alloc ?_ (by first | (simp; done) | (have := (B3).size; simp; omega)) _ | refine Below.drew ?_)); clear hb4))
  go_wp2
  go_ret
  refine ⟨rfl, ?_⟩
  repeat (first | exact Below.refl _ _ | assumption | refine Below.setCell ?_ (by first | (simp; done) | (have := (B4).size; simp; omega)) _ | refine Below.alloc ?_ (by first | (simp; done) | (have := (B4).size; simp; omega)) _ | refine Below.drew ?_)
set_option maxRecDepth 100000 in
set_option maxHeartbeats 1000000 in
theorem back_n3 (v o o2 : Int) (h : Bool) (w : World) (p1 : 0 ≤ v) (p2 : 0 ≤ v) (hk : isB v h o = true) (hn : ¬ o = o2) : Calls Try.prog 6 #[lk v h o, lk v h o2] w fun e w' => e = .returned (.bool true) ∧ Below w.heap.size w w' := by
  have hsz := strB_size v h o hk
  have HK := Lib.hid hk
  have ns : ((strB v h o).toList == (strB v h o2).toList) = false := by
    rw [Bool.eq_false_iff]
    intro e0
    have e := ba_eq e0
    have := strB_inj v h o v h o2 hk p1 p2 e
    simp_all
  have n1 : (o == o2) = false := by simp [hn]
  clear hn
  go_enter Try.func6, Try.ntmps6
  go_wp2_with (first | (go_at_call 3; (with_reducible refine (runs_any _).mono ?_); rintro e w1 ⟨rfl, hb1⟩; have K1 := keepC hb1 (L := [(⟨w.heap.size, 0, none⟩, .int .u64 v), (⟨w.heap.size, 1, none⟩, .bool h), (⟨w.heap.size, 2, none⟩, .int .i64 o), (⟨w.heap.size + 1, 0, none⟩, .int .u64 v), (⟨w.heap.size + 1, 1, none⟩, .bool h), (⟨w.heap.size + 1, 2, none⟩, .int .i64 o2)]) (by simp [AllC, *, go_sem]); simp only [AllC] at K1; obtain ⟨c1_0, c1_1, c1_2, c1_3, c1_4, c1_5, -⟩ := K1; have B1 : Below w.heap.size w w1 := (by refine Below.trans ?_ (hb1.mono (by first | (simp; done) | (have := (Below.refl 0 w).size; simp; omega))); repeat (first | exact Below.refl _ _ | assumption | refine Below.setCell ?_ (by first | (simp; done) | (have := (Below.refl 0 w).size; simp; omega)) _ | refine Below.alloc ?_ (by first | (simp; done) | (have := (Below.refl 0 w).size; simp; omega)) _ | refine Below.drew ?_)); clear hb1))
  go_wp2
  refine wp_region_ext (by kernel_rfl) (by kernel_rfl) ?_
  repeat (quiet_step (first | (go_at_call_of 11 (Value.int .u64 v); exact ext_of (bytes_any _ _ _ _ p1)) | (go_at_call 11; exact ext_of (bytes_any _ _ _ _ p2))))
  refine wpQuiet_nil ?_
  rintro _ ⟨x2, rfl⟩
  obtain ⟨w2, hg2, hb2⟩ := ext_gen _ x2
  rw [← hg2]
  clear hg2
  have K2 := keepC hb2 (L := [(⟨w.heap.size, 0, none⟩, .int .u64 v), (⟨w.heap.size, 1, none⟩, .bool h), (⟨w.heap.size, 2, none⟩, .int .i64 o), (⟨w.heap.size + 1, 0, none⟩, .int .u64 v), (⟨w.heap.size + 1, 1, none⟩, .bool h), (⟨w.heap.size + 1, 2, none⟩, .int .i64 o2)]) (by simp [AllC, *, go_sem])
  simp only [AllC] at K2
  obtain ⟨c2_0, c2_1, c2_2, c2_3, c2_4, c2_5, -⟩ := K2
  have B2 : Below w.heap.size w w2 := (by refine Below.trans ?_ (hb2.mono (by first | (simp; done) | (have := (B1).size; simp; omega))); repeat (first | exact Below.refl _ _ | assumption | refine Below.setCell ?_ (by first | (simp; done) | (have := (B1).size; simp; omega)) _ | refine Below.alloc ?_ (by first | (simp; done) | (have := (B1).size; simp; omega)) _ | refine Below.drew ?_))
  clear hb2
  go_wp2_with (first | (go_at_call 13; refine Calls.mono (is_any _ _ _ _) ?_; rintro e w' ⟨rfl, rfl⟩))
  go_wp2_with (first | (go_at_call 17; (with_reducible refine (read_str v h o _ HK.out p1).mono ?_); rintro e w3 ⟨rfl, hb3⟩; have K3 := keepC hb3 (L := [(⟨w.heap.size, 0, none⟩, .int .u64 v), (⟨w.heap.size, 1, none⟩, .bool h), (⟨w.heap.size, 2, none⟩, .int .i64 o), (⟨w.heap.size + 1, 0, none⟩, .int .u64 v), (⟨w.heap.size + 1, 1, none⟩, .bool h), (⟨w.heap.size + 1, 2, none⟩, .int .i64 o2)]) (by simp [AllC, *, go_sem]); simp only [AllC] at K3; obtain ⟨c3_0, c3_1, c3_2, c3_3, c3_4, c3_5, -⟩ := K3; have B3 : Below w.heap.size w w3 := (by refine Below.trans ?_ (hb3.mono (by first | (simp; done) | (have := (B2).size; simp; omega))); repeat (first | exact Below.refl _ _ | assumption | refine Below.setCell ?_ (by first | (simp; done) | (have := (B2).size; simp; omega)) _ | refine Below.alloc ?_ (by first | (simp; done) | (have := (B2).size; simp; omega)) _ | refine Below.drew ?_)); clear hb3))
  go_wp2_with (first | (go_at_call 17; (with_reducible refine (read_str0 v h o _ HK.out).mono ?_); rintro e w4 ⟨rfl, hb4⟩; have K4 := keepC hb4 (L := [(⟨w.heap.size, 0, none⟩, .int .u64 v), (⟨w.heap.size, 1, none⟩, .bool h), (⟨w.heap.size, 2, none⟩, .int .i64 o), (⟨w.heap.size + 1, 0, none⟩, .int .u64 v), (⟨w.heap.size + 1, 1, none⟩, .bool h), (⟨w.heap.size + 1, 2, none⟩, .int .i64 o2), (⟨w3.heap.size, 0, none⟩, .int .u64 v), (⟨w3.heap.size, 1, none⟩, .bool h), (⟨w3.heap.size, 2, none⟩, .int .i64 o)]) (by simp [AllC, *, go_sem]); simp only [AllC] at K4; obtain ⟨c4_0, c4_1, c4_2, c4_3, c4_4, c4_5, c4_6, c4_7, c4_8, -⟩ := K4; have B4 : Below w.heap.size w w4 := (by refine Below.trans ?_ (hb4.mono (by first | (simp; done) | (have := (B3).size; simp; omega))); repeat (first | exact Below.refl _ _ | assumption | refine Below.setCell ?_ (by first | (simp; done) | (have := (B3).size; simp; omega)) _ | refine Below.alloc ?_ (by first | (simp; done) | (have := (B3).size; simp; omega)) _ | refine Below.drew ?_)); clear hb4))
  go_wp2
  go_ret
  refine ⟨rfl, ?_⟩
  repeat (first | exact Below.refl _ _ | assumption | refine Below.setCell ?_ (by first | (simp; done) | (have := (B4).size; simp; omega)) _ | refine Below.alloc ?_ (by first | (simp; done) | (have := (B4).size; simp; omega)) _ | refine Below.drew ?_)

theorem back_any (v : Int) (h : Bool) (o : Int) (v2 : Int) (h2 : Bool) (o2 : Int) (w : World) (p1 : 0 ≤ v) (p2 : 0 ≤ v2) : Calls Try.prog 6 #[lk v h o, lk v2 h2 o2] w fun e w' => e = .returned (.bool true) ∧ Below w.heap.size w w' := by
  cases hk : isB v h o
  · exact back_no v o v2 o2 h h2 w p1 p2 hk
  · by_cases hv : v = v2
    · subst hv
      by_cases hh : h = h2
      · subst hh
        by_cases ho : o = o2
        · subst ho; exact back_eq v o h w p1 p2 hk
        · exact back_n3 v o o2 h w p1 p2 hk ho
      · cases h
        · cases h2
          · exact absurd rfl hh
          · exact back_n2false v o o2 w p1 p2 hk
        · cases h2
          · exact back_n2true v o o2 w p1 p2 hk
          · exact absurd rfl hh
    · exact back_n1 v o v2 o2 h h2 w p1 p2 hk hv
end Go.Proofs.Ytekndgioebfmbaa
