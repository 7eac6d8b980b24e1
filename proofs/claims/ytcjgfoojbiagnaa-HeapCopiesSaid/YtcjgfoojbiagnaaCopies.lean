/- HeapCopies: the walk of the law. -/

import Derived.Test.YtcjgfoojbiagnaaAll
namespace Go.Proofs.Ytcjgfoojbiagnaa
open Go.ChangeShapes Go.WideShapes Go.ChangeAt Go.RowKit
open Go.ChangeMaps (open_string shut_string)
set_option linter.unusedVariables false
set_option maxRecDepth 100000 in
set_option maxHeartbeats 2000000 in
theorem copies_law (n : Int) (sa sb sc : Value) (w : World) (ha : AskArg w sa) (hb : AskArg w sb) (hc : AskArg w sc) : Calls Try.prog 5 #[.int .i64 n, sa, sb, sc] w fun e w' => e = .returned (.bool true) ∧ Below w.heap.size w w' := by
  have HA := Lib.hid ha
  have HBB := Lib.hid hb
  have HCC := Lib.hid hc
  clear ha hb hc
  have HV := Lib.hid (hv_bd n)
  have hmk : ∀ w : World, _ := fun w => mk_row (hv n) (by have := (hv_bd n).1; omega) (by have := (hv_bd n).2; omega) w
  go_enter Try.func5, Try.ntmps5
  go_wp2_with (first | (go_at_call 3; (with_reducible refine (runs_any _).mono ?_); rintro e w1 ⟨rfl, hb1⟩; have B1 : Below w.heap.size w w1 := (by refine Below.trans ?_ (hb1.mono (by first | (simp; done) | (have := (Below.refl 0 w).size; simp; omega))); repeat (first | exact Below.refl _ _ | assumption | refine Below.setCell ?_ (by first | (simp; done) | (have := (Below.refl 0 w).size; simp; omega)) _ | refine Below.alloc ?_ (by first | (simp; done) | (have := (Below.refl 0 w).size; simp; omega)) _ | refine Below.drew ?_)); clear hb1))
  go_wp2_with (first | (go_at_call 7; (with_reducible refine (new_any _ _).mono ?_); rintro e w0 ⟨rfl, hw0⟩; have HW := Lib.hid hw0; clear hw0))
  go_wp2_with (fail)
  have b32 := HV.out.1
  have b256 := HV.out.2
  have R0 : RowAt w0 (w1.heap.size + 1) w1.heap.size (hv n).toNat (List.replicate (hv n).toNat 0) := by rw [HW.out]; exact rowAt_newW w1 n
  have z0 : w0.heap.size = w1.heap.size + 1 + 1 := by rw [HW.out]; simp [newW]
  have B0 : Below w.heap.size w w0 := B1.trans (by rw [HW.out]; exact (below_newW w1 n).mono B1.size)
  have D := Lib.hid (asked (w1.heap.size + 1) w1.heap.size w0.heap.size (hv n).toNat (hv n).toNat _ sa w (w0.alloc (.cells (madeCells #[.int .u64 0] (hv n).toNat) 26)) (by omega) (by omega) (R0.below (by omega) (balloc _ _)) (wrow_made w0 _) HA.out (B0.alloc B0.size _) B1.size B0.size (by omega) (by omega))
  have NN : Hid (∃ N : Nat, (hv n).toNat = N ∧ 0 < N ∧ N ≤ 256) := ⟨_, rfl, by omega, by omega⟩
  have Z : Hid (w0.heap.size = w1.heap.size + 1 + 1 ∧ w.heap.size ≤ w1.heap.size) := ⟨z0, B1.size⟩
  clear R0 z0 b32 b256
  go_wp2_with (first | (go_at_call 14; (with_reducible refine (held_any _ _).mono ?_); rintro e w' ⟨rfl, rfl⟩))
  go_wp2_with (first | (go_at_call 13; (with_reducible refine D.out.mono ?_); rintro e w3 ⟨rfl, hx⟩; have HX := Lib.hid hx; clear hx))
  obtain ⟨xs, q3, r3, t3⟩ := HX.out
  have B3 : Below w.heap.size w w3 := (B0.alloc B0.size _).trans (t3.below B1.size B0.size (by simp; have := B0.size; omega))
  have s3 : w0.heap.size + 1 ≤ w3.heap.size := by have := t3.size; simpa using this
  have S3 : Hid (w0.heap.size + 1 ≤ w3.heap.size) := s3
  have Q3 := Lib.hid q3
  have R3 := Lib.hid r3
  clear HX D q3 r3 t3 s3 HW
  obtain ⟨N, hN, h0N, hN1⟩ := NN.out
  rw [hN] at Q3 R3 ⊢
  generalize w0.heap.size = vb at *
  clear hN NN B0 HV hmk
  have CP := Lib.hid (copy_row _ _ N xs w3 Q3.out h0N (by omega))
  go_wp2_with (fail)
  refine CP.out.mono ?_
  rintro e w' ⟨w4, g, cap, rfl, hown, hb, rfl⟩
  have HO := Lib.hid hown
  have HB := Lib.hid hb
  clear hown hb CP
  obtain ⟨i, hi, hz0, hz1, hz2⟩ := info_parts info_clone
  have NW : Hid (∀ (o : Obj) (j : Nat) (u : Value), (xs.map (Value.int .u64))[j]? = some u → (w4.alloc o).cell? ((⟨vb, 0, none⟩ : Addr).add j) = some u) := fun o j u hj => by
    have hlt : j < N := by have := (List.getElem?_eq_some_iff.1 hj).1; simp at this; have := Q3.out.len; omega
    have e : (⟨vb, 0, none⟩ : Addr).add j = ⟨vb, j, none⟩ := by unfold Addr.add; split <;> simp_all
    have s := S3.out
    have s4 := HB.out.size
    have zv := Z.out.1
    rw [e, World.cell?_alloc_lt _ _ _ (by simp; omega), (R3.out.below h0N HB.out).c j hlt, ← hj, List.getElem?_map, List.getD_eq_getElem?_getD, List.getElem?_eq_getElem (by have := Q3.out.len; omega)]
    rfl
  have LL : Hid ((xs.map (Value.int .u64)).length = N) := by show _ = _; simpa using Q3.out.len
  have ON : Hid (∀ u ∈ xs.map (Value.int .u64), u.oneCell' = true) := fun u hu => by simp at hu; obtain ⟨x, _, rfl⟩ := hu; rfl
  go_wp2_with (first | (at_builtin; refine wpList_append_own _ rfl _ _ 30 rfl (w4.heap.size + 1) 26 i (.int .u64 0) 1 8 Try.underlying30 hi hz0 hz1 hz2 rfl (by decide) (.slice none 0 0) 0 [] rfl (World.ownsRow_nil _ _ _ _) ⟨vb, 0, none⟩ N _ (xs.map (Value.int .u64)) rfl (by rw [LL.out]; omega) (NW.out _) ON.out (by unfold maxLen; omega) (by omega) (by simp) ?_; intro v' w5 hown' hgrow _; have OW := Lib.hid hown'; have GW := Lib.hid hgrow; clear hown' hgrow))
  have OX := OW.out
  simp only [Nat.zero_add, List.nil_append] at OX
  obtain ⟨x, capx, rfl⟩ : ∃ x capx, v' = .slice (some ⟨x, 0, none⟩) N capx := by
    rcases OX.2 with ⟨_, hz⟩ | ⟨g', cap', cur, rfl, _⟩
    · omega
    · exact ⟨g', cap', rfl⟩
  have hx : w4.heap.size + 1 ≤ x := (OX.lt x rfl).1
  have s := S3.out
  have s4 := HB.out.size
  obtain ⟨zv, zw⟩ := Z.out
  have hg : w3.heap.size ≤ g ∧ g < w4.heap.size := HO.out.lt g rfl
  have B4 : Below w4.heap.size w4 (w4.alloc (.cells #[.slice (some ⟨g, 0, none⟩) N cap] 41)) := balloc _ _
  have B5' : Below (w4.heap.size + 1) (w4.alloc (.cells #[.slice (some ⟨g, 0, none⟩) N cap] 41)) w5 := ⟨GW.out.os, GW.out.tape, GW.out.output, GW.out.size, fun k hk => GW.out.block k (by simpa using hk) (by simp [Value.ownBlock])⟩
  have B5 : Below w4.heap.size w4 w5 := B4.trans (B5'.mono (by omega))
  have KC : RowAt (w4.alloc (.cells #[.slice (some ⟨g, 0, none⟩) N cap] 41)) w4.heap.size g N xs := by
    have hW := WRow.own (HO.out.alloc (.cells #[.slice (some ⟨g, 0, none⟩) N cap] 41)) Q3.out.len
    exact ⟨⟨cap, by simp⟩, Q3.out.len, hW.c, hW.f, by omega, by simp⟩
  have K5 : RowAt w5 w4.heap.size g N xs := KC.below h0N (by simpa using B5')
  have X5 : WRow w5 x N xs := WRow.own OX Q3.out.len
  have Q5 := (Q3.out.below h0N HB.out).below h0N B5
  have R5 := (R3.out.below h0N HB.out).below h0N B5
  have BB5 : Below w.heap.size w w5 := (B3.trans (HB.out.mono B3.size)).trans (B5.mono (by have := B3.size; omega))
  have s5 : w4.heap.size + 1 ≤ w5.heap.size := by have := B5'.size; simpa using this
  have D1 := Lib.hid (asked w4.heap.size g x N capx xs sb w w5 h0N (by omega) K5 X5 HBB.out BB5 (by omega) (by omega) (by omega) (by omega))
  have F5 : Hid (RowAt w5 (w1.heap.size + 1) w1.heap.size N xs ∧ WRow w5 vb N xs ∧ Below w.heap.size w w5 ∧ w3.heap.size ≤ g ∧ g < w4.heap.size ∧ w4.heap.size + 1 ≤ x ∧ w4.heap.size + 1 ≤ w5.heap.size ∧ w3.heap.size ≤ w4.heap.size ∧ vb + 1 ≤ w3.heap.size ∧ x < w5.heap.size) := ⟨Q5, R5, BB5, hg.1, hg.2, hx, s5, s4, s, (OX.lt x rfl).2⟩
  clear OW OX GW hx s s4 hg B4 B5' B5 KC K5 X5 Q5 R5 BB5 s5 NW LL ON HO HB Q3 R3 B3 S3 hi hz0 hz1 hz2 zv zw
  go_wp2_with (first | (go_at_call 13; (with_reducible refine D1.out.mono ?_); rintro e w6 ⟨rfl, hx⟩; have HX := Lib.hid hx; clear hx))
  obtain ⟨ys, k6, x6, t6⟩ := HX.out
  obtain ⟨q5, r5, b5, g3, g4, hx4, s5, s4, s3, xl⟩ := F5.out
  obtain ⟨zv, zw⟩ := Z.out
  have q6 := q5.two h0N t6 (by omega) (by omega) (by omega) (by omega)
  have r6 := r5.two h0N t6 (by omega) (by omega)
  have b6 : Below w.heap.size w w6 := b5.trans (t6.below (by omega) (by omega) (by omega))
  have z6 := t6.size
  have D2 := Lib.hid (asked (w1.heap.size + 1) w1.heap.size vb N N xs sc w w6 h0N (by omega) q6 r6 HCC.out b6 (by omega) (by omega) (by omega) (by omega))
  have F6 : Hid (RowAt w6 w4.heap.size g N ys ∧ WRow w6 x N ys ∧ Below w.heap.size w w6 ∧ w5.heap.size ≤ w6.heap.size) := ⟨k6, x6, b6, z6⟩
  clear HX k6 x6 t6 q5 r5 b5 g3 g4 hx4 s5 s4 s3 xl q6 r6 b6 z6 D1 zv zw
  go_wp2_with (first | (go_at_call 13; (with_reducible refine D2.out.mono ?_); rintro e w7 ⟨rfl, hx⟩; have HX := Lib.hid hx; clear hx))
  obtain ⟨zs, _, _, t7⟩ := HX.out
  obtain ⟨_, _, _, g3, g4, hx4, s5, s4, s3, xl⟩ := F5.out
  obtain ⟨zv, zw⟩ := Z.out
  obtain ⟨k6, x6, b6, z6⟩ := F6.out
  have k7 := k6.two h0N t7 (by omega) (by omega) (by omega) (by omega)
  have x7 := x6.two h0N t7 (by omega) (by omega)
  have b7 : Below w.heap.size w w7 := b6.trans (t7.below (by omega) (by omega) (by omega))
  have z7 := t7.size
  have D3 := Lib.hid (asked_empty w4.heap.size g x N capx ys none 0 w7 h0N (by omega) k7 x7)
  have F7 : Hid (Below w.heap.size w w7 ∧ w.heap.size ≤ g ∧ w.heap.size ≤ x ∧ w.heap.size ≤ w7.heap.size) := ⟨b7, by omega, by omega, by omega⟩
  clear HX t7 g3 g4 hx4 s5 s4 s3 xl k6 x6 b6 z6 k7 x7 b7 z7 D2 zv zw
  go_wp2_with (first | (go_at_call 13; (with_reducible refine D3.out.mono ?_); rintro e w8 ⟨rfl, hx⟩; have HX := Lib.hid hx; clear hx))
  go_ret
  obtain ⟨_, _, _, t8⟩ := HX.out
  exact ⟨rfl, F7.out.1.trans (t8.below F7.out.2.1 F7.out.2.2.1 F7.out.2.2.2)⟩
end Go.Proofs.Ytcjgfoojbiagnaa
