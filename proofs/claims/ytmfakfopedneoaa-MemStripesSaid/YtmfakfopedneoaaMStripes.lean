/- MemStripes: the walk of the law. -/

import Derived.Test.YtmfakfopedneoaaMemC
import Derived.Deep.Slices
import Derived.Deep.Fields
import Derived.ChangeSame
namespace Go.Proofs.Ytmfakfopedneoaa
open Go.ChangeShapes Go.WideShapes Go.ChangeAt Go.RowKit
open Go.ChangeMaps (open_string shut_string)
set_option linter.unusedVariables false
open Go.Deep
theorem agg_open {H : Type} {enc : TypeId × Value → H} {P : Program} {w : World} {r : Reach} {b0 base : Nat} {spare : Nat → Bool} {held : Bool} {t : TypeId} {fs : Array Field} {v : Value} {d : DataW H} {p : List MemPlace} (hs : P.underlying t = some (.struct fs)) (hone : oneCellFields P fs = true) (hC : P.cellsOf t = fs.size)
    (hv : Value.okWide P w r b0 t v) (h : DataW.Trod enc P w base spare held t v d p) :
    ∃ cs : Array Value, v = .agg cs ∧ cs.size = fs.size ∧ ∀ (j : Nat) (f : Field), fs[j]? = some f → ∃ (x : Value) (y : DataW H × List MemPlace) (n : Nat), cs[j]? = some x ∧ DataW.trod enc P w base spare held n f.type [x] = some y := by
  obtain ⟨cs, rfl, hsz⟩ := okWide_struct hs hv
  obtain ⟨fuel, hf⟩ := h
  obtain ⟨ys, n', _, _, hlen, hyl, hg⟩ := DataW.trod_struct hs hf
  refine ⟨cs, rfl, hsz.trans hC, fun j f hj => ?_⟩
  obtain ⟨ho, hk⟩ := hone_of hone j f hj
  have hjl : j < fs.size := (Array.getElem?_eq_some_iff.1 hj).1
  have h1 := hg j f hj
  rw [ho, hk] at h1
  have hcs : cs.size = fs.size := hsz.trans hC
  have hlt : j < cs.toList.length := by simp; omega
  have e1 : ((Value.agg cs).cells.toList.drop j).take 1 = [cs.toList[j]] := by
    show (cs.toList.drop j).take 1 = _
    rw [List.drop_eq_getElem_cons hlt]
    rfl
  have hy : j < ys.length := by omega
  rw [e1, List.getElem?_eq_getElem hy] at h1
  exact ⟨cs.toList[j], _, n', by simp [show j < cs.size by omega], h1⟩
theorem arr5 {cs : Array Value} (h : cs.size = 5) : ∃ a b c d e, cs = #[a, b, c, d, e] := by
  obtain ⟨l⟩ := cs
  match l, h with
  | [a, b, c, d, e], _ => exact ⟨a, b, c, d, e, rfl⟩

theorem mstripe_any (B : Cb) (M : Ms) (at' : Int) (w : World) (hat : at' ≤ 9223372036854775807) (q : CodeAt w B M) : Calls Try.prog 12 #[ptr B.mm, .int .i64 at'] w fun e w' => e = .returned (.int .i64 (ofK at' B.nL M.c)) ∧ ∃ k, w' = w.drewN k := by
  obtain ⟨c, h1⟩ := q.vL.c1
  have HO := Lib.hid (tof_any B.t B.lk B.nL M.c at' w hat q.vL.c0 h1)
  have c6 := q.c6
  clear q h1
  generalize ofK at' B.nL M.c = x at *
  go_enter Try.func12, Try.ntmps12
  go_wp2_with (first | (go_at_call 30; (with_reducible refine HO.out.mono ?_); rintro e w' ⟨rfl, k, rfl⟩))
  go_ret
  exact ⟨rfl, k, rfl⟩
set_option maxHeartbeats 1000000 in
theorem stripes_law (a b c d s at' : Int) (w : World) (hat : at' ≤ 9223372036854775807) : Calls Try.prog 5 #[shpV a b c d s, .int .i64 at'] w fun e w' => e = .returned (.bool true) ∧ Below w.heap.size w w' := by
  have MN := Lib.hid (mnew_any a b c d s)
  have HR : Hid (∀ w : World, Calls Try.prog 21 #[.int .i64 at', .int .i64 b, .int .i64 c] w fun e w' => e = .returned (.int .i64 (ofK at' b c)) ∧ ∃ k, w' = w.drewN k) := fun w => rof_any at' b c w hat
  go_enter Try.func5, Try.ntmps5
  go_wp2_with (first | (go_at_call 3; (with_reducible refine (runs_any _).mono ?_); rintro e w1 ⟨rfl, hb1⟩; have K1 := keepC hb1 (L := [(⟨w.heap.size, 0, none⟩, .int .i64 a), (⟨w.heap.size, 1, none⟩, .int .i64 b), (⟨w.heap.size, 2, none⟩, .int .i64 c), (⟨w.heap.size, 3, none⟩, .int .i64 d), (⟨w.heap.size, 4, none⟩, .int .u64 s)]) (by simp [AllC, *, go_sem]); simp only [AllC] at K1; obtain ⟨c1_0, c1_1, c1_2, c1_3, c1_4, -⟩ := K1; have B1 : Below w.heap.size w w1 := (by refine Below.trans ?_ (hb1.mono (by first | (simp; done) | (have := (Below.refl 0 w).size; simp; omega))); repeat (first | exact Below.refl _ _ | assumption | refine Below.setCell ?_ (by first | (simp; done) | (have := (Below.refl 0 w).size; simp; omega)) _ | refine Below.alloc ?_ (by first | (simp; done) | (have := (Below.refl 0 w).size; simp; omega)) _ | refine Below.drew ?_)); clear hb1))
  go_wp2_with fail
  refine (MN.out _).mono ?_
  rintro e w2 ⟨C, rfl, hC, hnL, _, _, hq, hb2⟩
  have x1 : w2.cell? ⟨w.heap.size, 1, none⟩ = some (.int .i64 b) := (hb2.cell (World.block_lt_of_cell? w1 _ c1_1)).trans c1_1
  have x2 : w2.cell? ⟨w.heap.size, 2, none⟩ = some (.int .i64 c) := (hb2.cell (World.block_lt_of_cell? w1 _ c1_2)).trans c1_2
  have B2 : Below w.heap.size w w2 := B1.trans (hb2.mono B1.size)
  have HO : Hid (∀ k, Calls Try.prog 12 #[ptr C.mm, .int .i64 at'] (w2.drewN k) fun e w' => e = .returned (.int .i64 (ofK at' b c)) ∧ ∃ m, w' = (w2.drewN k).drewN m) := fun k => by
    have := mstripe_any C (Ms.new a b c d s) at' (w2.drewN k) hat ⟨hq.c0, hq.c1, hq.c2, hq.c3, hq.c4, hq.c5, hq.c6, hq.c7, hq.c8, hq.c9, hq.fm, hq.vW.below (below_drewN (Below.refl _ _) k), hq.vL.below hq.h0.2.1 (below_drewN (Below.refl _ _) k), hq.vN, hq.fN, hq.vS.below (below_drewN (Below.refl _ _) k), hq.h0, hq.nd, hq.lt⟩
    have hbd := c16_bd b
    have e : ofK at' (C.nL : Int) (Ms.new a b c d s).c = ofK at' b c := by rw [hnL, Int.toNat_of_nonneg (by omega)]; unfold ofK Ms.new; rw [c16_c16, c16_c16]
    rwa [e] at this
  clear hq hb2 hC hnL c1_0 c1_1 c1_2 c1_3 c1_4 MN
  generalize ofK at' b c = x at *
  have hxx : (x == x) = true := by simp
  go_wp2
  go_quiet (first | (go_at_call 12; exact Calls.quiet_of (HO.out _)) | (go_at_call 21; exact Calls.quiet_of (HR.out _)))
  go_wp2
  go_ret
  exact ⟨rfl, below_drewN B2 _⟩
end Go.Proofs.Ytmfakfopedneoaa
