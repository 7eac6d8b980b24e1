/- Contract of package reads: Stands. -/

import Derived.Test.YtabhnhodhbpmmaaReadsB
namespace Go.Proofs.Ytabhnhodhbpmmaa
open Go.ChangeShapes Go.WideShapes Go.ChangeAt Go.RowKit
open Go.ChangeMaps (open_string shut_string)
set_option linter.unusedVariables false
/-- Does what was read stand, by n locks of these versions, held or not? -/
def stn (n : Int) (V : Int → Int) (H : Int → Bool) : List Sn → Bool
  | [] => true
  | x :: xs => if decide (n ≤ x.s) then false else if H x.s then false else if V x.s == x.v then stn n V H xs else false
/-- n locks lie in block b from cell off on. -/
def LocksAt (w : World) (b off n : Nat) (V : Int → Int) (H : Int → Bool) (O : Int → Int) : Prop :=
  ∀ i : Nat, i < n → w.cell? ⟨b, off + i * 3, none⟩ = some (.int .u64 (V i)) ∧ w.cell? ⟨b, off + i * 3 + 1, none⟩ = some (.bool (H i)) ∧ w.cell? ⟨b, off + i * 3 + 2, none⟩ = some (.int .i64 (O i))
set_option maxHeartbeats 2000000 in
theorem stands_any (R : Nat) (most : Int) (xs : List Sn) (b off n cap : Nat) (V : Int → Int) (H : Int → Bool) (O : Int → Int) (w : World) (q : ReadsAt w R most xs) (hn : xs.length ≤ 1000) (hb : b < w.heap.size) (hL : LocksAt w b off n V H O) (hn1 : n ≤ 1000) (hp : ∀ x ∈ xs, 0 ≤ x.s) :
    Calls Try.prog 12 #[ptr R, .slice (some ⟨b, off, none⟩) n cap] w fun e w' => e = .returned (.bool (stn n V H xs)) ∧ Below w.heap.size w w' := by
  obtain ⟨v, h1, hown⟩ := q.c1
  rcases hown.2 with ⟨rfl, h0⟩ | ⟨g, cap2, cur, rfl, hg, _⟩
  · have : xs = [] := List.eq_nil_of_length_eq_zero h0
    subst this
    clear q hown hL
    go_enter Try.func12, Try.ntmps12
    go_wp2
    refine wp_loop_rounds 1 ?_
    rw [rounds_succ]
    go_wp2
    go_ret
    exact ⟨rfl, Below.refl _ _⟩
  · have HO := Lib.hid hown
    have hgl : g < w.heap.size := (hown.lt g rfl).2
    have LL := Lib.hid hL
    have HP := Lib.hid hp
    have BL := Lib.hid hb
    obtain ⟨m, hnn⟩ : ∃ n, xs.length = n := ⟨_, rfl⟩
    have HN := Lib.hid hnn
    rw [hnn] at h1 hn
    have CS : Hid (∀ i, i < m → w.cell? ⟨g, i * 2, none⟩ = some (.int .i64 (xs.getD i .zero).s) ∧ w.cell? ⟨g, i * 2 + 1, none⟩ = some (.int .u64 (xs.getD i .zero).v)) := fun i hi => by
      have hi' : i < xs.length := by rw [hnn]; exact hi
      exact ⟨(hown.cellAt _ (by omega)).trans (SC_get xs i hi').1, (hown.cellAt _ (by omega)).trans (SC_get xs i hi').2⟩
    clear hown q hnn hg hL hp hb
    go_enter Try.func12, Try.ntmps12
    go_wp2
    go_loopw [13] (fun u wr => ∃ k : Nat, k ≤ m ∧ u = .int .i64 k ∧ Hid (stn n V H xs = stn n V H (xs.drop k)) ∧ Hid (Below w.heap.size w wr)) (fun u _ => m - (intOf u).toNat)
    case atStart => exact ⟨0, by omega, rfl, rfl, Below.refl _ _⟩
    case round =>
      obtain ⟨k, hk, rfl, hf, hb⟩ := hrel
      by_cases hlt : k < m
      · obtain ⟨c0, c1⟩ := CS.out k hlt
        have d0 : wr.cell? ⟨g, k * 2, none⟩ = some (.int .i64 (xs.getD k .zero).s) := (hb.out.cell (by exact hgl)).trans c0
        have d1 : wr.cell? ⟨g, k * 2 + 1, none⟩ = some (.int .u64 (xs.getD k .zero).v) := (hb.out.cell (by exact hgl)).trans c1
        have hi' : k < xs.length := by rw [HN.out]; exact hlt
        have hgd : xs.getD k .zero = xs[k] := by
          rw [List.getD_eq_getElem?_getD, List.getElem?_eq_getElem hi']; rfl
        have hmem : 0 ≤ (xs.getD k .zero).s := by rw [hgd]; exact HP.out _ (List.getElem_mem hi')
        have hd : xs.drop k = xs.getD k .zero :: xs.drop (k + 1) := by
          rw [List.drop_eq_getElem_cons hi', hgd]
        have hstep : stn n V H xs = stn n V H (xs.getD k .zero :: xs.drop (k + 1)) := by rw [hf.out, hd]
        have HS := Lib.hid hstep
        clear hgd
        generalize xs.getD k .zero = y at *
        have hki : (k : Int) < (m : Int) := by omega
        have hk0 : (0 : Int) ≤ (k : Int) := by omega
        obtain ⟨ys, hys⟩ := Int.eq_ofNat_of_zero_le hmem
        rw [hys] at d0
        clear c0 c1 hd hstep
        by_cases hr : ys < n
        · obtain ⟨l0, l1, l2⟩ := LL.out ys hr
          have e0 := (hb.out.cell (p := ⟨b, off + ys * 3, none⟩) BL.out).trans l0
          have e1 := (hb.out.cell (p := ⟨b, off + ys * 3 + 1, none⟩) BL.out).trans l1
          have e2 := (hb.out.cell (p := ⟨b, off + ys * 3 + 2, none⟩) BL.out).trans l2
          have hs2 : stn n V H xs = if H ys then false else if V ys == y.v then stn n V H (xs.drop (k + 1)) else false := by
            rw [HS.out, stn, hys, if_neg (by simp; omega)]
          have HS2 := Lib.hid hs2
          generalize V ys = vy at *
          generalize H ys = hy at *
          generalize O ys = oy at *
          have z1 : (ys : Int) < (n : Int) := by omega
          have z2 : (0 : Int) ≤ (ys : Int) := by omega
          have z3 : decide ((n : Int) ≤ (ys : Int)) = false := decide_eq_false (by omega)
          have z4 : decide (n ≤ ys) = false := decide_eq_false (by omega)
          clear l0 l1 l2 hs2 HS hmem hys
          cases hy
          · cases he : (vy == y.v)
            · have he2 : (vy != y.v) = true := by simp [bne, he]
              have hfin : stn n V H xs = false := by rw [HS2.out, he]; rfl
              have HF := Lib.hid hfin
              clear HS2 he hfin
              go_wp2
              go_ret
              exact ⟨by rw [HF.out]; rfl, (hb.out.alloc hb.out.size _).alloc (Nat.le_trans hb.out.size (by simp)) _⟩
            · have he2 : (vy != y.v) = false := by simp [bne, he]
              have HE := Lib.hid he
              clear he
              go_wp2
              go_roundw
              case rel => exact ⟨k + 1, by omega, by go_num, (by show _ = _; rw [HS2.out, HE.out]; rfl), (hb.out.alloc hb.out.size _).alloc (Nat.le_trans hb.out.size (by simp)) _⟩
              case measure => simp [intOf]; omega
          · have hfin : stn n V H xs = false := by rw [HS2.out]; rfl
            have HF := Lib.hid hfin
            clear HS2 hfin
            go_wp2
            go_ret
            exact ⟨by rw [HF.out]; rfl, (hb.out.alloc hb.out.size _).alloc (Nat.le_trans hb.out.size (by simp)) _⟩
        · have hfin : stn n V H xs = false := by rw [HS.out, stn, hys, if_pos (by simp; omega)]
          have HF := Lib.hid hfin
          have z3 : decide ((n : Int) ≤ (ys : Int)) = true := decide_eq_true (by omega)
          have z4 : decide (n ≤ ys) = true := decide_eq_true (by omega)
          clear HS hmem hys hfin
          go_wp2
          go_ret
          exact ⟨by rw [HF.out]; rfl, hb.out.alloc hb.out.size _⟩
      · have hki : k = m := by omega
        have hfin : stn n V H xs = true := by
          rw [hf.out, List.drop_eq_nil_of_le (by rw [HN.out]; omega)]; rfl
        have HF := Lib.hid hfin
        subst hki
        clear hfin
        go_wp2
        go_ret
        exact ⟨by rw [HF.out]; rfl, hb.out⟩
end Go.Proofs.Ytabhnhodhbpmmaa
