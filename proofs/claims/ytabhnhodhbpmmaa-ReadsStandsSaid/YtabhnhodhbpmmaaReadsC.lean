/- Contract of package reads: Add of a new stripe, with what it leaves alone. -/

import Derived.Test.YtabhnhodhbpmmaaReadsB
namespace Go.Proofs.Ytabhnhodhbpmmaa
open Go.ChangeShapes Go.WideShapes Go.ChangeAt Go.RowKit
open Go.ChangeMaps (open_string shut_string)
set_option linter.unusedVariables false
/-- Add's end, and what it turned: the block of the reads and their row. -/
def AddPost2 (w : World) (R : Nat) (most : Int) (xs : List Sn) (err : Int) (e : Ending) (w' : World) : Prop := AddPost w R most xs err e w' ∧ ∃ v v', w.cell? ⟨R, 1, none⟩ = some v ∧ w'.cell? ⟨R, 1, none⟩ = some v' ∧ (∀ b, b < w.heap.size → b ≠ R → some b ≠ v.ownBlock → w'.heap[b]? = w.heap[b]?) ∧ (∀ b, b < w.heap.size → some b ≠ v.ownBlock → some b ≠ v'.ownBlock) ∧ w.heap.size ≤ w'.heap.size
theorem radt_fin {R : Nat} {most : Int} {x : Sn} {xs : List Sn} {n : Nat} {w W w2 : World} {v : Value} {g cap : Nat} {o : Obj} (hl : xs.length = n) (hB : Below w.heap.size w W) (hR : R < w.heap.size) (hW : w.heap.size < W.heap.size)
    (c0 : w2.cell? ⟨R, 0, none⟩ = some (.int .i64 most)) (c1 : w2.cell? ⟨R, 1, none⟩ = some v) (cf : w2.frozen? ⟨R, 1, none⟩ = false) (ho : (W.drew.alloc o).ownsRow (R + 1) 28 2 v n (SC xs))
    (hown : w2.ownsRow (R + 1) 28 2 (.slice (some ⟨g, 0, none⟩) (n + 1) cap) (n + 1) (SC xs ++ [.int .i64 x.s, .int .u64 x.v])) (hg : (W.drew.alloc o).grownBy w2 v.ownBlock) (hat : v.ownBlock = some g ∨ g = (W.drew.alloc o).heap.size) (hc : w.cell? ⟨R, 1, none⟩ = some v) :
    AddPost2 w R most (xs ++ [x]) 0 (.returned (.int .i64 0)) (w2.setCell ⟨R, 1, none⟩ (.slice (some ⟨g, 0, none⟩) (n + 1) cap)) := by
  have hs2 : R < w2.heap.size := World.block_lt_of_cell? w2 _ c0
  have hBA : Below R w (W.drew.alloc o) := ((hB.mono (Nat.le_of_lt hR)).drew).alloc (by show R ≤ W.heap.size; omega) o
  have hB2 : Below R w w2 := hBA.grown hg (by simp; omega) (fun k hk => by have := (ho.lt k hk).1; omega)
  refine ⟨radd_fin hl hB hR hW c0 c1 cf ho hown hg, _, _, hc, World.cell?_setCell_same _ _ _ c1, ?_, ?_, ?_⟩
  · intro b hb hne hnv
    rw [Below.heap_setCell _ _ _ _ (by simpa using hne), hg.block b (by simp; omega) hnv, heap_alloc_old _ _ (by simp; omega)]
    exact hB.block b hb
  · intro b hb hnv e
    simp only [Value.ownBlock, Option.some.injEq] at e
    rcases hat with h | h
    · exact hnv (by rw [h, e])
    · simp at h; omega
  · have := hg.size
    simp at this ⊢
    omega
set_option maxHeartbeats 2000000 in
theorem radt_new (R : Nat) (most : Int) (x : Sn) (xs : List Sn) (w : World) (q : ReadsAt w R most xs) (hn : xs.length ≤ 1000) (ok : okSn x) (hf : fnd x.s xs = none) (hm : (xs.length : Int) < most) : Calls Try.prog 8 #[ptr R, snV x] w (AddPost2 w R most (xs ++ [x]) 0) := by
  obtain ⟨i, hi, hz0, hz1, hz2⟩ := info_parts info_sn
  obtain ⟨ok0, ok1, ok2, ok3⟩ := ok
  have k0 : decide (x.s < 0) = false := decide_eq_false (by omega)
  have k1 : decide (16 ≤ x.s) = false := decide_eq_false (by omega)
  have k2 : decide (4611686018427387904 ≤ x.v) = false := decide_eq_false (by omega)
  have hne : ¬ R = w.heap.size := by have := q.lt; omega
  have hne2 : ¬ w.heap.size = R := by have := q.lt; omega
  have RG : Hid (∀ o : Obj, Calls Try.prog 9 #[ptr R, .int .i64 x.s] (w.alloc o) fun e w' => e = .returned (.tuple #[.int .u64 ((fnd x.s xs).getD 0), .bool (fnd x.s xs).isSome]) ∧ Below (w.heap.size + 1) (w.alloc o) w') := fun o => by
    have := rget_any R most x.s xs (w.alloc o) (q.below ((Below.refl _ _).alloc (Nat.le_refl _) _)) hn
    simpa using this
  have Q := Lib.hid q
  rw [hf] at RG
  have HR : Hid (R < w.heap.size) := q.lt
  clear q hf
  go_enter Try.func8, Try.ntmps8
  go_wp2_with fail
  refine (RG.out _).mono ?_
  rintro e w1 ⟨rfl, hb⟩
  have B1 : Below w.heap.size w w1 := ((Below.refl _ _).alloc (Nat.le_refl _) _).trans (hb.mono (by simp))
  have y0 : w1.cell? ⟨w.heap.size, 0, none⟩ = some (.int .i64 x.s) := (hb.cell (by simp)).trans (by simp)
  have y1 : w1.cell? ⟨w.heap.size, 1, none⟩ = some (.int .u64 x.v) := (hb.cell (by simp)).trans (by simp)
  have BB := Lib.hid B1
  have Q1 := Lib.hid (Q.out.below B1)
  have Z1 : Hid (w.heap.size < w1.heap.size) := World.block_lt_of_cell? w1 _ y0
  clear hb B1
  obtain ⟨v, h1, hown⟩ := Q1.out.c1
  have c0 := Q1.out.c0
  have f1 := Q1.out.f1
  have hl1 := Q1.out.lt
  have HO := Lib.hid hown
  rcases hown.2 with ⟨rfl, h0⟩ | ⟨g, cap, cur, rfl, hg, _⟩
  · rw [h0] at hm
    have g1 : decide (most ≤ (0 : Int)) = false := decide_eq_false (by simp at hm; omega)
    clear hown hm
    go_wp2
    go_quiet (fail)
    go_wp2_with fail
    have hn' : 0 ≤ 1000 := by decide
    have HO2 := HO
    rw [h0] at HO
    obtain ⟨W, hW⟩ : ∃ W, W = w1.drewN nq := ⟨_, rfl⟩
    rw [← hW]
    have BW : Hid (Below w.heap.size w W) := by rw [hW]; exact below_drewN BB.out nq
    have ZW : Hid (w.heap.size < W.heap.size) := by rw [hW]; exact Z1.out
    have w0 : W.cell? ⟨R, 0, none⟩ = some (.int .i64 most) := by rw [hW]; exact c0
    have w1' : W.cell? ⟨R, 1, none⟩ = some (Value.slice none 0 0) := by rw [hW]; exact h1
    have wf : W.frozen? ⟨R, 1, none⟩ = false := by rw [hW]; exact f1
    have wy0 : W.cell? ⟨w.heap.size, 0, none⟩ = some (.int .i64 x.s) := by rw [hW]; exact y0
    have wy1 : W.cell? ⟨w.heap.size, 1, none⟩ = some (.int .u64 x.v) := by rw [hW]; exact y1
    have HW1 : Hid (∀ o, (W.drew.alloc o).ownsRow (R + 1) 28 2 (Value.slice none 0 0) 0 (SC xs)) := fun o => by rw [hW]; exact (HO.out.kept (row := none) (⟨rfl, rfl, rfl, Nat.le_refl _, fun _ _ _ => rfl⟩ : w1.grownBy (w1.drewN nq).drew none) (by cases h : ((Value.slice none 0 0) : Value).ownBlock with | none => exact .inl rfl | some b => exact .inr (by simp))).alloc o
    have hl2 : R < W.heap.size := by have := ZW.out; have := HR.out; omega
    have HN1 : Hid (0 ≤ 1000) := hn'
    have hRo : Hid (((Value.slice none 0 0) : Value).ownBlock ≠ some R) := fun e => by have := (HO.out.lt R e).1; omega
    have hRn : ¬ R = W.heap.size := by omega
    have HC : Hid (w.cell? ⟨R, 1, none⟩ = some (Value.slice none 0 0)) := (BW.out.cell HR.out).symm.trans w1'
    clear hW c0 h1 f1 y0 y1 BB Z1 Q1
    go_region_law ((refine step_append_lies _ rfl (.tmp 46) (.tmp 48) 32 rfl (R + 1) 28 i (.agg #[.int .i64 0, .int .u64 0]) 2 16 Try.underlying32 hi hz0 hz1 hz2 rfl (by decide) (Value.slice none 0 0) 0 (SC xs) (by simp [Act.eval, Act.put]) (HW1.out _) ⟨W.heap.size, 0, none⟩ 1 1 [.int .i64 x.s, .int .u64 x.v] (by simp [Act.eval, Act.put]) rfl (by intro j u hj; match j, hj with | 0, hj => simp at hj; subst hj; simp [Addr.add] | 1, hj => simp at hj; subst hj; simp [Addr.add]) (by intro u hu; simp at hu; rcases hu with rfl | rfl <;> rfl) (by decide) (by have := HN1.out; unfold maxLen; omega) (by have := HN1.out; omega) (by simp; omega) _ rfl ?_; intro g' cap' w2 hown2 hgrow hat hlt; have v0 : w2.cell? ⟨R, 0, none⟩ = some (.int .i64 most) := (hgrow.cell_far ⟨R, 0, none⟩ (by simp; omega) (fun e => hRo.out e.symm)).trans (by simp [cas1, w0]); have v1 : w2.cell? ⟨R, 1, none⟩ = some (Value.slice none 0 0) := (hgrow.cell_far ⟨R, 1, none⟩ (by simp; omega) (fun e => hRo.out e.symm)).trans (by simp [cas1, w1']); have vf : w2.frozen? ⟨R, 1, none⟩ = false := (hgrow.frozen_far ⟨R, 1, none⟩ (by simp; omega) (fun e => hRo.out e.symm)).trans (by simp [fas1, w1', wf]); have O2 := Lib.hid hown2; have G2 := Lib.hid hgrow; have A2 := Lib.hid hat; have L2 := Lib.hid hlt; clear hown2 hgrow hat hlt))
    all_goals go_wp2
    all_goals go_ret
    all_goals exact radt_fin (o := .cells #[.int .i64 x.s, .int .u64 x.v] 28) h0 BW.out (by have := HR.out; omega) ZW.out v0 v1 vf (HW1.out _) O2.out G2.out A2.out HC.out
  · have hcap : (Value.slice (some ⟨g, 0, none⟩) xs.length cap) = .slice (some ⟨g, 0, none⟩) xs.length cap := rfl
    have g1 : decide (most ≤ (xs.length : Int)) = false := decide_eq_false (by omega)
    clear hown hm hg
    go_wp2
    go_quiet (fail)
    go_wp2_with fail
    have hn' := hn
    have hll : xs.length = xs.length := rfl
    obtain ⟨W, hW⟩ : ∃ W, W = w1.drewN nq := ⟨_, rfl⟩
    rw [← hW]
    have BW : Hid (Below w.heap.size w W) := by rw [hW]; exact below_drewN BB.out nq
    have ZW : Hid (w.heap.size < W.heap.size) := by rw [hW]; exact Z1.out
    have w0 : W.cell? ⟨R, 0, none⟩ = some (.int .i64 most) := by rw [hW]; exact c0
    have w1' : W.cell? ⟨R, 1, none⟩ = some (Value.slice (some ⟨g, 0, none⟩) xs.length cap) := by rw [hW]; exact h1
    have wf : W.frozen? ⟨R, 1, none⟩ = false := by rw [hW]; exact f1
    have wy0 : W.cell? ⟨w.heap.size, 0, none⟩ = some (.int .i64 x.s) := by rw [hW]; exact y0
    have wy1 : W.cell? ⟨w.heap.size, 1, none⟩ = some (.int .u64 x.v) := by rw [hW]; exact y1
    have HW1 : Hid (∀ o, (W.drew.alloc o).ownsRow (R + 1) 28 2 (Value.slice (some ⟨g, 0, none⟩) xs.length cap) xs.length (SC xs)) := fun o => by rw [hW]; exact (HO.out.kept (row := none) (⟨rfl, rfl, rfl, Nat.le_refl _, fun _ _ _ => rfl⟩ : w1.grownBy (w1.drewN nq).drew none) (by cases h : ((Value.slice (some ⟨g, 0, none⟩) xs.length cap) : Value).ownBlock with | none => exact .inl rfl | some b => exact .inr (by simp))).alloc o
    have hl2 : R < W.heap.size := by have := ZW.out; have := HR.out; omega
    have HN1 : Hid (xs.length ≤ 1000) := hn'
    have hRo : Hid (((Value.slice (some ⟨g, 0, none⟩) xs.length cap) : Value).ownBlock ≠ some R) := fun e => by have := (HO.out.lt R e).1; omega
    have hRn : ¬ R = W.heap.size := by omega
    have HC : Hid (w.cell? ⟨R, 1, none⟩ = some (Value.slice (some ⟨g, 0, none⟩) xs.length cap)) := (BW.out.cell HR.out).symm.trans w1'
    clear hW c0 h1 f1 y0 y1 BB Z1 Q1
    go_region_law ((refine step_append_lies _ rfl (.tmp 46) (.tmp 48) 32 rfl (R + 1) 28 i (.agg #[.int .i64 0, .int .u64 0]) 2 16 Try.underlying32 hi hz0 hz1 hz2 rfl (by decide) (Value.slice (some ⟨g, 0, none⟩) xs.length cap) xs.length (SC xs) (by simp [Act.eval, Act.put]) (HW1.out _) ⟨W.heap.size, 0, none⟩ 1 1 [.int .i64 x.s, .int .u64 x.v] (by simp [Act.eval, Act.put]) rfl (by intro j u hj; match j, hj with | 0, hj => simp at hj; subst hj; simp [Addr.add] | 1, hj => simp at hj; subst hj; simp [Addr.add]) (by intro u hu; simp at hu; rcases hu with rfl | rfl <;> rfl) (by decide) (by have := HN1.out; unfold maxLen; omega) (by have := HN1.out; omega) (by simp; omega) _ rfl ?_; intro g' cap' w2 hown2 hgrow hat hlt; have v0 : w2.cell? ⟨R, 0, none⟩ = some (.int .i64 most) := (hgrow.cell_far ⟨R, 0, none⟩ (by simp; omega) (fun e => hRo.out e.symm)).trans (by simp [cas1, w0]); have v1 : w2.cell? ⟨R, 1, none⟩ = some (Value.slice (some ⟨g, 0, none⟩) xs.length cap) := (hgrow.cell_far ⟨R, 1, none⟩ (by simp; omega) (fun e => hRo.out e.symm)).trans (by simp [cas1, w1']); have vf : w2.frozen? ⟨R, 1, none⟩ = false := (hgrow.frozen_far ⟨R, 1, none⟩ (by simp; omega) (fun e => hRo.out e.symm)).trans (by simp [fas1, w1', wf]); have O2 := Lib.hid hown2; have G2 := Lib.hid hgrow; have A2 := Lib.hid hat; have L2 := Lib.hid hlt; clear hown2 hgrow hat hlt))
    all_goals go_wp2
    all_goals go_ret
    all_goals exact radt_fin (o := .cells #[.int .i64 x.s, .int .u64 x.v] 28) rfl BW.out (by have := HR.out; omega) ZW.out v0 v1 vf (HW1.out _) O2.out G2.out A2.out HC.out
end Go.Proofs.Ytabhnhodhbpmmaa
