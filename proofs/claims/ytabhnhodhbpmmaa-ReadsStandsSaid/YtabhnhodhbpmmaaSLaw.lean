/- ReadsStands: the walk of the law. -/

import Derived.Test.YtabhnhodhbpmmaaReadsC
import Derived.Test.YtabhnhodhbpmmaaStands
import Derived.Test.YtabhnhodhbpmmaaRunsC
import Derived.ChangeSame
import Derived.Deep.LoopGhost
import Derived.Deep.Slices
import Derived.Deep.AppendLies
namespace Go.Proofs.Ytabhnhodhbpmmaa
open Go.ChangeShapes Go.WideShapes Go.ChangeAt Go.RowKit
open Go.ChangeMaps (open_string shut_string)
set_option linter.unusedVariables false
/-- A slice of integers that came in, as a value: it is empty, or a row in memory. -/
def IntArg (k : IntKind) (w : World) (v : Value) : Prop := (∃ a cap, v = .slice a 0 cap) ∨ ∃ (b off len cap : Nat) (Z : Nat → Int), v = .slice (some ⟨b, off, none⟩) len cap ∧ 0 < len ∧ len ≤ 9223372036854775807 ∧ b < w.heap.size ∧ (∀ i, i < len → w.cell? ⟨b, off + i, none⟩ = some (.int k (Z i))) ∧ ∀ i, i < len → (Lit.int k (Z i)).wf = true
theorem ints_arg {H : Type} {enc : TypeId × Value → H} {P : Program} {w : World} {t e : TypeId} {k : IntKind} {a : Option Addr} {len cap : Nat} {d : DataW H} {ps : List MemPlace}
    (ht : P.underlying t = some (.slice e)) (he : P.underlying e = some (.int k)) (hc1 : P.cellsOf e = 1) (h : DataW.Trod enc P w 0 (fun _ => true) true t (.slice a len cap) d ps) : IntArg k w (.slice a len cap) := by
  obtain ⟨fuel, hf⟩ := h
  rcases open_ints ht he hc1 hf with ⟨hcs, _⟩ | ⟨x, l, c, zs, hcs, _, hl, hm, hz, _, hcell, hwz⟩
  · simp [Value.cells] at hcs
    obtain ⟨rfl, rfl, rfl⟩ := hcs
    exact .inl ⟨_, _, rfl⟩
  · simp [Value.cells] at hcs
    obtain ⟨rfl, rfl, rfl⟩ := hcs
    have hm' : cap ≤ 9223372036854775807 := hm
    by_cases hz0 : len = 0
    · subst hz0; exact .inl ⟨_, _, rfl⟩
    · obtain ⟨b, off, spot⟩ := x
      have hlen : zs.length = cap := by simpa using hz
      have hc0 := hcell 0 (by omega)
      have hspot : spot = none := by simpa [Addr.add] using World.cell?_spot hc0
      subst hspot
      have hc : ∀ i, i < len → w.cell? ⟨b, off + i, none⟩ = some (.int k (zs.getD i 0)) := fun i hi => by
        have h := hcell i (by omega)
        have e : (⟨b, off, none⟩ : Addr).add i = ⟨b, off + i, none⟩ := by unfold Addr.add; split <;> simp_all
        rw [e] at h
        exact h
      refine .inr ⟨b, off, len, cap, fun i => zs.getD i 0, rfl, by omega, by omega, World.block_lt_of_cell? w _ (hc 0 (by omega)), hc, fun i hi => ?_⟩
      have hi' : i < zs.length := by omega
      have : zs.getD i 0 = zs[i] := by simp [List.getD_eq_getElem?_getD, hi']
      show (Lit.int k (zs.getD i 0)).wf = true
      rw [this]
      exact hwz _ (List.getElem_mem hi')

/-- The cells of n free locks of these versions. -/
def LC (Z : Nat → Int) : Nat → List Value
  | 0 => []
  | n + 1 => LC Z n ++ [.int .u64 (Z n), .bool false, .int .i64 0]
theorem LC_len (Z : Nat → Int) : ∀ n, (LC Z n).length = n * 3
  | 0 => rfl
  | n + 1 => by simp [LC, LC_len Z n]; omega
theorem LC_get (Z : Nat → Int) : ∀ n i, i < n → (LC Z n)[i * 3]? = some (.int .u64 (Z i)) ∧ (LC Z n)[i * 3 + 1]? = some (.bool false) ∧ (LC Z n)[i * 3 + 2]? = some (.int .i64 0)
  | 0, i, h => absurd h (by omega)
  | n + 1, i, h => by
    have hl := LC_len Z n
    by_cases hin : i < n
    · obtain ⟨a, b, c⟩ := LC_get Z n i hin
      refine ⟨?_, ?_, ?_⟩ <;> rw [LC, List.getElem?_append_left (by omega)] <;> assumption
    · obtain rfl : i = n := by omega
      refine ⟨?_, ?_, ?_⟩ <;> rw [LC, List.getElem?_append_right (by omega), hl]
      · simp
      · rw [show i * 3 + 1 - i * 3 = 1 by omega]; rfl
      · rw [show i * 3 + 2 - i * 3 = 2 by omega]; rfl
/-- What was seen of the first n stripes. -/
def sel (B : Nat → Bool) (Z : Nat → Int) : Nat → List Sn
  | 0 => []
  | n + 1 => if B n then sel B Z n ++ [⟨(n : Int), Z n⟩] else sel B Z n
theorem sel_len (B : Nat → Bool) (Z : Nat → Int) : ∀ n, (sel B Z n).length ≤ n
  | 0 => by simp [sel]
  | n + 1 => by
    have := sel_len B Z n
    rw [sel]; split <;> simp <;> omega
theorem sel_fnd (B : Nat → Bool) (Z : Nat → Int) (i : Nat) : ∀ n, n ≤ i → fnd (i : Int) (sel B Z n) = none
  | 0, _ => rfl
  | n + 1, h => by
    have ih := sel_fnd B Z i n (by omega)
    rw [sel]; split
    · rw [fnd_app, ih]
      have h3 : ¬ ((n : Int) == (i : Int)) = true := by simp; omega
      simp [h3]
    · exact ih
theorem sel_mem (B : Nat → Bool) (Z : Nat → Int) : ∀ n, ∀ x, x ∈ sel B Z n ↔ ∃ i : Nat, i < n ∧ B i = true ∧ x = ⟨(i : Int), Z i⟩
  | 0, x => by simp [sel]
  | n + 1, x => by
    have ih := sel_mem B Z n x
    rw [sel]; split
    · rename_i hB
      simp only [List.mem_append, List.mem_singleton, ih]
      constructor
      · rintro (⟨i, h1, h2, h3⟩ | rfl)
        · exact ⟨i, by omega, h2, h3⟩
        · exact ⟨n, by omega, hB, rfl⟩
      · rintro ⟨i, h1, h2, rfl⟩
        by_cases hin : i < n
        · exact .inl ⟨i, hin, h2, rfl⟩
        · obtain rfl : i = n := by omega
          exact .inr rfl
    · rename_i hB
      rw [ih]
      constructor
      · rintro ⟨i, h1, h2, h3⟩
        exact ⟨i, by omega, h2, h3⟩
      · rintro ⟨i, h1, h2, h3⟩
        by_cases hin : i < n
        · exact ⟨i, hin, h2, h3⟩
        · obtain rfl : i = n := by omega
          exact absurd h2 hB
theorem stn_true (n : Int) (V : Int → Int) (H : Int → Bool) : ∀ L : List Sn, (∀ x ∈ L, x.s < n ∧ H x.s = false ∧ V x.s = x.v) → stn n V H L = true
  | [], _ => rfl
  | x :: xs, h => by
    obtain ⟨h1, h2, h3⟩ := h x (by simp)
    rw [stn, if_neg (by simp; omega), h2, h3]
    simpa using stn_true n V H xs (fun y hy => h y (by simp [hy]))
theorem stn_false (n : Int) (V : Int → Int) (H : Int → Bool) : ∀ L : List Sn, (∃ x ∈ L, H x.s = true ∨ V x.s ≠ x.v) → stn n V H L = false
  | [], h => by obtain ⟨x, hx, _⟩ := h; simp at hx
  | y :: ys, ⟨x, hx, hb⟩ => by
    rw [stn]
    split
    · rfl
    · rcases List.mem_cons.1 hx with rfl | hx
      · rcases hb with hb | hb
        · rw [hb]; rfl
        · split
          · rfl
          · rw [if_neg (by simpa using hb)]
      · split
        · rfl
        · split
          · exact stn_false n V H ys ⟨x, hx, hb⟩
          · rfl
/-- The block of a row of locks is another than those of the reads. -/
def Apart (w : World) (R : Nat) (u : Value) : Prop := ∀ b, u.ownBlock = some b → b ≠ R ∧ ∀ rv, w.cell? ⟨R, 1, none⟩ = some rv → some b ≠ rv.ownBlock
theorem lock_step {w wr w3 : World} {R n : Nat} {u : Value} {o : Obj} {xs : List Sn} {g cap : Nat} {e : TypeId} {L : List Value} {m : Nat} (hq : ReadsAt wr R 16 xs) (ha : Apart wr R u) (hb : Below w.heap.size w wr) (ho : wr.ownsRow w.heap.size e 3 u m L) (hgrow : (wr.alloc o).grownBy w3 u.ownBlock) (hat : u.ownBlock = some g ∨ g = (wr.alloc o).heap.size) :
    ReadsAt w3 R 16 xs ∧ Apart w3 R (.slice (some ⟨g, 0, none⟩) n cap) ∧ Below w.heap.size w w3 := by
  obtain ⟨rv, h1, h2⟩ := hq.c1
  have hR := hq.lt
  have hRu : some R ≠ u.ownBlock := fun e => (ha R e.symm).1 rfl
  have hru : rv.ownBlock = none ∨ rv.ownBlock ≠ u.ownBlock := by
    cases h : rv.ownBlock with
    | none => exact .inl rfl
    | some k => exact .inr (fun e => (ha k e.symm).2 rv h1 h.symm)
  have key : ∀ j, w3.cell? ⟨R, j, none⟩ = wr.cell? ⟨R, j, none⟩ := fun j => (hgrow.cell_far ⟨R, j, none⟩ (by simp; omega) hRu).trans (by rw [World.cell?_alloc_lt _ _ _ hR])
  refine ⟨⟨(key 0).trans hq.c0, ⟨rv, (key 1).trans h1, (h2.alloc o).kept hgrow hru⟩, (hgrow.frozen_far ⟨R, 1, none⟩ (by simp; omega) hRu).trans ((((Below.refl wr.heap.size wr).alloc (Nat.le_refl _) o).frozen (p := ⟨R, 1, none⟩) hR).trans hq.f1), Nat.lt_of_lt_of_le hR (Nat.le_trans (by simp) hgrow.size)⟩, ?_, ?_⟩
  · intro b hbg
    simp only [Value.ownBlock, Option.some.injEq] at hbg
    subst hbg
    rcases hat with h | h
    · refine ⟨(ha g h).1, fun rv' hrv => ?_⟩
      rw [key 1] at hrv
      exact (ha g h).2 rv' hrv
    · simp at h
      refine ⟨by omega, fun rv' hrv e => ?_⟩
      rw [key 1, h1] at hrv
      obtain rfl := Option.some.inj hrv
      have := (h2.lt g e.symm).2
      omega
  · exact (hb.alloc hb.size o).grown hgrow (by have := hb.size; simp; omega) (fun k hk => (ho.lt k hk).1)
theorem bit01 (x : Int) : bits BinOp.and IntKind.u16 x 1 = 0 ∨ bits BinOp.and IntKind.u16 x 1 = 1 := by
  have h : ((BitVec.ofInt 16 x) &&& (BitVec.ofInt 16 1)).toNat = (BitVec.ofInt 16 x).toNat % 2 := by
    rw [BitVec.toNat_and]
    exact Nat.and_one_is_mod _
  show IntKind.u16.wrap ((((BitVec.ofInt 16 x) &&& (BitVec.ofInt 16 1)).toNat : Nat) : Int) = 0 ∨ IntKind.u16.wrap ((((BitVec.ofInt 16 x) &&& (BitVec.ofInt 16 1)).toNat : Nat) : Int) = 1
  rw [h]
  rcases Nat.mod_two_eq_zero_or_one (BitVec.ofInt 16 x).toNat with e | e <;> rw [e]
  · left; decide
  · right; decide
theorem reads_grown {wr w3 : World} {R : Nat} {xs : List Sn} {row : Option Nat} (hq : ReadsAt wr R 16 xs) (hg : wr.grownBy w3 row) (hR : some R ≠ row) (hr : ∀ rv, wr.cell? ⟨R, 1, none⟩ = some rv → rv.ownBlock = none ∨ rv.ownBlock ≠ row) : ReadsAt w3 R 16 xs := by
  obtain ⟨rv, h1, h2⟩ := hq.c1
  exact ⟨hg.cell hq.c0 hR, ⟨rv, hg.cell h1 hR, h2.kept hg (hr rv h1)⟩, (hg.frozen_far ⟨R, 1, none⟩ hq.lt hR).trans hq.f1, Nat.lt_of_lt_of_le hq.lt hg.size⟩
/-- After Add of a new stripe: the locks' row stands as it was, apart from the reads. -/
theorem lock_after {w3 w4 : World} {R base n m g cap : Nat} {e : TypeId} {L : List Value} {v v' : Value} (ho : w3.ownsRow base e 3 (.slice (some ⟨g, 0, none⟩) n cap) m L) (ha : Apart w3 R (.slice (some ⟨g, 0, none⟩) n cap)) (h1 : w3.cell? ⟨R, 1, none⟩ = some v) (h2 : w4.cell? ⟨R, 1, none⟩ = some v')
    (h3 : ∀ b, b < w3.heap.size → b ≠ R → some b ≠ v.ownBlock → w4.heap[b]? = w3.heap[b]?) (h4 : ∀ b, b < w3.heap.size → some b ≠ v.ownBlock → some b ≠ v'.ownBlock) :
    w4.ownsRow base e 3 (.slice (some ⟨g, 0, none⟩) n cap) m L ∧ Apart w4 R (.slice (some ⟨g, 0, none⟩) n cap) := by
  have hg := (ho.lt g rfl).2
  obtain ⟨a1, a2⟩ := ha g rfl
  have a3 := a2 v h1
  constructor
  · refine ⟨ho.1, ?_⟩
    rcases ho.2 with hn | ⟨g', cap', cur, e1, hb, hgg, rest⟩
    · exact .inl hn
    · have : g = g' := by simp at e1; exact e1.1
      subst this
      refine .inr ⟨g, cap', cur, e1, hb, ?_, rest⟩
      rw [h3 g hg a1 a3]
      exact hgg
  · intro b hb
    simp only [Value.ownBlock, Option.some.injEq] at hb
    subst hb
    refine ⟨a1, fun rv hrv => ?_⟩
    rw [h2] at hrv
    obtain rfl := Option.some.inj hrv
    exact h4 g hg a3
theorem locks_of {w : World} {g cap n base : Nat} {e : TypeId} {L : List Value} {V : Int → Int} {H : Int → Bool} (ho : w.ownsRow base e 3 (.slice (some ⟨g, 0, none⟩) n cap) n L) (hL : ∀ i : Nat, i < n → L[i * 3]? = some (.int .u64 (V i)) ∧ L[i * 3 + 1]? = some (.bool (H i)) ∧ L[i * 3 + 2]? = some (.int .i64 0)) :
    LocksAt w g 0 n V H (fun _ => 0) := fun i hi => by
  obtain ⟨a, b, c⟩ := hL i hi
  refine ⟨?_, ?_, ?_⟩
  · simpa using (ho.cellAt (i * 3) (by omega)).trans a
  · have := (ho.cellAt (i * 3 + 1) (by omega)).trans b
    simpa using this
  · have := (ho.cellAt (i * 3 + 2) (by omega)).trans c
    simpa using this
theorem LC_held (Z : Nat → Int) (n k : Nat) (hk : k < n) : ∀ i : Nat, i < n → ((LC Z n).set (k * 3 + 1) (.bool true))[i * 3]? = some (.int .u64 (Z (i : Int).toNat)) ∧ ((LC Z n).set (k * 3 + 1) (.bool true))[i * 3 + 1]? = some (.bool ((i : Int) == (k : Int))) ∧ ((LC Z n).set (k * 3 + 1) (.bool true))[i * 3 + 2]? = some (.int .i64 0) := fun i hi => by
  obtain ⟨a, b, c⟩ := LC_get Z n i hi
  have hl := LC_len Z n
  refine ⟨?_, ?_, ?_⟩
  · rw [List.getElem?_set_ne (by omega)]; simpa using a
  · by_cases h : i = k
    · subst h
      rw [List.getElem?_set_self (by omega)]; simp
    · rw [List.getElem?_set_ne (by omega), b]
      have : ((i : Int) == (k : Int)) = false := by simp; omega
      rw [this]
  · rw [List.getElem?_set_ne (by omega)]; exact c
theorem LC_ver (Z : Nat → Int) (n k : Nat) (u : Int) (hk : k < n) : ∀ i : Nat, i < n → ((LC Z n).set (k * 3) (.int .u64 u))[i * 3]? = some (.int .u64 (if (i : Int) = (k : Int) then u else Z (i : Int).toNat)) ∧ ((LC Z n).set (k * 3) (.int .u64 u))[i * 3 + 1]? = some (.bool false) ∧ ((LC Z n).set (k * 3) (.int .u64 u))[i * 3 + 2]? = some (.int .i64 0) := fun i hi => by
  obtain ⟨a, b, c⟩ := LC_get Z n i hi
  have hl := LC_len Z n
  refine ⟨?_, ?_, ?_⟩
  · by_cases h : i = k
    · subst h
      rw [List.getElem?_set_self (by omega)]; simp
    · rw [List.getElem?_set_ne (by omega), a, if_neg (by omega)]; simp
  · rw [List.getElem?_set_ne (by omega)]; exact b
  · rw [List.getElem?_set_ne (by omega)]; exact c
theorem stn_held (B : Nat → Bool) (Z : Nat → Int) (n k : Nat) (hk : k < n) : stn (n : Int) (fun s => Z s.toNat) (fun s => s == (k : Int)) (sel B Z n) = !(B k) := by
  cases hB : B k
  · refine stn_true _ _ _ _ fun x hx => ?_
    obtain ⟨i, h1, h2, rfl⟩ := (sel_mem B Z n x).1 hx
    have : i ≠ k := fun e => by rw [e, hB] at h2; cases h2
    exact ⟨by show (i : Int) < n; omega, by simp; omega, by simp⟩
  · exact stn_false _ _ _ _ ⟨_, (sel_mem B Z n _).2 ⟨k, hk, hB, rfl⟩, .inl (by simp)⟩
theorem stn_ver (B : Nat → Bool) (Z : Nat → Int) (n k : Nat) (u : Int) (hk : k < n) (hu : u ≠ Z k) : stn (n : Int) (fun s => if s = (k : Int) then u else Z s.toNat) (fun _ => false) (sel B Z n) = !(B k) := by
  cases hB : B k
  · refine stn_true _ _ _ _ fun x hx => ?_
    obtain ⟨i, h1, h2, rfl⟩ := (sel_mem B Z n x).1 hx
    have : i ≠ k := fun e => by rw [e, hB] at h2; cases h2
    exact ⟨by show (i : Int) < n; omega, rfl, by show (if (i : Int) = (k : Int) then u else Z (i : Int).toNat) = Z i; rw [if_neg (by omega)]; simp⟩
  · exact stn_false _ _ _ _ ⟨_, (sel_mem B Z n _).2 ⟨k, hk, hB, rfl⟩, .inr (by simpa using hu)⟩
theorem stn_all (B : Nat → Bool) (Z : Nat → Int) (n : Nat) : stn (n : Int) (fun s => Z s.toNat) (fun _ => false) (sel B Z n) = true := by
  refine stn_true _ _ _ _ fun x hx => ?_
  obtain ⟨i, h1, h2, rfl⟩ := (sel_mem B Z n x).1 hx
  exact ⟨by show (i : Int) < n; omega, rfl, by simp⟩
theorem sel_pos (B : Nat → Bool) (Z : Nat → Int) (n : Nat) : ∀ x ∈ sel B Z n, 0 ≤ x.s := fun x hx => by
  obtain ⟨i, h1, h2, rfl⟩ := (sel_mem B Z n x).1 hx
  show (0 : Int) ≤ i
  omega
theorem info_lk : (Try.prog.info? 41).map (fun i => (i.zero, i.size, i.bytes)) = some (some (.agg #[.int .u64 0, .bool false, .int .i64 0]), 3, 24) := by kernel_rfl
set_option maxRecDepth 100000 in
set_option maxHeartbeats 4000000 in
theorem stands_row (seen at8 how : Int) (b off len cap : Nat) (Z : Nat → Int) (w : World) (hs0 : 0 ≤ seen) (hs1 : seen ≤ 65535) (ha0 : 0 ≤ at8) (ha1 : at8 ≤ 255) (ho0 : 0 ≤ how) (ho1 : how ≤ 255) (hl : 0 < len) (hl16 : len ≤ 16) (hb : b < w.heap.size) (hc : ∀ i, i < len → w.cell? ⟨b, off + i, none⟩ = some (.int .u8 (Z i))) (hz : ∀ i, i < len → (Lit.int .u8 (Z i)).wf = true) :
    Calls Try.prog 6 #[.slice (some ⟨b, off, none⟩) len cap, .int .u16 seen, .int .u8 at8, .int .u8 how] w fun e w' => e = .returned (.bool true) ∧ Below w.heap.size w w' := by
  have ZB : Hid (∀ i, i < len → 0 ≤ Z i ∧ Z i ≤ 255) := fun i hi => by simpa [Lit.wf, IntKind.min, IntKind.max, IntKind.signed, IntKind.bits] using hz i hi
  have ZC := Lib.hid hc
  have BL : Hid (b < w.heap.size) := hb
  clear hc hz hb
  have HN := Lib.hid (rnew_any 16)
  rw [show c16 16 = 16 by decide] at HN
  have q1 : decide (len < 1) = false := decide_eq_false (by omega)
  have q2 : decide (16 < len) = false := decide_eq_false (by omega)
  have q1' : decide ((len : Int) < 1) = false := decide_eq_false (by omega)
  have q2' : decide ((16 : Int) < (len : Int)) = false := decide_eq_false (by omega)
  obtain ⟨li, hi, hz0, hz1, hz2⟩ := info_parts info_lk
  go_enter Try.func6, Try.ntmps6
  go_wp2_with (first | (go_at_call 3; (with_reducible refine (runs_any _).mono ?_); rintro e w1 ⟨rfl, hb1⟩; have B1 : Below w.heap.size w w1 := (by refine Below.trans ?_ (hb1.mono (by first | (simp; done) | (have := (Below.refl 0 w).size; simp; omega))); repeat (first | exact Below.refl _ _ | assumption | refine Below.setCell ?_ (by first | (simp; done) | (have := (Below.refl 0 w).size; simp; omega)) _ | refine Below.alloc ?_ (by first | (simp; done) | (have := (Below.refl 0 w).size; simp; omega)) _ | refine Below.drew ?_)); clear hb1))
  go_wp2_with fail
  refine (HN.out _).mono ?_
  rintro e w2 ⟨rfl, hq, hb2⟩
  have B2 : Below w.heap.size w w2 := B1.trans (hb2.mono B1.size)
  have ZR : Hid (w.heap.size ≤ w1.heap.size) := B1.size
  have Q2 := Lib.hid hq
  obtain ⟨R, hR⟩ : ∃ R, w1.heap.size = R := ⟨_, rfl⟩
  rw [hR] at Q2 ZR ⊢
  clear hq hb2 hR HN
  go_wp2_with fail
  obtain ⟨B, hBe⟩ : ∃ B : Nat → Bool, ∀ i, B i = (bits BinOp.and IntKind.u16 (seen / 2 ^ i) 1 == 1) := ⟨_, fun _ => rfl⟩
  have HB := Lib.hid hBe
  clear hBe
  go_loopg [10, 11] 16 (fun g u v wr => ∃ i : Nat, i ≤ len ∧ g + i = 16 ∧ v = .int .i64 i ∧ Hid (ReadsAt wr R 16 (sel B Z i)) ∧ Hid (wr.ownsRow w.heap.size 41 3 u i (LC Z i)) ∧ Hid (Apart wr R u) ∧ Hid (Below w.heap.size w wr))
  case atStart => exact ⟨0, by omega, by omega, rfl, Q2.out, World.ownsRow_nil _ _ _ _, (fun b hb => by simp [Value.ownBlock] at hb), B2⟩
  case round =>
    obtain ⟨i, hil, hg, rfl, hq, ho, ha, hb⟩ := hrel
    by_cases hlt : i < len
    · have i1 : (i : Int) < (len : Int) := by omega
      have i0 : (0 : Int) ≤ (i : Int) := by omega
      have cz : wr.cell? ⟨b, off + i, none⟩ = some (.int .u8 (Z i)) := (hb.out.cell BL.out).trans (ZC.out i hlt)
      have bz := ZB.out i hlt
      generalize hz : Z i = z at *
      have HZ : Hid (LC Z (i + 1) = LC Z i ++ [.int .u64 z, .bool false, .int .i64 0]) := by show _ = _; rw [← hz]; rfl
      have HS : Hid (sel B Z (i + 1) = if B i then sel B Z i ++ [⟨(i : Int), z⟩] else sel B Z i) := by show _ = _; rw [← hz]; rfl
      have bb := hb.out.size
      clear hz
      have hbi := HB.out i
      have HG : Hid (i < len ∧ gk + i = 16) := ⟨hlt, hg⟩
      have LE := Lib.hid (sel_len B Z i)
      have FN := Lib.hid (sel_fnd B Z i i (Nat.le_refl _))
      rcases bit01 (seen / 2 ^ i) with hbit | hbit
      · have hb2 : (bits BinOp.and IntKind.u16 (seen / 2 ^ i) 1 == 1) = false := by rw [hbit]; rfl
        have HBI : Hid (sel B Z (i + 1) = sel B Z i) := by show _ = _; rw [HS.out, hbi, hb2]; rfl
        clear hbi HS hlt hg
        go_wp2_with (first | (at_builtin; refine wpList_append_lies _ rfl _ _ 36 rfl w.heap.size 41 li (.agg #[.int .u64 0, .bool false, .int .i64 0]) 3 24 Try.underlying36 hi hz0 hz1 hz2 rfl (by decide) _ i (LC Z i) rfl (ho.out.alloc _) ⟨wr.heap.size, 0, none⟩ 1 1 [.int .u64 z, .bool false, .int .i64 0] rfl rfl (by intro j u hj; match j, hj with | 0, hj => simp at hj; subst hj; simp [Addr.add] | 1, hj => simp at hj; subst hj; simp [Addr.add] | 2, hj => simp at hj; subst hj; simp [Addr.add]) (by intro u hu; simp at hu; rcases hu with rfl | rfl | rfl <;> rfl) (by decide) (by unfold maxLen; omega) (by omega) (by simp; omega) _ rfl ?_; intro g' cap' w3 hown3 hgrow hat hlt3; obtain ⟨q3, a3, b3⟩ := lock_step (n := i + 1) (cap := cap') hq.out ha.out hb.out ho.out hgrow hat; rw [← HZ.out] at hown3; have Q3 := Lib.hid q3; have A3 := Lib.hid a3; have B3 := Lib.hid b3; have O3 := Lib.hid hown3; have cz3 := (b3.cell (p := ⟨b, off + i, none⟩) BL.out).trans ((hb.out.cell BL.out).symm.trans cz); clear q3 a3 b3 hown3 hgrow hat hlt3 hq ha hb ho cz))
        go_roundg (gk - 1)
        case measure => have := HG.out; omega
        case rel => exact ⟨i + 1, by have := HG.out; omega, by have := HG.out; omega, by go_num, by rw [HBI.out]; exact Q3.out, O3.out, A3.out, B3.out⟩
      · have hb2 : (bits BinOp.and IntKind.u16 (seen / 2 ^ i) 1 == 1) = true := by rw [hbit]; rfl
        have HBI : Hid (sel B Z (i + 1) = sel B Z i ++ [⟨(i : Int), z⟩]) := by show _ = _; rw [HS.out, hbi, hb2]; rfl
        clear hbi HS hlt hg
        go_wp2_with (first | (at_builtin; refine wpList_append_lies _ rfl _ _ 36 rfl w.heap.size 41 li (.agg #[.int .u64 0, .bool false, .int .i64 0]) 3 24 Try.underlying36 hi hz0 hz1 hz2 rfl (by decide) _ i (LC Z i) rfl (ho.out.alloc _) ⟨wr.heap.size, 0, none⟩ 1 1 [.int .u64 z, .bool false, .int .i64 0] rfl rfl (by intro j u hj; match j, hj with | 0, hj => simp at hj; subst hj; simp [Addr.add] | 1, hj => simp at hj; subst hj; simp [Addr.add] | 2, hj => simp at hj; subst hj; simp [Addr.add]) (by intro u hu; simp at hu; rcases hu with rfl | rfl | rfl <;> rfl) (by decide) (by unfold maxLen; omega) (by omega) (by simp; omega) _ rfl ?_; intro g' cap' w3 hown3 hgrow hat hlt3; obtain ⟨q3, a3, b3⟩ := lock_step (n := i + 1) (cap := cap') hq.out ha.out hb.out ho.out hgrow hat; rw [← HZ.out] at hown3; have Q3 := Lib.hid q3; have A3 := Lib.hid a3; have B3 := Lib.hid b3; have O3 := Lib.hid hown3; have cz3 := (b3.cell (p := ⟨b, off + i, none⟩) BL.out).trans ((hb.out.cell BL.out).symm.trans cz); clear q3 a3 b3 hown3 hgrow hat hlt3 hq ha hb ho cz))
        have AD := radt_new R 16 ⟨(i : Int), z⟩ (sel B Z i) w3 Q3.out (by have := LE.out; have := HG.out; omega) ⟨by show (0 : Int) ≤ i; omega, by show (i : Int) < 16; omega, bz.1, by show z < _; omega⟩ FN.out (by have := LE.out; have := HG.out; omega)
        rw [← HBI.out] at AD
        refine AD.mono ?_
        rintro e w4 ⟨⟨rfl, q4, b4⟩, v, v', h1, h2, h3, h4, h5⟩
        obtain ⟨o4, a4⟩ := lock_after O3.out A3.out h1 h2 h3 h4
        have Q4 := Lib.hid q4
        have O4 := Lib.hid o4
        have A4 := Lib.hid a4
        have B4 : Hid (Below w.heap.size w w4) := B3.out.trans (b4.mono ZR.out)
        clear h1 h2 h3 h4 h5 q4 o4 a4 b4 AD Q3 O3 A3 cz3
        go_wp2
        go_roundg (gk - 1)
        case measure => have := HG.out; omega
        case rel => exact ⟨i + 1, by have := HG.out; omega, by have := HG.out; omega, by go_num, Q4.out, O4.out, A4.out, B4.out⟩
    · obtain rfl : i = len := by omega
      have i1 : decide ((i : Int) < (i : Int)) = false := decide_eq_false (by omega)
      obtain ⟨g, cp, hv, g1, g2⟩ := ho.out.form hl
      subst hv
      have SN := stands_any R 16 (sel B Z i) g 0 i cp (fun s => Z s.toNat) (fun _ => false) (fun _ => 0) wr hq.out (by have := sel_len B Z i; omega) g2 (locks_of ho.out (fun j hj => by simpa using LC_get Z i j hj)) (by omega) (sel_pos B Z i)
      rw [stn_all] at SN
      have SH := Lib.hid SN
      obtain ⟨k, hk⟩ := Int.eq_ofNat_of_zero_le (show 0 ≤ at8 % (i : Int) from Int.emod_nonneg _ (by omega))
      have hk1 : at8 % (i : Int) < (i : Int) := Int.emod_lt_of_pos _ (by omega)
      rw [hk] at hk1
      have hki : k < i := by omega
      have ap := ha.out g rfl
      have GG := Lib.hid (And.intro g1 g2)
      have AP := Lib.hid ap
      clear SN hk1 hlt g1 g2 ap hg hil
      go_wp2_with fail
      refine SH.out.mono ?_
      rintro e w5 ⟨rfl, b5⟩
      have Q5 := Lib.hid (hq.out.below b5)
      have O5 := Lib.hid (ho.out.kept (row := none) ⟨b5.os, b5.tape, b5.output, b5.size, fun k hk _ => b5.block k hk⟩ (.inr (by simp [Value.ownBlock])))
      have B5 := Lib.hid (hb.out.trans (b5.mono hb.out.size))
      have cR5 := b5.cell (p := ⟨R, 1, none⟩) hq.out.lt
      have AP5 : Hid (g ≠ R ∧ ∀ rv, w5.cell? ⟨R, 1, none⟩ = some rv → some g ≠ rv.ownBlock) := ⟨AP.out.1, fun rv h => AP.out.2 rv (cR5.symm.trans h)⟩
      have l1 := (O5.out.cellAt (k * 3 + 1) (by omega)).trans (LC_get Z i k hki).2.1
      have l0 := (O5.out.cellAt (k * 3) (by omega)).trans (LC_get Z i k hki).1
      have f1 := O5.out.frozenAt (k * 3 + 1)
      have f0 := O5.out.frozenAt (k * 3)
      have bz := ZB.out k hki
      have hbk := HB.out k
      have G5 : Hid (g < w5.heap.size) := Nat.lt_of_lt_of_le GG.out.2 b5.size
      clear b5 cR5 hq ho hb ha SH AP
      generalize hzk : Z k = zk at *
      have kk0 : (0 : Int) ≤ (k : Int) := by omega
      have kk1 : (k : Int) < (i : Int) := by omega
      have ii0 : (0 : Int) < (i : Int) := by omega
      rcases bit01 (seen / 2 ^ k) with hbit | hbit
      · have HBK : Hid (B k = false) := by show _ = _; rw [hbk, hbit]; rfl
        clear hbk
        rcases (show how % 2 = 0 ∨ how % 2 = 1 by omega) with hh | hh
        · obtain ⟨O6, G6⟩ := O5.out.stored (k * 3 + 1) (.bool true)
          have Q6 := reads_grown Q5.out G6 (fun e => AP5.out.1 (Option.some.inj e).symm) (fun rv h => .inr (fun e => AP5.out.2 rv h e.symm))
          have SN := stands_any R 16 (sel B Z i) g 0 i cp (fun s => Z s.toNat) (fun s => s == (k : Int)) (fun _ => 0) _ Q6 (by have := sel_len B Z i; have := hl16; omega) (by simpa using G5.out) (locks_of O6 (LC_held Z i k hki)) (by have := hl16; omega) (sel_pos B Z i)
          rw [stn_held B Z i k hki, HBK.out] at SN
          have SH := Lib.hid SN
          have BF : Hid (Below w.heap.size w (w5.setCell ⟨g, k * 3 + 1, none⟩ (.bool true))) := B5.out.setCell GG.out.1 _
          clear SN O6 G6 Q6
          go_wp2_with fail
          refine (SH.out).mono ?_
          rintro e w7 ⟨rfl, b7⟩
          go_wp2
          go_ret
          exact ⟨rfl, BF.out.trans (b7.mono BF.out.size)⟩
        · obtain ⟨O6, G6⟩ := O5.out.stored (k * 3) (.int .u64 (zk + 1))
          have Q6 := reads_grown Q5.out G6 (fun e => AP5.out.1 (Option.some.inj e).symm) (fun rv h => .inr (fun e => AP5.out.2 rv h e.symm))
          have SN := stands_any R 16 (sel B Z i) g 0 i cp (fun s => if s = (k : Int) then zk + 1 else Z s.toNat) (fun _ => false) (fun _ => 0) _ Q6 (by have := sel_len B Z i; have := hl16; omega) (by simpa using G5.out) (locks_of O6 (LC_ver Z i k (zk + 1) hki)) (by have := hl16; omega) (sel_pos B Z i)
          rw [stn_ver B Z i k (zk + 1) hki (by omega), HBK.out] at SN
          have SH := Lib.hid SN
          have BF : Hid (Below w.heap.size w (w5.setCell ⟨g, k * 3, none⟩ (.int .u64 (zk + 1)))) := B5.out.setCell GG.out.1 _
          clear SN O6 G6 Q6
          go_wp2_with fail
          refine (SH.out).mono ?_
          rintro e w7 ⟨rfl, b7⟩
          go_wp2
          go_ret
          exact ⟨rfl, BF.out.trans (b7.mono BF.out.size)⟩
      · have HBK : Hid (B k = true) := by show _ = _; rw [hbk, hbit]; rfl
        clear hbk
        rcases (show how % 2 = 0 ∨ how % 2 = 1 by omega) with hh | hh
        · obtain ⟨O6, G6⟩ := O5.out.stored (k * 3 + 1) (.bool true)
          have Q6 := reads_grown Q5.out G6 (fun e => AP5.out.1 (Option.some.inj e).symm) (fun rv h => .inr (fun e => AP5.out.2 rv h e.symm))
          have SN := stands_any R 16 (sel B Z i) g 0 i cp (fun s => Z s.toNat) (fun s => s == (k : Int)) (fun _ => 0) _ Q6 (by have := sel_len B Z i; have := hl16; omega) (by simpa using G5.out) (locks_of O6 (LC_held Z i k hki)) (by have := hl16; omega) (sel_pos B Z i)
          rw [stn_held B Z i k hki, HBK.out] at SN
          have SH := Lib.hid SN
          have BF : Hid (Below w.heap.size w (w5.setCell ⟨g, k * 3 + 1, none⟩ (.bool true))) := B5.out.setCell GG.out.1 _
          clear SN O6 G6 Q6
          go_wp2_with fail
          refine (SH.out).mono ?_
          rintro e w7 ⟨rfl, b7⟩
          go_wp2
          go_ret
          exact ⟨rfl, BF.out.trans (b7.mono BF.out.size)⟩
        · obtain ⟨O6, G6⟩ := O5.out.stored (k * 3) (.int .u64 (zk + 1))
          have Q6 := reads_grown Q5.out G6 (fun e => AP5.out.1 (Option.some.inj e).symm) (fun rv h => .inr (fun e => AP5.out.2 rv h e.symm))
          have SN := stands_any R 16 (sel B Z i) g 0 i cp (fun s => if s = (k : Int) then zk + 1 else Z s.toNat) (fun _ => false) (fun _ => 0) _ Q6 (by have := sel_len B Z i; have := hl16; omega) (by simpa using G5.out) (locks_of O6 (LC_ver Z i k (zk + 1) hki)) (by have := hl16; omega) (sel_pos B Z i)
          rw [stn_ver B Z i k (zk + 1) hki (by omega), HBK.out] at SN
          have SH := Lib.hid SN
          have BF : Hid (Below w.heap.size w (w5.setCell ⟨g, k * 3, none⟩ (.int .u64 (zk + 1)))) := B5.out.setCell GG.out.1 _
          clear SN O6 G6 Q6
          go_wp2_with fail
          refine (SH.out).mono ?_
          rintro e w7 ⟨rfl, b7⟩
          go_wp2
          go_ret
          exact ⟨rfl, BF.out.trans (b7.mono BF.out.size)⟩
set_option maxRecDepth 100000 in
theorem stands_empty (seen at8 how : Int) (ad : Option Addr) (cap : Nat) (w : World) : Calls Try.prog 6 #[.slice ad 0 cap, .int .u16 seen, .int .u8 at8, .int .u8 how] w fun e w' => e = .returned (.bool true) ∧ Below w.heap.size w w' := by
  go_enter Try.func6, Try.ntmps6
  go_wp2_with (first | (go_at_call 3; (with_reducible refine (runs_any _).mono ?_); rintro e w1 ⟨rfl, hb1⟩; have B1 : Below w.heap.size w w1 := (by refine Below.trans ?_ (hb1.mono (by first | (simp; done) | (have := (Below.refl 0 w).size; simp; omega))); repeat (first | exact Below.refl _ _ | assumption | refine Below.setCell ?_ (by first | (simp; done) | (have := (Below.refl 0 w).size; simp; omega)) _ | refine Below.alloc ?_ (by first | (simp; done) | (have := (Below.refl 0 w).size; simp; omega)) _ | refine Below.drew ?_)); clear hb1))
  go_ret
  exact ⟨rfl, B1⟩
set_option maxRecDepth 100000 in
theorem stands_over (seen at8 how : Int) (ad : Option Addr) (len cap : Nat) (w : World) (h : 16 < len) : Calls Try.prog 6 #[.slice ad len cap, .int .u16 seen, .int .u8 at8, .int .u8 how] w fun e w' => e = .returned (.bool true) ∧ Below w.heap.size w w' := by
  have q1 : decide (len < 1) = false := decide_eq_false (by omega)
  have q2 : decide (16 < len) = true := decide_eq_true (by omega)
  have q1' : decide ((len : Int) < 1) = false := decide_eq_false (by omega)
  have q2' : decide ((16 : Int) < (len : Int)) = true := decide_eq_true (by omega)
  clear h
  go_enter Try.func6, Try.ntmps6
  go_wp2_with (first | (go_at_call 3; (with_reducible refine (runs_any _).mono ?_); rintro e w1 ⟨rfl, hb1⟩; have B1 : Below w.heap.size w w1 := (by refine Below.trans ?_ (hb1.mono (by first | (simp; done) | (have := (Below.refl 0 w).size; simp; omega))); repeat (first | exact Below.refl _ _ | assumption | refine Below.setCell ?_ (by first | (simp; done) | (have := (Below.refl 0 w).size; simp; omega)) _ | refine Below.alloc ?_ (by first | (simp; done) | (have := (Below.refl 0 w).size; simp; omega)) _ | refine Below.drew ?_)); clear hb1))
  go_ret
  exact ⟨rfl, B1⟩
theorem stands_law (seen at8 how : Int) (v : Value) (w : World) (hv : IntArg .u8 w v) (b1 : 0 ≤ seen ∧ seen ≤ 65535) (b2 : 0 ≤ at8 ∧ at8 ≤ 255) (b3 : 0 ≤ how ∧ how ≤ 255) : Calls Try.prog 6 #[v, .int .u16 seen, .int .u8 at8, .int .u8 how] w fun e w' => e = .returned (.bool true) ∧ Below w.heap.size w w' := by
  rcases hv with ⟨a, cap, rfl⟩ | ⟨b, off, len, cap, Z, rfl, h0, h1, h2, h3, h4⟩
  · exact stands_empty seen at8 how a cap w
  · by_cases h : 16 < len
    · exact stands_over seen at8 how _ len cap w h
    · exact stands_row seen at8 how b off len cap Z w b1.1 b1.2 b2.1 b2.2 b3.1 b3.2 h0 (by omega) h2 h3 h4
end Go.Proofs.Ytabhnhodhbpmmaa
