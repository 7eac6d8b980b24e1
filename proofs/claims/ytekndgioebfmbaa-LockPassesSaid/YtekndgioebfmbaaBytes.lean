

import Derived.Test.YtekndgioebfmbaaLockB
import Derived.Handy
namespace Go.Proofs.Ytekndgioebfmbaa
open Go.ChangeShapes Go.WideShapes Go.ChangeAt Go.RowKit
open Go.ChangeMaps (open_string shut_string)
set_option linter.unusedVariables false
theorem isB_own {v : Int} {h : Bool} {o : Int} (hk : isB v h o = true) : h = false ∨ mh o = true := by
  cases h
  · exact .inl rfl
  · simp only [isB, if_true, Bool.and_eq_true] at hk
    exact .inr hk.2
def hB (h : Bool) (o : Int) : Int := if h then o + 1 else 0
theorem holder_any (v : Int) (h : Bool) (o : Int) (w : World) (ho : h = false ∨ mh o = true) : Calls Try.prog 23 #[lk v h o] w fun e w' => e = .returned (.int .u8 (hB h o)) ∧ w' = w.alloc (.cells #[.int .u64 v, .bool h, .int .i64 o] 24) := by
  rcases ho with rfl | ho
  · go_enter Try.func23, Try.ntmps23
    go_wp2
    go_ret
    exact ⟨rfl, rfl⟩
  · simp only [mh, Bool.and_eq_true, decide_eq_true_eq] at ho
    obtain ⟨h1, h2⟩ := ho
    cases h
    · go_enter Try.func23, Try.ntmps23
      go_wp2
      go_ret
      exact ⟨rfl, rfl⟩
    · go_enter Try.func23, Try.ntmps23
      go_wp2
      go_ret
      exact ⟨rfl, rfl⟩

/-- One element is appended to a row of the call's own: the new row, and what was there below B. -/
theorem wpList_push {P : Program} (wr : World) {ops : Array Oper} {rest : List Oper} {o : Oper} {a : Act} {Q : Exit → Act → World → Prop} (hgd : o.guard = none) (s x : Operand) (t : TypeId)
    (ho : o.op = .call { callee := .builtin .append, args := #[s, x], argTypes := #[t, t] })
    (base : Nat) (e : TypeId) (i : TypeInfo) (z : Value) (bytes : Nat) (ht : P.underlying t = some (.slice e)) (hi : P.info? e = some i) (hz : i.zero = some z)
    (hsize : i.size = 1) (hby : i.bytes = bytes) (hzs : z.cells.size = 1)
    (v : Value) (n : Nat) (xs : List Value) (hs : a.eval s = v) (hown : wr.ownsRow base e 1 v n xs)
    (u : Value) (hx : a.eval x = .slice (some ⟨wr.heap.size, 0, none⟩) 1 1) (hu : u.oneCell' = true)
    (h63 : n + 1 ≤ maxLen) (hbytes : (n + 1) * bytes ≤ 140737488355328) (hbase : base ≤ wr.heap.size) (B : Nat) (a0 : World) (hbel : Below B a0 wr) (hB : B ≤ base)
    (h : ∀ v' w', w'.ownsRow base e 1 v' (n + 1) (xs ++ [u]) → Below B a0 w' → wpList P ops Q rest (a.put o.dst v') w') : wpList P ops Q (o :: rest) a (wr.alloc (.cells #[u] e)) := by
  refine wpList_append_own _ hgd s x t ho base e i z 1 bytes ht hi hz hsize hby hzs (by decide) v n xs hs (hown.alloc _) ⟨wr.heap.size, 0, none⟩ 1 1 [u] hx rfl ?_ ?_ h63 hbytes (by simp; omega) ?_
  · intro j y hj
    match j, hj with
    | 0, hj => simp at hj; subst hj; simp [Addr.add]
  · intro y hy; simp at hy; subst hy; exact hu
  · intro v' w' ho' hg _
    refine h v' w' ho' ((hbel.alloc (by omega) _).grown hg (by simp; omega) (fun k hk => ?_))
    have := (hown.lt k hk).1
    omega
/-- The text of bytes that are told as numbers. -/
def bytesOf (ns : List Int) : ByteArray := ns.foldl (fun r n => r.push (UInt8.ofNat n.toNat)) ByteArray.empty
theorem own_string {P : Program} {w : World} {base e src dst : TypeId} {v : Value} {n : Nat} {ns : List Int} (h : w.ownsRow base e 1 v n (ns.map (Value.int .u8))) (hn : 0 < n)
    (hs : P.underlying src = some (.slice e)) (he : P.underlying e = some (.int .u8)) (hd : P.underlying dst = some .string) :
    (convert src dst v).run P w = .ok (.string (bytesOf ns)) w := by
  have hl := h.1
  rcases h.2 with ⟨rfl, h0⟩ | ⟨g, cap, cur, rfl, hb, hg, hnc, hcm, hcs, htake⟩
  · omega
  · rw [run_convert_bytes_string w src dst e _ _ _ hs he hd]
    refine run_bytesToString w _ n cap ns ?_
    have := run_firstCells_some (P := P) w 1 n ⟨g, 0, none⟩ n cap (ns.map (Value.int .u8)) (by simpa using hl) (h.cells (g := g) rfl)
    simp [Builtin.firstCells] at this
    simpa using this

theorem info5 : (Try.prog.info? 5).map (fun i => (i.zero, i.size, i.bytes)) = some (some (.int .u8 0), 1, 1) := by kernel_rfl
def bsI (v : Int) : List Int := [v / 72057594037927936 % 256, v / 281474976710656 % 256, v / 1099511627776 % 256, v / 4294967296 % 256, v / 16777216 % 256, v / 65536 % 256, v / 256 % 256, v % 256]
def bsL (v : Int) (k : Nat) : List Value := ((bsI v).take k).map (Value.int .u8)
def B8 (w : World) (v : Int) (h : Bool) (o : Int) : World := (w.alloc (.cells #[.int .u64 v, .bool h, .int .i64 o] 24))

set_option maxHeartbeats 1000000 in
theorem bytes_yes (v : Int) (h : Bool) (o : Int) (w : World) (hk : isB v h o = true) (hv : 0 ≤ v) : Calls Try.prog 11 #[lk v h o] w fun e w' => e = .returned (.string (bytesOf (bsI v ++ [hB h o]))) ∧ Below w.heap.size w w' := by
  have hmk : ∀ w : World, (Instr.makeSlice 39 (.int .i64 0) (.int .i64 9)).run Try.prog w = .ok (.slice (some ⟨w.heap.size, 0, none⟩) 0 9) (w.alloc (.cells #[.int .u8 0, .int .u8 0, .int .u8 0, .int .u8 0, .int .u8 0, .int .u8 0, .int .u8 0, .int .u8 0, .int .u8 0] 5)) := fun _ => by kernel_rfl
  obtain ⟨i, hi, hz0, hz1, hz2⟩ := info_parts info5
  have hbase : Below (w.heap.size + 1) (B8 w v h o) (B8 w v h o) := Below.refl _ _
  go_enter Try.func11, Try.ntmps11
  go_wp2_with (first | (go_at_call 13; refine (is_any _ _ _ _).mono ?_; rintro e w' ⟨rfl, rfl⟩) )
  go_loopw [3, 4] (fun u3 u4 wr => ∃ (k : Nat) (s : Int), k ≤ 8 ∧ Hid (s = 56 - 8 * (k:Int)) ∧ u4 = .int .i64 s ∧ wr.ownsRow (w.heap.size + 1) 5 1 u3 k (bsL v k) ∧ Below (w.heap.size + 1) (B8 w v h o) wr) (fun _ i _ => (8 + intOf i).toNat)
  case atStart =>
    refine ⟨0, 56, by omega, rfl, rfl, ?_, ?_⟩
    · have := World.ownsRow_made (base := w.heap.size + 1) (e := 5) (size := 1) ((w.alloc (.cells #[.int .u64 v, .bool h, .int .i64 o] 24)).alloc (.cells #[.int .u64 v, .bool h, .int .i64 o] 24)) #[.int .u8 0, .int .u8 0, .int .u8 0, .int .u8 0, .int .u8 0, .int .u8 0, .int .u8 0, .int .u8 0, .int .u8 0] 9 (by simp) (by decide) (by simp)
      simpa [bsL] using this
    · exact ((Below.refl _ _).alloc (by simp [B8]) _).alloc (by simp [B8]) _
  case round =>
    obtain ⟨k, s, hk8, hs, rfl, hown, hbel⟩ := hrel
    have hsz := hbel.size
    have c0 : wr.cell? ⟨w.heap.size, 0, none⟩ = some (.int .u64 v) := (hbel.cell (by simp)).trans (by simp [B8])
    have c1 : wr.cell? ⟨w.heap.size, 1, none⟩ = some (.bool h) := (hbel.cell (by simp)).trans (by simp [B8])
    have c2 : wr.cell? ⟨w.heap.size, 2, none⟩ = some (.int .i64 o) := (hbel.cell (by simp)).trans (by simp [B8])
    simp [B8] at hsz
    rcases (by omega : k = 0 ∨ k = 1 ∨ k = 2 ∨ k = 3 ∨ k = 4 ∨ k = 5 ∨ k = 6 ∨ k = 7 ∨ k = 8) with rfl | rfl | rfl | rfl | rfl | rfl | rfl | rfl | rfl
    · obtain rfl : s = 56 := by have := hs.out; omega
      clear hs
      go_wp2_with (at_builtin; refine wpList_push _ rfl _ _ 39 rfl (w.heap.size + 1) 5 i (.int .u8 0) 1 Try.underlying39 hi hz0 hz1 hz2 rfl _ _ _ rfl hown _ (by first | rfl | (simp [go_sem]; done)) rfl (by unfold maxLen; omega) (by omega) (by omega) _ _ hbel (by omega) ?_; intro v' w1 hown' hbel')
      clear hown hbel c0 c1 c2 hsz
      go_wp2
      go_roundw
      case rel => exact ⟨1, 48, by omega, (by decide : (_ : Int) = _), by first | rfl | go_num, by simpa [bsL, bsI] using hown', hbel'⟩
      case measure => simp [intOf]
    · obtain rfl : s = 48 := by have := hs.out; omega
      clear hs
      go_wp2_with (at_builtin; refine wpList_push _ rfl _ _ 39 rfl (w.heap.size + 1) 5 i (.int .u8 0) 1 Try.underlying39 hi hz0 hz1 hz2 rfl _ _ _ rfl hown _ (by first | rfl | (simp [go_sem]; done)) rfl (by unfold maxLen; omega) (by omega) (by omega) _ _ hbel (by omega) ?_; intro v' w1 hown' hbel')
      clear hown hbel c0 c1 c2 hsz
      go_wp2
      go_roundw
      case rel => exact ⟨2, 40, by omega, (by decide : (_ : Int) = _), by first | rfl | go_num, by simpa [bsL, bsI] using hown', hbel'⟩
      case measure => simp [intOf]
    · obtain rfl : s = 40 := by have := hs.out; omega
      clear hs
      go_wp2_with (at_builtin; refine wpList_push _ rfl _ _ 39 rfl (w.heap.size + 1) 5 i (.int .u8 0) 1 Try.underlying39 hi hz0 hz1 hz2 rfl _ _ _ rfl hown _ (by first | rfl | (simp [go_sem]; done)) rfl (by unfold maxLen; omega) (by omega) (by omega) _ _ hbel (by omega) ?_; intro v' w1 hown' hbel')
      clear hown hbel c0 c1 c2 hsz
      go_wp2
      go_roundw
      case rel => exact ⟨3, 32, by omega, (by decide : (_ : Int) = _), by first | rfl | go_num, by simpa [bsL, bsI] using hown', hbel'⟩
      case measure => simp [intOf]
    · obtain rfl : s = 32 := by have := hs.out; omega
      clear hs
      go_wp2_with (at_builtin; refine wpList_push _ rfl _ _ 39 rfl (w.heap.size + 1) 5 i (.int .u8 0) 1 Try.underlying39 hi hz0 hz1 hz2 rfl _ _ _ rfl hown _ (by first | rfl | (simp [go_sem]; done)) rfl (by unfold maxLen; omega) (by omega) (by omega) _ _ hbel (by omega) ?_; intro v' w1 hown' hbel')
      clear hown hbel c0 c1 c2 hsz
      go_wp2
      go_roundw
      case rel => exact ⟨4, 24, by omega, (by decide : (_ : Int) = _), by first | rfl | go_num, by simpa [bsL, bsI] using hown', hbel'⟩
      case measure => simp [intOf]
    · obtain rfl : s = 24 := by have := hs.out; omega
      clear hs
      go_wp2_with (at_builtin; refine wpList_push _ rfl _ _ 39 rfl (w.heap.size + 1) 5 i (.int .u8 0) 1 Try.underlying39 hi hz0 hz1 hz2 rfl _ _ _ rfl hown _ (by first | rfl | (simp [go_sem]; done)) rfl (by unfold maxLen; omega) (by omega) (by omega) _ _ hbel (by omega) ?_; intro v' w1 hown' hbel')
      clear hown hbel c0 c1 c2 hsz
      go_wp2
      go_roundw
      case rel => exact ⟨5, 16, by omega, (by decide : (_ : Int) = _), by first | rfl | go_num, by simpa [bsL, bsI] using hown', hbel'⟩
      case measure => simp [intOf]
    · obtain rfl : s = 16 := by have := hs.out; omega
      clear hs
      go_wp2_with (at_builtin; refine wpList_push _ rfl _ _ 39 rfl (w.heap.size + 1) 5 i (.int .u8 0) 1 Try.underlying39 hi hz0 hz1 hz2 rfl _ _ _ rfl hown _ (by first | rfl | (simp [go_sem]; done)) rfl (by unfold maxLen; omega) (by omega) (by omega) _ _ hbel (by omega) ?_; intro v' w1 hown' hbel')
      clear hown hbel c0 c1 c2 hsz
      go_wp2
      go_roundw
      case rel => exact ⟨6, 8, by omega, (by decide : (_ : Int) = _), by first | rfl | go_num, by simpa [bsL, bsI] using hown', hbel'⟩
      case measure => simp [intOf]
    · obtain rfl : s = 8 := by have := hs.out; omega
      clear hs
      go_wp2_with (at_builtin; refine wpList_push _ rfl _ _ 39 rfl (w.heap.size + 1) 5 i (.int .u8 0) 1 Try.underlying39 hi hz0 hz1 hz2 rfl _ _ _ rfl hown _ (by first | rfl | (simp [go_sem]; done)) rfl (by unfold maxLen; omega) (by omega) (by omega) _ _ hbel (by omega) ?_; intro v' w1 hown' hbel')
      clear hown hbel c0 c1 c2 hsz
      go_wp2
      go_roundw
      case rel => exact ⟨7, 0, by omega, (by decide : (_ : Int) = _), by first | rfl | go_num, by simpa [bsL, bsI] using hown', hbel'⟩
      case measure => simp [intOf]
    · obtain rfl : s = 0 := by have := hs.out; omega
      clear hs
      go_wp2_with (at_builtin; refine wpList_push _ rfl _ _ 39 rfl (w.heap.size + 1) 5 i (.int .u8 0) 1 Try.underlying39 hi hz0 hz1 hz2 rfl _ _ _ rfl hown _ (by first | rfl | (simp [go_sem]; done)) rfl (by unfold maxLen; omega) (by omega) (by omega) _ _ hbel (by omega) ?_; intro v' w1 hown' hbel')
      clear hown hbel c0 c1 c2 hsz
      go_wp2
      go_roundw
      case rel => exact ⟨8, -8, by omega, (by decide : (_ : Int) = _), by first | rfl | go_num, by simpa [bsL, bsI] using hown', hbel'⟩
      case measure => simp [intOf]
    · obtain rfl : s = -8 := by have := hs.out; omega
      clear hs
      have hh : Calls Try.prog 23 #[lk v h o] wr fun e w' => e = .returned (.int .u8 (hB h o)) ∧ w' = wr.alloc (.cells #[.int .u64 v, .bool h, .int .i64 o] 24) := holder_any v h o wr (isB_own hk)
      go_wp2_with (first | (go_at_call 23; refine hh.mono ?_; rintro e w' ⟨rfl, rfl⟩) | (at_builtin; refine wpList_push _ rfl _ _ 39 rfl (w.heap.size + 1) 5 i (.int .u8 0) 1 Try.underlying39 hi hz0 hz1 hz2 rfl _ _ _ rfl (hown.alloc _) _ (by first | rfl | (simp [go_sem]; done)) rfl (by unfold maxLen; omega) (by omega) (by simp; omega) _ _ (hbel.alloc (by omega) _) (by omega) ?_; intro v' w1 hown' hbel'; have hcv := own_string (P := Try.prog) (src := 39) (dst := 9) (ns := bsI v ++ [hB h o]) (by simpa [bsL, bsI] using hown') (by decide) Try.underlying39 Try.underlying5 Try.underlying9))
      go_ret
      exact ⟨rfl, (((Below.refl _ _).alloc (Nat.le_refl _) _).trans (hbel'.mono (by omega)))⟩

def strB (v : Int) (h : Bool) (o : Int) : ByteArray := if isB v h o then bytesOf (bsI v ++ [hB h o]) else ⟨#[]⟩
theorem bytes_any (v : Int) (h : Bool) (o : Int) (w : World) (hv : 0 ≤ v) : Calls Try.prog 11 #[lk v h o] w fun e w' => e = .returned (.string (strB v h o)) ∧ Below w.heap.size w w' := by
  cases hk : isB v h o
  · have hfin : strB v h o = ⟨#[]⟩ := by simp [strB, hk]
    rw [hfin]
    clear hfin
    go_enter Try.func11, Try.ntmps11
    go_wp2_with (first | (go_at_call 13; refine (is_any _ _ _ _).mono ?_; rintro e w' ⟨rfl, rfl⟩))
    go_ret
    refine ⟨rfl, ?_⟩
    repeat (first | exact Below.refl _ _ | refine Below.setCell ?_ (by first | (simp; done) | (simp; omega)) _ | refine Below.alloc ?_ (by first | (simp; done) | (simp; omega)) _ | refine Below.drew ?_ | (refine Below.trans ?_ (Below.mono (by assumption) ?_); rotate_left; (first | (simp; done) | (simp; omega) | (simp [*]; omega))))
  · have hfin : strB v h o = bytesOf (bsI v ++ [hB h o]) := by simp [strB, hk]
    rw [hfin]
    exact bytes_yes v h o w hk hv

def BK (v : Int) : Nat → Array Value
  | 0 => #[.int .u8 0, .int .u8 0, .int .u8 0, .int .u8 0, .int .u8 0, .int .u8 0, .int .u8 0, .int .u8 0, .int .u8 0]
  | 1 => #[.int .u8 (v / 72057594037927936 % 256), .int .u8 0, .int .u8 0, .int .u8 0, .int .u8 0, .int .u8 0, .int .u8 0, .int .u8 0, .int .u8 0]
  | 2 => #[.int .u8 (v / 72057594037927936 % 256), .int .u8 (v / 281474976710656 % 256), .int .u8 0, .int .u8 0, .int .u8 0, .int .u8 0, .int .u8 0, .int .u8 0, .int .u8 0]
  | 3 => #[.int .u8 (v / 72057594037927936 % 256), .int .u8 (v / 281474976710656 % 256), .int .u8 (v / 1099511627776 % 256), .int .u8 0, .int .u8 0, .int .u8 0, .int .u8 0, .int .u8 0, .int .u8 0]
  | 4 => #[.int .u8 (v / 72057594037927936 % 256), .int .u8 (v / 281474976710656 % 256), .int .u8 (v / 1099511627776 % 256), .int .u8 (v / 4294967296 % 256), .int .u8 0, .int .u8 0, .int .u8 0, .int .u8 0, .int .u8 0]
  | 5 => #[.int .u8 (v / 72057594037927936 % 256), .int .u8 (v / 281474976710656 % 256), .int .u8 (v / 1099511627776 % 256), .int .u8 (v / 4294967296 % 256), .int .u8 (v / 16777216 % 256), .int .u8 0, .int .u8 0, .int .u8 0, .int .u8 0]
  | 6 => #[.int .u8 (v / 72057594037927936 % 256), .int .u8 (v / 281474976710656 % 256), .int .u8 (v / 1099511627776 % 256), .int .u8 (v / 4294967296 % 256), .int .u8 (v / 16777216 % 256), .int .u8 (v / 65536 % 256), .int .u8 0, .int .u8 0, .int .u8 0]
  | 7 => #[.int .u8 (v / 72057594037927936 % 256), .int .u8 (v / 281474976710656 % 256), .int .u8 (v / 1099511627776 % 256), .int .u8 (v / 4294967296 % 256), .int .u8 (v / 16777216 % 256), .int .u8 (v / 65536 % 256), .int .u8 (v / 256 % 256), .int .u8 0, .int .u8 0]
  | _ => #[.int .u8 (v / 72057594037927936 % 256), .int .u8 (v / 281474976710656 % 256), .int .u8 (v / 1099511627776 % 256), .int .u8 (v / 4294967296 % 256), .int .u8 (v / 16777216 % 256), .int .u8 (v / 65536 % 256), .int .u8 (v / 256 % 256), .int .u8 (v % 256), .int .u8 0]

set_option maxRecDepth 100000 in
set_option maxHeartbeats 2000000 in
theorem refbytes_yes (v : Int) (h : Bool) (o : Int) (w : World) (hk : isB v h o = true) (hv : 0 ≤ v) : Calls Try.prog 21 #[lk v h o] w fun e w' => e = .returned (.string (bytesOf (bsI v ++ [hB h o]))) ∧ Below w.heap.size w w' := by
  have hmk : ∀ w : World, (Instr.makeSlice 39 (.int .i64 9) (.int .i64 9)).run Try.prog w = .ok (.slice (some ⟨w.heap.size, 0, none⟩) 9 9) (w.alloc (.cells #[.int .u8 0, .int .u8 0, .int .u8 0, .int .u8 0, .int .u8 0, .int .u8 0, .int .u8 0, .int .u8 0, .int .u8 0] 5)) := fun _ => by kernel_rfl
  have ho := isB_own hk
  have HO := Lib.hid ho; clear ho
  go_enter Try.func21, Try.ntmps21
  go_wp2_with (first | (go_at_call 19; refine (refis_any _ _ _ _).mono ?_; rintro e w' ⟨rfl, rfl⟩))
  go_loopw [4] (fun u wr => ∃ k : Nat, k ≤ 8 ∧ u = .int .i64 k ∧ wr = ((w.alloc (.cells #[.int .u64 v, .bool h, .int .i64 o] 24)).alloc (.cells #[.int .u64 v, .bool h, .int .i64 o] 24)).alloc (.cells (BK v k) 5)) (fun i _ => (8 - intOf i).toNat)
  case atStart => exact ⟨0, by omega, rfl, rfl⟩
  case round =>
    obtain ⟨k, hk8, rfl, rfl⟩ := hrel
    rcases (by omega : k = 0 ∨ k = 1 ∨ k = 2 ∨ k = 3 ∨ k = 4 ∨ k = 5 ∨ k = 6 ∨ k = 7 ∨ k = 8) with rfl | rfl | rfl | rfl | rfl | rfl | rfl | rfl | rfl
    · simp only [BK]
      go_wp2
      go_roundw
      case rel => exact ⟨1, by omega, by first | rfl | go_num, rfl⟩
      case measure => simp [intOf]
    · simp only [BK]
      go_wp2
      go_roundw
      case rel => exact ⟨2, by omega, by first | rfl | go_num, rfl⟩
      case measure => simp [intOf]
    · simp only [BK]
      go_wp2
      go_roundw
      case rel => exact ⟨3, by omega, by first | rfl | go_num, rfl⟩
      case measure => simp [intOf]
    · simp only [BK]
      go_wp2
      go_roundw
      case rel => exact ⟨4, by omega, by first | rfl | go_num, rfl⟩
      case measure => simp [intOf]
    · simp only [BK]
      go_wp2
      go_roundw
      case rel => exact ⟨5, by omega, by first | rfl | go_num, rfl⟩
      case measure => simp [intOf]
    · simp only [BK]
      go_wp2
      go_roundw
      case rel => exact ⟨6, by omega, by first | rfl | go_num, rfl⟩
      case measure => simp [intOf]
    · simp only [BK]
      go_wp2
      go_roundw
      case rel => exact ⟨7, by omega, by first | rfl | go_num, rfl⟩
      case measure => simp [intOf]
    · simp only [BK]
      go_wp2
      go_roundw
      case rel => exact ⟨8, by omega, by first | rfl | go_num, rfl⟩
      case measure => simp [intOf]
    · simp only [BK]
      cases h
      · have hh : hB false o = 0 := rfl
        have HH := Lib.hid hh; clear hh
        have hcv := own_string (P := Try.prog) (src := 39) (dst := 9) (ns := bsI v ++ [0]) (World.ownsRow_lit (base := 0) (e := 5) (size := 1) ((w.alloc (.cells #[.int .u64 v, .bool false, .int .i64 o] 24)).alloc (.cells #[.int .u64 v, .bool false, .int .i64 o] 24)) #[.int .u8 (v / 72057594037927936 % 256), .int .u8 (v / 281474976710656 % 256), .int .u8 (v / 1099511627776 % 256), .int .u8 (v / 4294967296 % 256), .int .u8 (v / 16777216 % 256), .int .u8 (v / 65536 % 256), .int .u8 (v / 256 % 256), .int .u8 (v % 256), .int .u8 0] 9 (by simp) (by decide) (by simp)) (by decide) Try.underlying39 Try.underlying5 Try.underlying9
        simp at hcv
        go_wp2
        go_ret
        refine ⟨by rw [HH.out]; rfl, ?_⟩
        repeat (first | exact Below.refl _ _ | refine Below.setCell ?_ (by first | (simp; done) | (simp; omega)) _ | refine Below.alloc ?_ (by first | (simp; done) | (simp; omega)) _ | refine Below.drew ?_ | (refine Below.trans ?_ (Below.mono (by assumption) ?_); rotate_left; (first | (simp; done) | (simp; omega) | (simp [*]; omega))))
      · have hh : hB true o = o + 1 := rfl
        have HH := Lib.hid hh; clear hh
        have hm := HO.out
        simp [mh] at hm
        obtain ⟨m1, m2⟩ := hm
        have hcv := own_string (P := Try.prog) (src := 39) (dst := 9) (ns := bsI v ++ [o + 1]) (World.ownsRow_lit (base := 0) (e := 5) (size := 1) ((w.alloc (.cells #[.int .u64 v, .bool true, .int .i64 o] 24)).alloc (.cells #[.int .u64 v, .bool true, .int .i64 o] 24)) #[.int .u8 (v / 72057594037927936 % 256), .int .u8 (v / 281474976710656 % 256), .int .u8 (v / 1099511627776 % 256), .int .u8 (v / 4294967296 % 256), .int .u8 (v / 16777216 % 256), .int .u8 (v / 65536 % 256), .int .u8 (v / 256 % 256), .int .u8 (v % 256), .int .u8 (o + 1)] 9 (by simp) (by decide) (by simp)) (by decide) Try.underlying39 Try.underlying5 Try.underlying9
        simp at hcv
        go_wp2
        go_ret
        refine ⟨by rw [HH.out]; rfl, ?_⟩
        repeat (first | exact Below.refl _ _ | refine Below.setCell ?_ (by first | (simp; done) | (simp; omega)) _ | refine Below.alloc ?_ (by first | (simp; done) | (simp; omega)) _ | refine Below.drew ?_ | (refine Below.trans ?_ (Below.mono (by assumption) ?_); rotate_left; (first | (simp; done) | (simp; omega) | (simp [*]; omega))))

theorem refbytes_any (v : Int) (h : Bool) (o : Int) (w : World) (hv : 0 ≤ v) : Calls Try.prog 21 #[lk v h o] w fun e w' => e = .returned (.string (strB v h o)) ∧ Below w.heap.size w w' := by
  cases hk : isB v h o
  · have hfin : strB v h o = ⟨#[]⟩ := by simp [strB, hk]
    rw [hfin]
    clear hfin
    go_enter Try.func21, Try.ntmps21
    go_wp2_with (first | (go_at_call 19; refine (refis_any _ _ _ _).mono ?_; rintro e w' ⟨rfl, rfl⟩))
    go_ret
    refine ⟨rfl, ?_⟩
    repeat (first | exact Below.refl _ _ | refine Below.setCell ?_ (by first | (simp; done) | (simp; omega)) _ | refine Below.alloc ?_ (by first | (simp; done) | (simp; omega)) _ | refine Below.drew ?_ | (refine Below.trans ?_ (Below.mono (by assumption) ?_); rotate_left; (first | (simp; done) | (simp; omega) | (simp [*]; omega))))
  · have hfin : strB v h o = bytesOf (bsI v ++ [hB h o]) := by simp [strB, hk]
    rw [hfin]
    exact refbytes_yes v h o w hk hv
end Go.Proofs.Ytekndgioebfmbaa
