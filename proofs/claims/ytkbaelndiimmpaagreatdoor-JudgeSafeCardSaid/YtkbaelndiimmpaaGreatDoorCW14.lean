/- JudgeSafe (P30.2): for any heap near a parted one and any operation the law returns true; what was there stays as it was. Condition: the listed package-level variables hold what the program's text lays. -/
import Derived.Test.YtkbaelndiimmpaaGreatDoorCW13
import Derived.Test.YtkbaelndiimmpaaGreatDoorLc
import Derived.Test.YtkbaelndiimmpaaGreatDoorChecked
import Derived.KernelRfl

import Derived.Test.YtkbaelndiimmpaaGreatDoorLc
import Derived.Test.YtkbaelndiimmpaaGreatDoorLc
import Derived.Test.YtkbaelndiimmpaaGreatDoorRows
namespace Go.Lev
open Go.RowKit
open Go.Proofs.Tryz (prog)
set_option linter.unusedVariables false
set_option linter.unusedSimpArgs false
set_option maxRecDepth 100000
noncomputable section
theorem runs30 : isTrue (lrun prog 20000 5 gtab) = true := by kernel_rfl
theorem runGt_ok : GOk prog 5 runGt := by
  intro args s bs l s' hg hb hfr
  unfold runGt at hg
  split at hg
  · rename_i g0 F0 hgl
    cases hc : (Nat.beq g0 0 && eqbs F0 formsL) with
    | false => rw [hc] at hg; cases hg
    | true =>
      rw [hc] at hg
      simp only [cond_true, Option.some.injEq, Prod.mk.injEq] at hg
      obtain ⟨rfl, rfl, rfl⟩ := hg
      simp only [Bool.and_eq_true] at hc
      obtain ⟨c1, c2⟩ := hc
      have e : s.g = gtab := by rw [hgl, Nat.eq_of_beq_eq_true c1, eqbs_eq c2]; rfl
      refine SFun.closed (fuel := 20000) hfr ?_
      rw [e]; exact runs30
  · cases hg
theorem cxj_ok : CtrOk prog (ctrOf cxj) := cxl_ok ⟨runGt_ok, wrapG_ok wdsG_ok, wrapG_ok withinG_ok, wrapG_ok sfG_ok, wrapG_ok osfG_ok, trivial⟩
theorem wr_u (x : Int) : 0 ≤ xwr .u64 x ∧ xwr .u64 x ≤ 18446744073709551615 := by
  show 0 ≤ lwrap .u64 x ∧ lwrap .u64 x ≤ 18446744073709551615
  rw [lwrap_eq, show IntKind.u64.wrap x = x % 18446744073709551616 by simp [IntKind.wrap, IntKind.bits, IntKind.signed]]
  omega
theorem remNj (x y : Nat) (hx : x ≤ 1000) (hy : 0 < y) (hy2 : y ≤ 1000) : xar .rem .i64 (x : Int) (y : Int) = ((x % y : Nat) : Int) := by
  rw [xar_rem _ _ _ (by omega), Int.tmod_eq_emod_of_nonneg (by omega)]; rfl
theorem safe_fun (n k a w tu v : Int) (x : OX) (bs : List Int) (m : Nat) (em : bs.length = m) (hm : m ≤ 9223372036854775807) (hb : ∀ y ∈ bs, 0 ≤ y ∧ y ≤ 255) (ht : 0 ≤ tu ∧ tu ≤ 255) : SFun prog 3 [.int .i64 n, .slo 0 0 m 0, .agg (opC k a w x), .int .u8 tu, .int .u8 v] (mkS [.ro (encL (cI .u8) bs)] gtab) fun l _ => l = .bool true := by
  subst em
  refine SFun.mono (SFun.pieces (Q := fun l _ => l = .bool true) 60 1 jsL [10] (by kernel_rfl) rfl rfl rfl ?_) fun l s' ⟨b0, h1, _⟩ => h1
  have nb := noIds_Iu8 bs
  have k1 : okB8 (encL (cI .u8) bs) bs.length = true := okB8_iff.2 ⟨bs, rfl, rfl, hm, hb⟩
  have eN : wdN n = wdK n := rfl
  have eC : wdC n (encL (cI .u8) bs) = encL (cI .u64) (wdF (wdK n) bs) := by rw [wdC, decIu8_enc]
  obtain ⟨N1, N2, _⟩ := wdK_b n
  have hL := wdF_len (wdK n) bs
  have hU := inU_wdF (N := wdK n) bs (by omega)
  generalize wdK n = N at *
  generalize wdF N bs = ws at *
  have nw := noIds_Iu64 ws; have lw := encIu64_len ws
  obtain ⟨T, rfl⟩ : ∃ T : Nat, tu = (T : Int) := ⟨tu.toNat, by omega⟩
  have eT : xwr .i64 (T : Int) = (T : Int) := wrap_i64 (by omega) (by omega)
  have eJ := remNj T N (by omega) (by omega) (by omega)
  have hj := Nat.mod_lt T (show 0 < N by omega)
  generalize T % N = j at *
  have hxU : inU (ws.set j (xwr .u64 (xar .rem .u8 v 40))) := inU_set hU (wr_u _)
  have hxL : (ws.set j (xwr .u64 (xar .rem .u8 v 40))).length = N := by rw [List.length_set, hL]
  have sX := us_set (us := ws) (i := j) (xwr .u64 (xar .rem .u8 v 40)) (by omega)
  have cutE : xcut (encL (cI .u64) ws) 0 N = encL (cI .u64) ws := xcut_all (by rw [lw, hL]; omega)
  have nx := noIds_Iu64 (ws.set j (xwr .u64 (xar .rem .u8 v 40)))
  have neN : xcm .neq (N : Int) 0 = true := t_neq (by omega)
  refine SSp.to cxj_ok (n := 60) (g := gtab) 6 6 rfl (σ := {xs : List Int // inU xs ∧ xs.length = N}) (fun _ => jsT N) (fun xs => jsH (encL (cI .u8) bs) (encL (cI .u64) ws) (encL (cI .u64) xs.1) k a w x) (mkS_le (Nat.le_of_ble_eq_true rfl)) (by kernel_rfl) ?_ fun ⟨xs, x1, x2⟩ => ?_
  · rw [js_a]
    simp only [k1, eN, eC, eT, eJ, neN, wd_mul, wd_add, wd_ix, wd_nat, Nat.mul_one, Nat.zero_add, cutE, sX, wd_ln, lw, hL, cond_true]
    (refine zR ?_)
    exact ⟨rfl, ⟨_, hxU, hxL⟩, [.id 0, .id 1, .id 2, .id 3], by (exact zC)⟩
  dsimp only at x1 x2 ⊢
  have nxs := noIds_Iu64 xs
  refine SSp.to cxj_ok (n := 60) (g := gtab) 3 9 rfl (σ := Int × Int) (fun _ => jsT N) (fun q => jsH (encL (cI .u8) bs) (encL (cI .u64) ws) (encL (cI .u64) xs) q.1 q.2 w x) (mkS_le (Nat.le_of_ble_eq_true rfl)) (by kernel_rfl) ?_ fun ⟨k', a'⟩ => ?_
  · rw [js_b]
    cases xcm .gtr (xar .rem .u64 w 8) 0 with
    | true =>
      (refine zR ?_)
      exact ⟨rfl, (_, _), [.id 0, .id 1, .id 2, .id 3], by (exact zC)⟩
    | false =>
      exact ⟨rfl, (_, _), [.id 0, .id 1, .id 2, .id 3], by (exact zC)⟩
  dsimp only
  have o1 : okU (encL (cI .u64) ws) N = true := okU_iff.2 ⟨ws, rfl, hL.symm, by omega, hU⟩
  have o2 : okU (encL (cI .u64) xs) N = true := okU_iff.2 ⟨xs, rfl, x2.symm, by omega, x1⟩
  refine zE cxj_ok ?_
  rw [js_z]
  simp only [o1, o2, bq_self, cmq, cond_true]
  (refine zR ?_)
  exact ⟨trivial, rfl, .bool true, [.ro _], [.id 0], rfl, by (exact zC)⟩
theorem opx_agg {H : Type} {enc : TypeId × Value → H} {W : World} {cs : Array Value} {d : DataW H} {ps : List MemPlace} (h : DataW.Trod enc prog W 0 (fun _ => true) true 27 (.agg cs) d ps) :
    ∃ (k : Int) (a : Int) (o1 : Int) (w : Int) (o2 : Int) (f1 : Bool) (o4 : Int) (o5 : Int) (f2 : Bool) (o6 : Int), cs = #[.int .i64 k, .int .i64 a, .int .u64 o1, .int .u64 w, .int .u64 o2, .bool f1, .int .i64 o4, .int .u64 o5, .bool f2, .int .i64 o6] ∧ (IntKind.i64.min ≤ k ∧ k ≤ IntKind.i64.max) ∧ (IntKind.i64.min ≤ a ∧ a ≤ IntKind.i64.max) ∧ (IntKind.u64.min ≤ o1 ∧ o1 ≤ IntKind.u64.max) ∧ (IntKind.u64.min ≤ w ∧ w ≤ IntKind.u64.max) ∧ (IntKind.u64.min ≤ o2 ∧ o2 ≤ IntKind.u64.max) ∧ (IntKind.i64.min ≤ o4 ∧ o4 ≤ IntKind.i64.max) ∧ (IntKind.u64.min ≤ o5 ∧ o5 ≤ IntKind.u64.max) ∧ (IntKind.i64.min ≤ o6 ∧ o6 ≤ IntKind.i64.max) := by
  obtain ⟨fuel, hf⟩ := h
  obtain ⟨_, _, _, _, hlen, _, _⟩ := DataW.trod_struct Go.Proofs.Tryz.underlying27 hf
  have hl : cs.toList.length = 10 := hlen.trans (by kernel_rfl)
  have hfl := fl_ok 8 (l := [(0, .int .i64), (1, .int .i64), (2, .int .u64), (3, .int .u64), (4, .int .u64), (5, .bool), (6, .int .i64), (7, .int .u64), (8, .bool), (9, .int .i64)]) (by kernel_rfl) hf
  obtain ⟨_, e0, k, rfl, b0⟩ := hfl (0, .int .i64) (by simp)
  obtain ⟨_, e1, a, rfl, b1⟩ := hfl (1, .int .i64) (by simp)
  obtain ⟨_, e2, o1, rfl, b2⟩ := hfl (2, .int .u64) (by simp)
  obtain ⟨_, e3, w, rfl, b3⟩ := hfl (3, .int .u64) (by simp)
  obtain ⟨_, e4, o2, rfl, b4⟩ := hfl (4, .int .u64) (by simp)
  obtain ⟨_, e5, f1, rfl⟩ := hfl (5, .bool) (by simp)
  obtain ⟨_, e6, o4, rfl, b6⟩ := hfl (6, .int .i64) (by simp)
  obtain ⟨_, e7, o5, rfl, b7⟩ := hfl (7, .int .u64) (by simp)
  obtain ⟨_, e8, f2, rfl⟩ := hfl (8, .bool) (by simp)
  obtain ⟨_, e9, o6, rfl, b9⟩ := hfl (9, .int .i64) (by simp)
  refine ⟨k, a, o1, w, o2, f1, o4, o5, f2, o6, ?_, b0, b1, b2, b3, b4, b6, b7, b9⟩
  have hcs : cs.toList = [.int .i64 k, .int .i64 a, .int .u64 o1, .int .u64 w, .int .u64 o2, .bool f1, .int .i64 o4, .int .u64 o5, .bool f2, .int .i64 o6] := by
    refine List.ext_getElem? fun i => ?_
    match i with
    | 0 => exact e0
    | 1 => exact e1
    | 2 => exact e2
    | 3 => exact e3
    | 4 => exact e4
    | 5 => exact e5
    | 6 => exact e6
    | 7 => exact e7
    | 8 => exact e8
    | 9 => exact e9
    | i + 10 => rw [List.getElem?_eq_none (by omega), List.getElem?_eq_none (by simp)]
  cases cs; simpa using hcs
theorem safe_any {H : Type} {enc : TypeId × Value → H} {W : World} {a1 : Option Addr} {len1 cap1 : Nat} {d1 : DataW H} {p1 : List MemPlace} {cs : Array Value} {dd : DataW H} {pp : List MemPlace} (hg : Gl W gtab) (n tu v : Int) (ht : 0 ≤ tu ∧ tu ≤ 255)
    (h1 : DataW.Trod enc prog W 0 (fun _ => true) true 22 (.slice a1 len1 cap1) d1 p1) (hs : DataW.Trod enc prog W 0 (fun _ => true) true 27 (.agg cs) dd pp) :
    Calls prog 3 #[.int .i64 n, .slice a1 len1 cap1, .agg cs, .int .u8 tu, .int .u8 v] W fun e W' => e = .returned (.bool true) ∧ Below W.heap.size W W' := by
  obtain ⟨k, a, o1, w, o2, b1, o4, o5, b2, o6, rfl, _⟩ := opx_agg hs
  obtain ⟨bs, e1, n1, q1, r1⟩ := row_arg (f := cI .u8) (ok := fun y : Int => IntKind.u8.min ≤ y ∧ y ≤ IntKind.u8.max) (cI_len .u8) (by omega) Go.Proofs.Tryz.underlying22 (by kernel_rfl) h1 (el_int Go.Proofs.Tryz.underlying5)
  refine SFun.top (rows := [(.slice a1 len1 cap1, len1, encL (cI .u8) bs)]) (g := gtab) (us := [.int .i64 n, .slice a1 len1 cap1, .agg #[.int .i64 k, .int .i64 a, .int .u64 o1, .int .u64 w, .int .u64 o2, .bool b1, .int .i64 o4, .int .u64 o5, .bool b2, .int .i64 o6], .int .u8 tu, .int .u8 v]) ⟨r1, trivial⟩ hg (fun r h => ?_) (safe_fun n k a w tu v ⟨o1, o2, b1, o4, o5, b2, o6⟩ bs len1 e1 n1 (fun y hy => q1 y hy) ht)
  simp only [VRs, VR]
  exact ⟨_, _, rfl, rfl, _, _, rfl, h 0 _ _ _ rfl, _, _, rfl, ⟨_, rfl, _, _, rfl, rfl, _, _, rfl, rfl, _, _, rfl, rfl, _, _, rfl, rfl, _, _, rfl, rfl, _, _, rfl, rfl, _, _, rfl, rfl, _, _, rfl, rfl, _, _, rfl, rfl, _, _, rfl, rfl, rfl⟩, _, _, rfl, rfl, _, _, rfl, rfl, rfl⟩
end
end Go.Lev
