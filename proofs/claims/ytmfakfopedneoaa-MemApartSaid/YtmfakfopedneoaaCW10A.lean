/- chapter 6: sizes, a new memory -/
import Derived.Test.YtmfakfopedneoaaCW9
import Derived.Test.YtmfakfopedneoaaLc
import Derived.Test.YtmfakfopedneoaaChecked
import Derived.KernelRfl

namespace Go.Lev
open Go.RowKit
set_option linter.unusedVariables false
set_option linter.unusedSimpArgs false
set_option maxRecDepth 100000
noncomputable section
theorem runs6 : isTrue (lrun Go.Proofs.Try.prog 4000 3 []) = true := by kernel_rfl
theorem cl_id {a lo hi : Int} (h1 : lo ≤ a) (h2 : a ≤ hi) : xmn (xmx a lo) hi = a := by simp only [wd_mn, wd_mx]; split <;> split <;> omega
theorem rep_w (n : Nat) : xrep n [.int .u64 0] = zW n := encL_rep (f := cI .u64) (0 : Int) n
theorem rep_l (n : Nat) : xrep n [.int .u64 0, .bool false, .int .i64 0] = zL n := encL_rep (f := cL) ((0 : Int), false, (0 : Int)) n
theorem zW_len (n : Nat) : (zW n).length = n * 1 := by rw [zW, encIu64_len]; simp
theorem zL_len (n : Nat) : (zL n).length = n * 3 := by rw [zL, lk_n]; simp
theorem noids_zW (n : Nat) : noIds (zW n) = true := noIds_Iu64 _
theorem noids_zL (n : Nat) : noIds (zL n) = true := noids_l _
/-- A memory that is new: so many words, locks, slots. -/
def mz (a b d : Nat) (s : Int) : MS := ⟨List.replicate a 0, List.replicate b (0, false, 0), s, List.replicate d 0, 0⟩
theorem okR_enc {xs : List OpR} {n : Nat} (h : xs.length = n) (hn : n ≤ 9223372036854775807) : okR (encL opL xs) n = true := okR_iff.2 ⟨xs, rfl, h, hn⟩
theorem iW_x (raw : Bool) (n : Nat) (ax : List LV) (M : MS) : iW raw n ax (encL (cI .u64) M.W) (encL cL M.L) (encL (cI .u64) M.S) M.N M.C = encL (cI .u64) (runM raw (decOps ax) M (min n 60)).W := by simp only [iW, decM_enc]
theorem iL_x (raw : Bool) (n : Nat) (ax : List LV) (M : MS) : iL raw n ax (encL (cI .u64) M.W) (encL cL M.L) (encL (cI .u64) M.S) M.N M.C = encL cL (runM raw (decOps ax) M (min n 60)).L := by simp only [iL, decM_enc]
theorem iS_x (raw : Bool) (n : Nat) (ax : List LV) (M : MS) : iS raw n ax (encL (cI .u64) M.W) (encL cL M.L) (encL (cI .u64) M.S) M.N M.C = encL (cI .u64) (runM raw (decOps ax) M (min n 60)).S := by simp only [iS, decM_enc]
theorem iN_x (raw : Bool) (n : Nat) (ax : List LV) (M : MS) : iN raw n ax (encL (cI .u64) M.W) (encL cL M.L) (encL (cI .u64) M.S) M.N M.C = (runM raw (decOps ax) M (min n 60)).N := by simp only [iN, decM_enc]
theorem iC_x (raw : Bool) (n : Nat) (ax : List LV) (M : MS) : iC raw n ax (encL (cI .u64) M.W) (encL cL M.L) (encL (cI .u64) M.S) M.N M.C = (runM raw (decOps ax) M (min n 60)).C := by simp only [iC, decM_enc]
structure Sized (a b d : Nat) (m : MS) : Prop where
  w : m.W.length = a
  l : m.L.length = b
  s : m.S.length = d
theorem Sized.run {a b d : Nat} {m : MS} (h : Sized a b d m) (raw : Bool) (ops : Nat → OpR) (k : Nat) : Sized a b d (runM raw ops m k) := by
  obtain ⟨h1, h2, h3⟩ := runM_len raw ops m k
  exact ⟨h1.trans h.w, h2.trans h.l, h3.trans h.s⟩
theorem Sized.mz (a b d : Nat) (s : Int) : Sized a b d (mz a b d s) := ⟨by simp [Go.Lev.mz], by simp [Go.Lev.mz], by simp [Go.Lev.mz]⟩
theorem Sized.oks {a b d : Nat} {m : MS} (h : Sized a b d m) (ha : a ≤ 1000000) (hb : b ≤ 1000000) (hd : d ≤ 1000000) : okIu64 (encL (cI .u64) m.W) a = true ∧ okL (encL cL m.L) b = true ∧ okIu64 (encL (cI .u64) m.S) d = true :=
  ⟨okIu64_iff.2 ⟨_, rfl, h.w, by omega⟩, okL_iff.2 ⟨_, rfl, h.l, hb⟩, okIu64_iff.2 ⟨_, rfl, h.s, by omega⟩⟩
end
end Go.Lev
