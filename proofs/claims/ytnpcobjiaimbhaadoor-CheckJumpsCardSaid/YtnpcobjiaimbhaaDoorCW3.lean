/- CheckTells: what a program's check is, in lists; the code's look: trees -/
import Derived.Test.YtnpcobjiaimbhaaDoorCW1
import Derived.Test.YtnpcobjiaimbhaaDoorLc
import Derived.Test.YtnpcobjiaimbhaaDoorChecked
import Derived.KernelRfl

import Derived.Test.YtnpcobjiaimbhaaDoorLc
import Derived.Test.YtnpcobjiaimbhaaDoorLc
import Derived.Test.YtnpcobjiaimbhaaDoorRows
namespace Go.Lev
open Go.RowKit
set_option linter.unusedVariables false
set_option linter.unusedSimpArgs false
set_option maxRecDepth 100000
noncomputable section
/-! rows of integers -/
def decIi64 : List LV → List Int
  | .int _ a :: r => a :: decIi64 r
  | _ => []
theorem decIi64_enc : ∀ xs, decIi64 (encL (cI .i64) xs) = xs
  | [] => rfl
  | x :: r => by simp [encL, cI, decIi64, decIi64_enc r]
def okIi64 (cs : List LV) (n : Nat) : Bool := @decide (cs = encL (cI .i64) (decIi64 cs) ∧ (decIi64 cs).length = n ∧ n ≤ 9223372036854775807) (Classical.propDecidable _)

theorem okIi64_iff {cs : List LV} {n : Nat} : okIi64 cs n = true ↔ ∃ xs, cs = encL (cI .i64) xs ∧ xs.length = n ∧ n ≤ 9223372036854775807 := by
  simp only [okIi64, decide_eq_true_eq]
  exact ⟨fun h => ⟨_, h⟩, fun ⟨xs, h1, h2⟩ => by subst h1; rw [decIi64_enc]; exact ⟨rfl, h2⟩⟩
theorem okIi64_tab {n : Nat} (g : Nat → Int) (h : n ≤ 9223372036854775807) : okIi64 (tab (cI .i64) n g) n = true := okIi64_iff.2 ⟨_, rfl, by simp, h⟩
theorem okIi64_enc {xs : List Int} (h : xs.length ≤ 9223372036854775807) : okIi64 (encL (cI .i64) xs) xs.length = true := okIi64_iff.2 ⟨_, rfl, rfl, h⟩
theorem encIi64_len (xs : List Int) : (encL (cI .i64) xs).length = xs.length := by rw [encL_length (cI_len .i64)]; omega
theorem encIi64_push (xs : List Int) (y : Int) : xcat (xcut (encL (cI .i64) xs) 0 xs.length) [.int .i64 y] = encL (cI .i64) (xs ++ [y]) := by
  rw [xcut_all (by rw [encIi64_len]; omega), encL_append]; rfl
theorem encIi64_nth {xs : List Int} {i : Nat} (h : i < xs.length) : nthD (encL (cI .i64) xs) i = .int .i64 xs[i] := by
  have := encL_nth (cI_len .i64) (j := 0) h (by omega)
  simp only [Nat.mul_one, Nat.add_zero] at this
  exact this
theorem noIds_Ii64 (xs : List Int) : noIds (encL (cI .i64) xs) = true := noIds_encL (fun _ => rfl) xs
theorem xnoid_Ii64 (xs : List Int) : xnoid (encL (cI .i64) xs) = true := xnoid_encL (fun _ => rfl) xs

structure InsR where
  op : Int
  a : Int
  b : Int
  c : Int
  n : Int
abbrev insE (x : InsR) : List LV := [.int .i64 x.op, .int .i64 x.a, .int .i64 x.b, .int .i64 x.c, .int .u64 x.n]
theorem insE_len (x : InsR) : (insE x).length = 5 := rfl
theorem ins_0 {xs : List InsR} {i : Nat} (h : i < xs.length) : nthD (encL insE xs) (i * 5) = .int .i64 xs[i].op := encL_nth insE_len (j := 0) h (by omega)
theorem ins_1 {xs : List InsR} {i : Nat} (h : i < xs.length) : nthD (encL insE xs) (i * 5 + 1) = .int .i64 xs[i].a := encL_nth insE_len (j := 1) h (by omega)
theorem ins_2 {xs : List InsR} {i : Nat} (h : i < xs.length) : nthD (encL insE xs) (i * 5 + 2) = .int .i64 xs[i].b := encL_nth insE_len (j := 2) h (by omega)
theorem ins_3 {xs : List InsR} {i : Nat} (h : i < xs.length) : nthD (encL insE xs) (i * 5 + 3) = .int .i64 xs[i].c := encL_nth insE_len (j := 3) h (by omega)
theorem ins_4 {xs : List InsR} {i : Nat} (h : i < xs.length) : nthD (encL insE xs) (i * 5 + 4) = .int .u64 xs[i].n := encL_nth insE_len (j := 4) h (by omega)
theorem ins_n (xs : List InsR) : (encL insE xs).length = xs.length * 5 := encL_length insE_len xs
theorem ins_noids (xs : List InsR) : noIds (encL insE xs) = true := noIds_encL (fun _ => rfl) xs
def ins_bd (x : InsR) : Prop := (IntKind.i64.min ≤ x.op ∧ x.op ≤ IntKind.i64.max) ∧ (IntKind.i64.min ≤ x.a ∧ x.a ≤ IntKind.i64.max) ∧ (IntKind.i64.min ≤ x.b ∧ x.b ≤ IntKind.i64.max) ∧ (IntKind.i64.min ≤ x.c ∧ x.c ≤ IntKind.i64.max) ∧ (IntKind.u64.min ≤ x.n ∧ x.n ≤ IntKind.u64.max)
theorem ins_row {H : Type} {enc : TypeId × Value → H} {W : World} {a : Option Addr} {len cap : Nat} {d : DataW H} {ps : List MemPlace} (h : DataW.Trod enc Go.Proofs.Tryd.prog W 0 (fun _ => true) true 25 (.slice a len cap) d ps) :
    ∃ xs : List InsR, xs.length = len ∧ len ≤ 9223372036854775807 ∧ (∀ x ∈ xs, ins_bd x) ∧ RowArg W (.slice a len cap) len (encL insE xs) := by
  obtain ⟨xs, q1, q2, q3, q4⟩ := row_arg (f := insE) (ok := ins_bd) insE_len (by omega) Go.Proofs.Tryd.underlying25 (by kernel_rfl) h fun cs n x hl hx => by
    have hf := fl_ok 8 (l := [(0, .int .i64), (1, .int .i64), (2, .int .i64), (3, .int .i64), (4, .int .u64)]) (by kernel_rfl) hx
    obtain ⟨_, e0, z0, rfl, b0⟩ := hf (0, .int .i64) (by simp)
    obtain ⟨_, e1, z1, rfl, b1⟩ := hf (1, .int .i64) (by simp)
    obtain ⟨_, e2, z2, rfl, b2⟩ := hf (2, .int .i64) (by simp)
    obtain ⟨_, e3, z3, rfl, b3⟩ := hf (3, .int .i64) (by simp)
    obtain ⟨_, e4, z4, rfl, b4⟩ := hf (4, .int .u64) (by simp)
    refine ⟨⟨z0, z1, z2, z3, z4⟩, ⟨b0, b1, b2, b3, b4⟩, fun i l hi => ?_⟩
    match i with
    | 0 => simp at hi; subst hi; exact ⟨rfl, _, e0, by simp only [VR]⟩
    | 1 => simp at hi; subst hi; exact ⟨rfl, _, e1, by simp only [VR]⟩
    | 2 => simp at hi; subst hi; exact ⟨rfl, _, e2, by simp only [VR]⟩
    | 3 => simp at hi; subst hi; exact ⟨rfl, _, e3, by simp only [VR]⟩
    | 4 => simp at hi; subst hi; exact ⟨rfl, _, e4, by simp only [VR]⟩
    | i + 5 => simp at hi
  exact ⟨xs, q1, q2, q3, q4⟩
def gtab : Glb := formsG []
abbrev ckPro : Cx := cxl [(25, mayG)]
abbrev lkL : List Nat := [1, 2, 3, 4, 5, 26, 27, 28, 51, 52]
abbrev lkT (n i : Nat) : List (Nat × LV) := [(1, .ptr 1 0), (5, .ptr 2 0), (26, .slo 0 0 n 0), (27, .int .i64 n), (28, .int .i64 i)]
abbrev lkH (B : LB) (n k i : Nat) (oc rc mc : List LV) : List LB := [B, .cells [.slo 0 0 n 0] none, .cells [.slo 0 0 n 0, .slo 3 0 k 0, .slo 4 0 i 0, .slo 5 0 i 0] none, .cells oc (some 1), .cells rc (some 1), .cells mc (some 1)]
/-! a contract over a read-only row holds over one's own row, too -/
theorem Gl.up {W w : World} {g : Glb} (h : Gl W g) (hb : Below W.heap.size W w) (hf : ∀ x ∈ g, x.2.length ≠ 1) : Gl w g := fun x hx => by
  rcases h x hx with ⟨F, e, _⟩ | ⟨c, e, f, h1, h2⟩
  · exact absurd (by rw [e]; rfl) (hf x hx)
  · refine .inr ⟨c, e, f, ?_, h2⟩
    have : x.1 < W.heap.size := (Array.getElem?_eq_some_iff.1 h1).1
    rw [hb.block _ this]; exact h1
theorem one_get {L M : LB} {g : Glb} {b : Nat} (h : (mkS [L] g).h.get b = some M) : b = 0 ∧ M = L := by
  rw [mkS_get] at h
  rcases Nat.eq_zero_or_pos b with rfl | hb
  · simp at h; exact ⟨rfl, h.symm⟩
  · rw [List.getElem?_eq_none (show [L].length ≤ b from hb)] at h; cases h
theorem SFun.froze {P : Program} {f : Nat} {args : List LV} {cs : List LV} {op : Option Nat} {g : Glb} {v : LV} (hv : noId v = true) (hf : ∀ x ∈ g, x.2.length ≠ 1)
    (h : SFun P f args (mkS [.ro cs] g) fun l _ => l = v) : SFun P f args (mkS [.cells cs op] g) fun l s' => l = v ∧ s' = mkS [.cells cs op] g := by
  intro W0 r w us hI hus
  have hn : (mkS [.ro cs] g).n = (mkS [.cells cs op] g).n := by rw [mkS_n, mkS_n]; rfl
  have nolive : ∀ b, ¬ (mkS [.ro cs] g).lives b := fun b ⟨L, h1, h2⟩ => by
    obtain ⟨_, rfl⟩ := one_get h1; cases h2
  have hget : (mkS [.cells cs op] g).h.get 0 = some (.cells cs op) := by rw [mkS_get]; rfl
  have hI' : Inv w r (mkS [.ro cs] g) w := by
    refine ⟨Below.refl _ _, fun b x hx => by rw [hn]; exact hI.dom b x hx, fun b x hl => absurd hl (nolive b), fun b hb => ?_, fun b b' x x' hl => absurd hl (nolive b), fun b ds o hb => ?_, fun b t p hb => ?_, Gl.up hI.gl hI.below hf, fun b ds hb => ?_⟩
    · rw [mkS_get]; rw [mkS_n] at hb; exact List.getElem?_eq_none hb
    · have := (one_get hb).2; cases this
    · have := (one_get hb).2; cases this
    · obtain ⟨rfl, e⟩ := one_get hb
      cases e
      rcases hI.cells 0 cs op hget with h0 | ⟨x, h1, h2⟩
      · exact .inl h0
      · obtain ⟨c, e, lo, hi, q1, q2, _⟩ := h2.ex
        exact .inr ⟨x, h1, c, e, (lo, hi), q1, q2⟩
  refine (h w r w us hI' hus).mono fun e w' ⟨l, s', v', r', hl, he, hvv, hIw, hE⟩ => ?_
  subst hl
  have hb := hIw.below
  refine ⟨l, _, v', r, ⟨rfl, rfl⟩, he, noId.sound hv hvv, ?_, ⟨r.le_refl, Nat.le_refl _, hb.size, fun b x h1 h2 _ => ⟨b, x, h1, h2, rfl⟩, fun B hB _ => hb.block B hB⟩⟩
  refine ⟨hI.below.trans (hb.mono hI.below.size), fun b x hx => ⟨(hI.dom b x hx).1, Nat.lt_of_lt_of_le (hI.dom b x hx).2 hb.size⟩, hI.own, hI.fresh, hI.inj, fun b ds o hds => ?_, fun b t p ht => ?_, hI.gl, fun b ds hds => ?_⟩
  · rcases hI.cells b ds o hds with h0 | ⟨x, h1, h2⟩
    · exact .inl h0
    · refine .inr ⟨x, h1, ?_⟩
      obtain ⟨⟨c, e, lo, hi, q1, q2⟩, q3⟩ := h2
      exact ⟨⟨c, e, lo, hi, by rw [hb.block _ (hI.dom b x h1).2]; exact q1, q2⟩, q3⟩
  · have := (one_get ht).2; cases this
  · have := (one_get hds).2; cases this

/-! what a check is -/
structure PS where
  o : List Int
  r : List Int
  m : List Int
def inm (o : List Int) : Int := match o.getLast? with | none => -1 | some x => x
theorem inm_nil : inm [] = -1 := rfl
theorem inm_snoc (o : List Int) (x : Int) : inm (o ++ [x]) = x := by simp [inm]
def opAt (L : List InsR) (j : Int) : Int := match L[j.toNat]? with | some x => x.op | none => 0
theorem opAt_get {L : List InsR} {j : Nat} (h : j < L.length) : opAt L (j : Int) = L[j].op := by simp [opAt, h]
def mayI (x : InsR) : Bool := mayW x.op x.a x.b x.c x.n
abbrev beg (L : List InsR) (inn k : Int) : Prop := inn ≠ -1 ∧ opAt L inn = k
def stp (L : List InsR) (i : Nat) (x : InsR) (s : PS) : Int × PS :=
  if mayI x = false then (8, s)
  else if x.op = 14 ∨ x.op = 17 then (if 5 ≤ s.o.length then (9, s) else (0, ⟨s.o ++ [(i : Int)], s.r ++ [inm s.o], s.m ++ [-1]⟩))
  else if x.op = 16 then (if beg L (inm s.o) 14 then (0, ⟨s.o, s.r ++ [inm s.o], s.m ++ [-1]⟩) else (12, s))
  else if x.op = 15 then (if beg L (inm s.o) 14 then (0, ⟨s.o.dropLast, s.r ++ [inm s.o], (s.m ++ [-1]).set (inm s.o).toNat i⟩) else (12, s))
  else if x.op = 19 then (if beg L (inm s.o) 18 then (0, ⟨s.o.dropLast, s.r ++ [inm s.o], (s.m ++ [-1]).set (inm s.o).toNat i⟩) else (12, s))
  else if x.op = 18 then (if beg L (inm s.o) 17 then (0, ⟨s.o.dropLast ++ [(i : Int)], s.r ++ [inm s.o], (s.m ++ [-1]).set (inm s.o).toNat i⟩) else (12, s))
  else (0, ⟨s.o, s.r ++ [inm s.o], s.m ++ [-1]⟩)
def goS (L : List InsR) : Nat → Int × Int × PS
  | 0 => (0, 0, ⟨[], [], []⟩)
  | i + 1 => if (goS L i).1 ≠ 0 then goS L i else match L[i]? with
    | none => goS L i
    | some x => ((stp L i x (goS L i).2.2).1, if (stp L i x (goS L i).2.2).1 = 0 then 0 else (i : Int), (stp L i x (goS L i).2.2).2)
theorem goS_next {L : List InsR} {i : Nat} (h : i < L.length) (h0 : (goS L i).1 = 0) : goS L (i + 1) = ((stp L i L[i] (goS L i).2.2).1, if (stp L i L[i] (goS L i).2.2).1 = 0 then 0 else (i : Int), (stp L i L[i] (goS L i).2.2).2) := by
  rw [goS, if_neg (by simpa using h0)]; simp [h]
theorem goS_stay {L : List InsR} {i : Nat} (h : (goS L i).1 ≠ 0) : ∀ m, goS L (i + m) = goS L i
  | 0 => rfl
  | m + 1 => by rw [← Nat.add_assoc, goS, goS_stay h m, if_pos h]
/-- An error in a round is the one at the end. -/
theorem goS_err {L : List InsR} {i : Nat} {e : Int} (h : i < L.length) (h0 : (goS L i).1 = 0) (he : (stp L i L[i] (goS L i).2.2).1 = e) (hne : e ≠ 0) : (goS L L.length).1 = e ∧ (goS L L.length).2.1 = i := by
  have h1 := goS_next h h0
  rw [he, if_neg hne] at h1
  have h2 := goS_stay (L := L) (i := i + 1) (by rw [h1]; exact hne) (L.length - (i + 1))
  rw [show i + 1 + (L.length - (i + 1)) = L.length by omega, h1] at h2
  rw [h2]; exact ⟨rfl, rfl⟩
structure CInv (L : List InsR) (i : Nat) (s : PS) : Prop where
  rl : s.r.length = i
  ml : s.m.length = i
  ol : s.o.length ≤ 5
  oo : ∀ x ∈ s.o, 0 ≤ x ∧ x < (i : Int)
  rr : ∀ x ∈ s.r, -1 ≤ x ∧ x < (i : Int)
  un : ∀ j, j < i → opAt L (j : Int) = 16 → 0 ≤ s.r.getD j 0
  ma : ∀ j (h : j < L.length), j < i → mayI L[j] = true
theorem inm_mem {o : List Int} : inm o = -1 ∧ o = [] ∨ inm o ∈ o := by
  rcases List.eq_nil_or_concat o with rfl | ⟨o', x, rfl⟩
  · exact .inl ⟨rfl, rfl⟩
  · right; rw [List.concat_eq_append, inm_snoc]; simp
theorem cinv_next {L : List InsR} {i : Nat} (h : i < L.length) {s : PS} (hI : CInv L i s) (h0 : (stp L i L[i] s).1 = 0) : CInv L (i + 1) (stp L i L[i] s).2 := by
  obtain ⟨rl, ml, ol, oo, rr, un, ma⟩ := hI
  have hin : -1 ≤ inm s.o ∧ inm s.o < (i : Int) := by
    rcases inm_mem (o := s.o) with ⟨e, _⟩ | e
    · rw [e]; omega
    · have := oo _ e; omega
  have hop := opAt_get h
  -- what all good steps share
  have key : ∀ (o m : List Int), m.length = i + 1 → o.length ≤ 5 → (∀ x ∈ o, 0 ≤ x ∧ x < ((i + 1 : Nat) : Int)) → (opAt L (i : Int) = 16 → 0 ≤ inm s.o) → mayI L[i] = true → CInv L (i + 1) ⟨o, s.r ++ [inm s.o], m⟩ := by
    intro o m h1 h2 h3 h4 h5
    refine ⟨by simp [rl], h1, h2, h3, fun x hx => ?_, fun j hj ho => ?_, fun j hj hji => ?_⟩
    · rcases List.mem_append.1 hx with hx | hx
      · have := rr x hx; omega
      · rw [List.mem_singleton.1 hx]; omega
    · rcases Nat.lt_succ_iff_lt_or_eq.1 hj with hj | rfl
      · have := un j hj ho
        simp only [List.getD_eq_getElem?_getD, List.getElem?_append_left (show j < s.r.length by omega)] at this ⊢
        exact this
      · have := h4 ho
        simp only [List.getD_eq_getElem?_getD, List.getElem?_append_right (show s.r.length ≤ j by omega), rl, Nat.sub_self]
        simpa using this
    · rcases Nat.lt_succ_iff_lt_or_eq.1 hji with hji | rfl
      · exact ma j hj hji
      · exact h5
  have hd : ∀ x ∈ s.o.dropLast, 0 ≤ x ∧ x < ((i + 1 : Nat) : Int) := fun x hx => by have := oo x ((List.dropLast_sublist _).subset hx); omega
  have ho : ∀ x ∈ s.o, 0 ≤ x ∧ x < ((i + 1 : Nat) : Int) := fun x hx => by have := oo x hx; omega
  have hdl : s.o.dropLast.length ≤ 5 := by rw [List.length_dropLast]; omega
  unfold stp at h0 ⊢
  split at h0
  · simp at h0
  rename_i hm
  have hm : mayI L[i] = true := by simpa using hm
  rw [if_neg (by simp [hm])]
  split at h0
  · rename_i q
    split at h0
    · simp at h0
    · rename_i q2
      rw [if_pos q, if_neg q2]
      refine key _ _ (by simp [ml]) (by simp; omega) (fun x hx => ?_) (fun e => by rw [hop] at e; omega) hm
      rcases List.mem_append.1 hx with hx | hx
      · exact ho x hx
      · rw [List.mem_singleton.1 hx]; omega
  rename_i q
  rw [if_neg q]
  split at h0
  · rename_i q1
    split at h0
    · rename_i q2
      rw [if_pos q1, if_pos q2]
      exact key _ _ (by simp [ml]) ol ho (fun _ => by have := q2.1; omega) hm
    · simp at h0
  rename_i q1
  have nu : opAt L (i : Int) = 16 → 0 ≤ inm s.o := fun e => absurd (hop ▸ e) q1
  rw [if_neg q1]
  split at h0
  · rename_i q2
    split at h0
    · rename_i q3
      rw [if_pos q2, if_pos q3]
      exact key _ _ (by simp [ml]) hdl hd nu hm
    · simp at h0
  rename_i q2
  rw [if_neg q2]
  split at h0
  · rename_i q2
    split at h0
    · rename_i q3
      rw [if_pos q2, if_pos q3]
      exact key _ _ (by simp [ml]) hdl hd nu hm
    · simp at h0
  rename_i q2
  rw [if_neg q2]
  split at h0
  · rename_i q2
    split at h0
    · rename_i q3
      rw [if_pos q2, if_pos q3]
      refine key _ _ (by simp [ml]) ?_ (fun x hx => ?_) nu hm
      · have : 1 ≤ s.o.length := by
          rcases inm_mem (o := s.o) with ⟨e, _⟩ | e
          · exact absurd e q3.1
          · exact List.length_pos_of_mem e
        simp; omega
      · rcases List.mem_append.1 hx with hx | hx
        · exact hd x hx
        · rw [List.mem_singleton.1 hx]; omega
    · simp at h0
  rename_i q2
  rw [if_neg q2]
  exact key _ _ (by simp [ml]) ol ho nu hm
theorem goS_inv (L : List InsR) : ∀ i, i ≤ L.length → (goS L i).1 = 0 → CInv L i (goS L i).2.2
  | 0, _, _ => ⟨rfl, rfl, by simp [goS], by simp [goS], by simp [goS], fun j h => absurd h (by omega), fun j _ h => absurd h (by omega)⟩
  | i + 1, h, h0 => by
    have hp : (goS L i).1 = 0 := by
      rcases Classical.em ((goS L i).1 = 0) with e | e
      · exact e
      · rw [goS, if_pos e] at h0; exact h0
    have e := goS_next (L := L) (i := i) (by omega) hp
    rw [e] at h0 ⊢
    exact cinv_next (by omega) (goS_inv L i (by omega) hp) h0
def jok (L : List InsR) (r : List Int) (k : Nat) (x : InsR) : Prop := (x.op = 12 ∨ x.op = 13) → (x.c = (L.length : Int) ∧ r.getD k 0 = -1 ∨ x.c < (L.length : Int) ∧ r.getD x.c.toNat 0 = r.getD k 0)
open Classical in
def goJ (L : List InsR) (r : List Int) : Nat → Option Nat
  | 0 => none
  | k + 1 => match goJ L r k with
    | some j => some j
    | none => match L[k]? with
      | none => none
      | some x => if jok L r k x then none else some k
theorem goJ_stay {L : List InsR} {r : List Int} {k j : Nat} (h : goJ L r k = some j) : ∀ m, goJ L r (k + m) = some j
  | 0 => h
  | m + 1 => by rw [← Nat.add_assoc, goJ, goJ_stay h m]
theorem goJ_good {L : List InsR} {r : List Int} {k : Nat} (hk : k < L.length) (h : goJ L r k = none) (hj : jok L r k L[k]) : goJ L r (k + 1) = none := by
  rw [goJ, h]; simp [hk, hj]
theorem goJ_bad {L : List InsR} {r : List Int} {k : Nat} (hk : k < L.length) (h : goJ L r k = none) (hj : ¬ jok L r k L[k]) : goJ L r L.length = some k := by
  have h1 : goJ L r (k + 1) = some k := by rw [goJ, h]; simp [hk, hj]
  have := goJ_stay h1 (L.length - (k + 1))
  rwa [show k + 1 + (L.length - (k + 1)) = L.length by omega] at this
def und (L : List InsR) (r m : List Int) : Nat → List Int
  | 0 => m
  | k + 1 => if opAt L (k : Int) = 16 then (und L r m k).set k ((und L r m k).getD (r.getD k 0).toNat 0) else und L r m k
theorem und_len (L : List InsR) (r m : List Int) : ∀ k, (und L r m k).length = m.length
  | 0 => rfl
  | k + 1 => by rw [und]; split <;> simp [und_len L r m k]
/-- The place, the error, the regions, the matches. -/
def chk (L : List InsR) : Int × Int × List Int × List Int :=
  if L.length = 0 ∨ 40 < L.length then (0, 4, [], [])
  else if (goS L L.length).1 ≠ 0 then ((goS L L.length).2.1, (goS L L.length).1, [], [])
  else if (goS L L.length).2.2.o ≠ [] then (inm (goS L L.length).2.2.o, 12, [], [])
  else match goJ L (goS L L.length).2.2.r L.length with
    | some j => (j, 2, [], [])
    | none => (0, 0, (goS L L.length).2.2.r, und L (goS L L.length).2.2.r (goS L L.length).2.2.m L.length)
theorem lk_a (n : Nat) (ls : List LV) (K : Pk) : (xsp Go.Proofs.Tryd.prog ckPro 60 62 (seg (sp Go.Proofs.Tryd.prog 15) 0 5) (tm0 [.agg [.slo 0 0 n 0]]) (mkS [.ro ls] gtab) (vK lkL K)) = (
 bif xcm .eql (↑n) 0 then (
 K .ret [.ptr 1 0, .nilp, .int .i64 0, .int .i64 4, .tup [], .tup [], .tup [], .tup [], .tup [], .tup []] [some (.ro ls), some (.cells [.slo 0 0 n 0] none)] gtab)
 else (
 bif xcm .gtr (↑n) 40 then (
 K .ret [.ptr 1 0, .nilp, .int .i64 0, .int .i64 4, .tup [], .tup [], .tup [], .tup [], .tup [], .tup []] [some (.ro ls), some (.cells [.slo 0 0 n 0] none)] gtab)
 else (
 K .normal [.ptr 1 0, .nilp, .int .i64 0, .int .i64 0, .ptr 2 0, .slo 0 0 n 0, .int .i64 ↑n, .int .i64 0, .tup [], .tup []] [some (.ro ls), some (.cells [.slo 0 0 n 0] none), some (.cells [.slo 0 0 n 0, .nils, .nils, .nils] none)] gtab))) := by kernel_rfl
abbrev lk_b_b1 (n : Nat) (k : Nat) (i : Nat) (ls : List LV) (oc : List LV) (rc : List LV) (mc : List LV) : List (Option LB) := [some (.ro ls), some (.cells [.slo 0 0 n 0] none), some (.cells [.slo 0 0 n 0, .slo 3 0 k 0, .slo 9 0 (xadd i 1) 0, .slo 11 0 (xadd i 1) 0] none), some (.cells oc (some 1)), some .dead, some .dead, some (.cells [.int .i64 (asI (nthD ls (xix 0 (xnat ↑i) 5))), .int .i64 (asI (nthD ls (xadd (xix 0 (xnat ↑i) 5) 1))), .int .i64 (asI (nthD ls (xadd (xadd (xix 0 (xnat ↑i) 5) 1) 1))), .int .i64 (asI (nthD ls (xadd (xadd (xadd (xix 0 (xnat ↑i) 5) 1) 1) 1))), .int .u64 (asI (nthD ls (xadd (xadd (xadd (xadd (xix 0 (xnat ↑i) 5) 1) 1) 1) 1)))] none), some (.cells [.int .i64 (asI (nthD ls (xix 0 (xnat ↑i) 5))), .int .i64 (asI (nthD ls (xadd (xix 0 (xnat ↑i) 5) 1))), .int .i64 (asI (nthD ls (xadd (xadd (xix 0 (xnat ↑i) 5) 1) 1))), .int .i64 (asI (nthD ls (xadd (xadd (xadd (xix 0 (xnat ↑i) 5) 1) 1) 1))), .int .u64 (asI (nthD ls (xadd (xadd (xadd (xadd (xix 0 (xnat ↑i) 5) 1) 1) 1) 1)))] none), some (.cells [.int .i64 (asI (nthD oc (xix 0 (xnat (xar .sub .i64 (↑k) 1)) 1)))] none), some (.cells (xcat (xcut rc 0 (xmul i 1)) [.int .i64 (asI (nthD oc (xix 0 (xnat (xar .sub .i64 (↑k) 1)) 1)))]) (some 1)), some (.cells [.int .i64 (-1)] none), some (.cells (xcat (xcut mc 0 (xmul i 1)) [.int .i64 (-1)]) (some 1))]
abbrev lk_b_b2 (n : Nat) (k : Nat) (i : Nat) (ls : List LV) (oc : List LV) (rc : List LV) (mc : List LV) : List (Option LB) := [some (.ro ls), some (.cells [.slo 0 0 n 0] none), some (.cells [.slo 0 0 n 0, .slo 3 0 k 0, .slo 9 0 (xadd i 1) 0, .slo 11 0 (xadd i 1) 0] none), some (.cells oc (some 1)), some .dead, some .dead, some (.cells [.int .i64 (asI (nthD ls (xix 0 (xnat ↑i) 5))), .int .i64 (asI (nthD ls (xadd (xix 0 (xnat ↑i) 5) 1))), .int .i64 (asI (nthD ls (xadd (xadd (xix 0 (xnat ↑i) 5) 1) 1))), .int .i64 (asI (nthD ls (xadd (xadd (xadd (xix 0 (xnat ↑i) 5) 1) 1) 1))), .int .u64 (asI (nthD ls (xadd (xadd (xadd (xadd (xix 0 (xnat ↑i) 5) 1) 1) 1) 1)))] none), some (.cells [.int .i64 (asI (nthD ls (xix 0 (xnat ↑i) 5))), .int .i64 (asI (nthD ls (xadd (xix 0 (xnat ↑i) 5) 1))), .int .i64 (asI (nthD ls (xadd (xadd (xix 0 (xnat ↑i) 5) 1) 1))), .int .i64 (asI (nthD ls (xadd (xadd (xadd (xix 0 (xnat ↑i) 5) 1) 1) 1))), .int .u64 (asI (nthD ls (xadd (xadd (xadd (xadd (xix 0 (xnat ↑i) 5) 1) 1) 1) 1)))] none), some (.cells [.int .i64 (-1)] none), some (.cells (xcat (xcut rc 0 (xmul i 1)) [.int .i64 (-1)]) (some 1)), some (.cells [.int .i64 (-1)] none), some (.cells (xcat (xcut mc 0 (xmul i 1)) [.int .i64 (-1)]) (some 1))]
abbrev lk_b_b3 (n : Nat) (k : Nat) (i : Nat) (ls : List LV) (oc : List LV) (rc : List LV) (mc : List LV) : List (Option LB) := [some (.ro ls), some (.cells [.slo 0 0 n 0] none), some (.cells [.slo 0 0 n 0, .slo 3 0 (xsub (xnat (xar .sub .i64 (↑k) 1)) 0) 0, .slo 9 0 (xadd i 1) 0, .slo 11 0 (xadd i 1) 0] none), some (.cells oc (some 1)), some .dead, some .dead, some (.cells [.int .i64 (asI (nthD ls (xix 0 (xnat ↑i) 5))), .int .i64 (asI (nthD ls (xadd (xix 0 (xnat ↑i) 5) 1))), .int .i64 (asI (nthD ls (xadd (xadd (xix 0 (xnat ↑i) 5) 1) 1))), .int .i64 (asI (nthD ls (xadd (xadd (xadd (xix 0 (xnat ↑i) 5) 1) 1) 1))), .int .u64 (asI (nthD ls (xadd (xadd (xadd (xadd (xix 0 (xnat ↑i) 5) 1) 1) 1) 1)))] none), some (.cells [.int .i64 (asI (nthD ls (xix 0 (xnat ↑i) 5))), .int .i64 (asI (nthD ls (xadd (xix 0 (xnat ↑i) 5) 1))), .int .i64 (asI (nthD ls (xadd (xadd (xix 0 (xnat ↑i) 5) 1) 1))), .int .i64 (asI (nthD ls (xadd (xadd (xadd (xix 0 (xnat ↑i) 5) 1) 1) 1))), .int .u64 (asI (nthD ls (xadd (xadd (xadd (xadd (xix 0 (xnat ↑i) 5) 1) 1) 1) 1)))] none), some (.cells [.int .i64 (asI (nthD oc (xix 0 (xnat (xar .sub .i64 (↑k) 1)) 1)))] none), some (.cells (xcat (xcut rc 0 (xmul i 1)) [.int .i64 (asI (nthD oc (xix 0 (xnat (xar .sub .i64 (↑k) 1)) 1)))]) (some 1)), some (.cells [.int .i64 (-1)] none), some (.cells (xlay (xcat (xcut mc 0 (xmul i 1)) [.int .i64 (-1)]) (xix 0 (xnat (asI (nthD oc (xix 0 (xnat (xar .sub .i64 (↑k) 1)) 1)))) 1) [.int .i64 ↑i]) (some 1))]
abbrev lk_b_b4 (n : Nat) (k : Nat) (i : Nat) (ls : List LV) (oc : List LV) (rc : List LV) (mc : List LV) : List (Option LB) := [some (.ro ls), some (.cells [.slo 0 0 n 0] none), some (.cells [.slo 0 0 n 0, .slo 13 0 (xadd (xsub (xnat (xar .sub .i64 (↑k) 1)) 0) 1) 0, .slo 9 0 (xadd i 1) 0, .slo 11 0 (xadd i 1) 0] none), some .dead, some .dead, some .dead, some (.cells [.int .i64 (asI (nthD ls (xix 0 (xnat ↑i) 5))), .int .i64 (asI (nthD ls (xadd (xix 0 (xnat ↑i) 5) 1))), .int .i64 (asI (nthD ls (xadd (xadd (xix 0 (xnat ↑i) 5) 1) 1))), .int .i64 (asI (nthD ls (xadd (xadd (xadd (xix 0 (xnat ↑i) 5) 1) 1) 1))), .int .u64 (asI (nthD ls (xadd (xadd (xadd (xadd (xix 0 (xnat ↑i) 5) 1) 1) 1) 1)))] none), some (.cells [.int .i64 (asI (nthD ls (xix 0 (xnat ↑i) 5))), .int .i64 (asI (nthD ls (xadd (xix 0 (xnat ↑i) 5) 1))), .int .i64 (asI (nthD ls (xadd (xadd (xix 0 (xnat ↑i) 5) 1) 1))), .int .i64 (asI (nthD ls (xadd (xadd (xadd (xix 0 (xnat ↑i) 5) 1) 1) 1))), .int .u64 (asI (nthD ls (xadd (xadd (xadd (xadd (xix 0 (xnat ↑i) 5) 1) 1) 1) 1)))] none), some (.cells [.int .i64 (asI (nthD oc (xix 0 (xnat (xar .sub .i64 (↑k) 1)) 1)))] none), some (.cells (xcat (xcut rc 0 (xmul i 1)) [.int .i64 (asI (nthD oc (xix 0 (xnat (xar .sub .i64 (↑k) 1)) 1)))]) (some 1)), some (.cells [.int .i64 (-1)] none), some (.cells (xlay (xcat (xcut mc 0 (xmul i 1)) [.int .i64 (-1)]) (xix 0 (xnat (asI (nthD oc (xix 0 (xnat (xar .sub .i64 (↑k) 1)) 1)))) 1) [.int .i64 ↑i]) (some 1)), some (.cells [.int .i64 ↑i] none), some (.cells (xcat (xcut oc 0 (xmul (xsub (xnat (xar .sub .i64 (↑k) 1)) 0) 1)) [.int .i64 ↑i]) (some 1))]
abbrev lk_b_b5 (n : Nat) (k : Nat) (i : Nat) (ls : List LV) (oc : List LV) (rc : List LV) (mc : List LV) : List (Option LB) := [some (.ro ls), some (.cells [.slo 0 0 n 0] none), some (.cells [.slo 0 0 n 0, .slo 13 0 (xadd k 1) 0, .slo 9 0 (xadd i 1) 0, .slo 11 0 (xadd i 1) 0] none), some .dead, some .dead, some .dead, some (.cells [.int .i64 (asI (nthD ls (xix 0 (xnat ↑i) 5))), .int .i64 (asI (nthD ls (xadd (xix 0 (xnat ↑i) 5) 1))), .int .i64 (asI (nthD ls (xadd (xadd (xix 0 (xnat ↑i) 5) 1) 1))), .int .i64 (asI (nthD ls (xadd (xadd (xadd (xix 0 (xnat ↑i) 5) 1) 1) 1))), .int .u64 (asI (nthD ls (xadd (xadd (xadd (xadd (xix 0 (xnat ↑i) 5) 1) 1) 1) 1)))] none), some (.cells [.int .i64 (asI (nthD ls (xix 0 (xnat ↑i) 5))), .int .i64 (asI (nthD ls (xadd (xix 0 (xnat ↑i) 5) 1))), .int .i64 (asI (nthD ls (xadd (xadd (xix 0 (xnat ↑i) 5) 1) 1))), .int .i64 (asI (nthD ls (xadd (xadd (xadd (xix 0 (xnat ↑i) 5) 1) 1) 1))), .int .u64 (asI (nthD ls (xadd (xadd (xadd (xadd (xix 0 (xnat ↑i) 5) 1) 1) 1) 1)))] none), some (.cells [.int .i64 (asI (nthD oc (xix 0 (xnat (xar .sub .i64 (↑k) 1)) 1)))] none), some (.cells (xcat (xcut rc 0 (xmul i 1)) [.int .i64 (asI (nthD oc (xix 0 (xnat (xar .sub .i64 (↑k) 1)) 1)))]) (some 1)), some (.cells [.int .i64 (-1)] none), some (.cells (xcat (xcut mc 0 (xmul i 1)) [.int .i64 (-1)]) (some 1)), some (.cells [.int .i64 ↑i] none), some (.cells (xcat (xcut oc 0 (xmul k 1)) [.int .i64 ↑i]) (some 1))]
abbrev lk_b_b6 (n : Nat) (k : Nat) (i : Nat) (ls : List LV) (oc : List LV) (rc : List LV) (mc : List LV) : List (Option LB) := [some (.ro ls), some (.cells [.slo 0 0 n 0] none), some (.cells [.slo 0 0 n 0, .slo 13 0 (xadd k 1) 0, .slo 9 0 (xadd i 1) 0, .slo 11 0 (xadd i 1) 0] none), some .dead, some .dead, some .dead, some (.cells [.int .i64 (asI (nthD ls (xix 0 (xnat ↑i) 5))), .int .i64 (asI (nthD ls (xadd (xix 0 (xnat ↑i) 5) 1))), .int .i64 (asI (nthD ls (xadd (xadd (xix 0 (xnat ↑i) 5) 1) 1))), .int .i64 (asI (nthD ls (xadd (xadd (xadd (xix 0 (xnat ↑i) 5) 1) 1) 1))), .int .u64 (asI (nthD ls (xadd (xadd (xadd (xadd (xix 0 (xnat ↑i) 5) 1) 1) 1) 1)))] none), some (.cells [.int .i64 (asI (nthD ls (xix 0 (xnat ↑i) 5))), .int .i64 (asI (nthD ls (xadd (xix 0 (xnat ↑i) 5) 1))), .int .i64 (asI (nthD ls (xadd (xadd (xix 0 (xnat ↑i) 5) 1) 1))), .int .i64 (asI (nthD ls (xadd (xadd (xadd (xix 0 (xnat ↑i) 5) 1) 1) 1))), .int .u64 (asI (nthD ls (xadd (xadd (xadd (xadd (xix 0 (xnat ↑i) 5) 1) 1) 1) 1)))] none), some (.cells [.int .i64 (-1)] none), some (.cells (xcat (xcut rc 0 (xmul i 1)) [.int .i64 (-1)]) (some 1)), some (.cells [.int .i64 (-1)] none), some (.cells (xcat (xcut mc 0 (xmul i 1)) [.int .i64 (-1)]) (some 1)), some (.cells [.int .i64 ↑i] none), some (.cells (xcat (xcut oc 0 (xmul k 1)) [.int .i64 ↑i]) (some 1))]
theorem lk_b (n k i : Nat) (ls oc rc mc : List LV) (K : Pk) : (xcode Go.Proofs.Tryd.prog ckPro 60 62 (loopOf (nthC (sp Go.Proofs.Tryd.prog 15) 5)) (mkTm 62 (lkT n i)) (mkS (lkH (.ro ls) n k i oc rc mc) gtab) (vK lkL K)) = (
 bif xcm .lss ↑i ↑n then (
 bif xle (xadd (xnat ↑i) 1) n then
 bif xle (xadd (xix 0 (xnat ↑i) 5) 5) (xln ls) then
 bif isI .i64 (nthD ls (xix 0 (xnat ↑i) 5)) then
 bif isI .i64 (nthD ls (xadd (xix 0 (xnat ↑i) 5) 1)) then
 bif isI .i64 (nthD ls (xadd (xadd (xix 0 (xnat ↑i) 5) 1) 1)) then
 bif isI .i64 (nthD ls (xadd (xadd (xadd (xix 0 (xnat ↑i) 5) 1) 1) 1)) then
 bif isI .u64 (nthD ls (xadd (xadd (xadd (xadd (xix 0 (xnat ↑i) 5) 1) 1) 1) 1)) then
 bif xnot (mayW (asI (nthD ls (xix 0 (xnat ↑i) 5))) (asI (nthD ls (xadd (xix 0 (xnat ↑i) 5) 1))) (asI (nthD ls (xadd (xadd (xix 0 (xnat ↑i) 5) 1) 1))) (asI (nthD ls (xadd (xadd (xadd (xix 0 (xnat ↑i) 5) 1) 1) 1))) (asI (nthD ls (xadd (xadd (xadd (xadd (xix 0 (xnat ↑i) 5) 1) 1) 1) 1)))) then (
 K .ret [.ptr 1 0, .nilp, .int .i64 ↑i, .int .i64 8, .ptr 2 0, .slo 0 0 n 0, .int .i64 ↑n, .int .i64 ↑i, .any, .any] [some (.ro ls), some (.cells [.slo 0 0 n 0] none), some (.cells [.slo 0 0 n 0, .slo 3 0 k 0, .slo 4 0 i 0, .slo 5 0 i 0] none), some (.cells oc (some 1)), some (.cells rc (some 1)), some (.cells mc (some 1)), some (.cells [.int .i64 (asI (nthD ls (xix 0 (xnat ↑i) 5))), .int .i64 (asI (nthD ls (xadd (xix 0 (xnat ↑i) 5) 1))), .int .i64 (asI (nthD ls (xadd (xadd (xix 0 (xnat ↑i) 5) 1) 1))), .int .i64 (asI (nthD ls (xadd (xadd (xadd (xix 0 (xnat ↑i) 5) 1) 1) 1))), .int .u64 (asI (nthD ls (xadd (xadd (xadd (xadd (xix 0 (xnat ↑i) 5) 1) 1) 1) 1)))] none), some (.cells [.int .i64 (asI (nthD ls (xix 0 (xnat ↑i) 5))), .int .i64 (asI (nthD ls (xadd (xix 0 (xnat ↑i) 5) 1))), .int .i64 (asI (nthD ls (xadd (xadd (xix 0 (xnat ↑i) 5) 1) 1))), .int .i64 (asI (nthD ls (xadd (xadd (xadd (xix 0 (xnat ↑i) 5) 1) 1) 1))), .int .u64 (asI (nthD ls (xadd (xadd (xadd (xadd (xix 0 (xnat ↑i) 5) 1) 1) 1) 1)))] none)] gtab)
 else (
 bif xcm .eql (↑k) 0 then (
 bif xle (xadd i 1) 1000000 then
 bif xle (xadd 0 (xmul i 1)) (xln rc) then
 bif xle (xadd i 1) 1000000 then
 bif xle (xadd 0 (xmul i 1)) (xln mc) then
 bif xcm .eql (asI (nthD ls (xix 0 (xnat ↑i) 5))) 14 then (
 bif xcm .eql (asI (nthD ls (xix 0 (xnat ↑i) 5))) 14 then (
 bif xcm .geq (↑k) 5 then (
 K .ret [.ptr 1 0, .nilp, .int .i64 ↑i, .int .i64 9, .ptr 2 0, .slo 0 0 n 0, .int .i64 ↑n, .int .i64 ↑i, .any, .any] (lk_b_b2 n k i ls oc rc mc) gtab)
 else (
 bif xle (xadd k 1) 1000000 then
 bif xle (xadd 0 (xmul k 1)) (xln oc) then
 K .normal [.ptr 1 0, .any, .any, .any, .ptr 2 0, .slo 0 0 n 0, .int .i64 ↑n, .int .i64 (xar .add .i64 (↑i) 1), .any, .any] (lk_b_b6 n k i ls oc rc mc) gtab
 else False
 else False))
 else (
 bif xcm .eql (asI (nthD ls (xix 0 (xnat ↑i) 5))) 16 then (
 K .ret [.ptr 1 0, .nilp, .int .i64 ↑i, .int .i64 12, .ptr 2 0, .slo 0 0 n 0, .int .i64 ↑n, .int .i64 ↑i, .any, .any] (lk_b_b2 n k i ls oc rc mc) gtab)
 else (
 bif xcm .eql (asI (nthD ls (xix 0 (xnat ↑i) 5))) 15 then (
 K .ret [.ptr 1 0, .nilp, .int .i64 ↑i, .int .i64 12, .ptr 2 0, .slo 0 0 n 0, .int .i64 ↑n, .int .i64 ↑i, .any, .any] (lk_b_b2 n k i ls oc rc mc) gtab)
 else (
 bif xcm .eql (asI (nthD ls (xix 0 (xnat ↑i) 5))) 19 then (
 K .ret [.ptr 1 0, .nilp, .int .i64 ↑i, .int .i64 12, .ptr 2 0, .slo 0 0 n 0, .int .i64 ↑n, .int .i64 ↑i, .any, .any] (lk_b_b2 n k i ls oc rc mc) gtab)
 else (
 bif xcm .eql (asI (nthD ls (xix 0 (xnat ↑i) 5))) 18 then (
 K .ret [.ptr 1 0, .nilp, .int .i64 ↑i, .int .i64 12, .ptr 2 0, .slo 0 0 n 0, .int .i64 ↑n, .int .i64 ↑i, .any, .any] (lk_b_b2 n k i ls oc rc mc) gtab)
 else (
 K .normal [.ptr 1 0, .any, .any, .any, .ptr 2 0, .slo 0 0 n 0, .int .i64 ↑n, .int .i64 (xar .add .i64 (↑i) 1), .any, .any] (lk_b_b2 n k i ls oc rc mc) gtab))))))
 else (
 bif xcm .eql (asI (nthD ls (xix 0 (xnat ↑i) 5))) 17 then (
 bif xcm .geq (↑k) 5 then (
 K .ret [.ptr 1 0, .nilp, .int .i64 ↑i, .int .i64 9, .ptr 2 0, .slo 0 0 n 0, .int .i64 ↑n, .int .i64 ↑i, .any, .any] (lk_b_b2 n k i ls oc rc mc) gtab)
 else (
 bif xle (xadd k 1) 1000000 then
 bif xle (xadd 0 (xmul k 1)) (xln oc) then
 K .normal [.ptr 1 0, .any, .any, .any, .ptr 2 0, .slo 0 0 n 0, .int .i64 ↑n, .int .i64 (xar .add .i64 (↑i) 1), .any, .any] (lk_b_b6 n k i ls oc rc mc) gtab
 else False
 else False))
 else (
 bif xcm .eql (asI (nthD ls (xix 0 (xnat ↑i) 5))) 16 then (
 K .ret [.ptr 1 0, .nilp, .int .i64 ↑i, .int .i64 12, .ptr 2 0, .slo 0 0 n 0, .int .i64 ↑n, .int .i64 ↑i, .any, .any] (lk_b_b2 n k i ls oc rc mc) gtab)
 else (
 bif xcm .eql (asI (nthD ls (xix 0 (xnat ↑i) 5))) 15 then (
 K .ret [.ptr 1 0, .nilp, .int .i64 ↑i, .int .i64 12, .ptr 2 0, .slo 0 0 n 0, .int .i64 ↑n, .int .i64 ↑i, .any, .any] (lk_b_b2 n k i ls oc rc mc) gtab)
 else (
 bif xcm .eql (asI (nthD ls (xix 0 (xnat ↑i) 5))) 19 then (
 K .ret [.ptr 1 0, .nilp, .int .i64 ↑i, .int .i64 12, .ptr 2 0, .slo 0 0 n 0, .int .i64 ↑n, .int .i64 ↑i, .any, .any] (lk_b_b2 n k i ls oc rc mc) gtab)
 else (
 bif xcm .eql (asI (nthD ls (xix 0 (xnat ↑i) 5))) 18 then (
 K .ret [.ptr 1 0, .nilp, .int .i64 ↑i, .int .i64 12, .ptr 2 0, .slo 0 0 n 0, .int .i64 ↑n, .int .i64 ↑i, .any, .any] (lk_b_b2 n k i ls oc rc mc) gtab)
 else (
 K .normal [.ptr 1 0, .any, .any, .any, .ptr 2 0, .slo 0 0 n 0, .int .i64 ↑n, .int .i64 (xar .add .i64 (↑i) 1), .any, .any] (lk_b_b2 n k i ls oc rc mc) gtab))))))
 else False
 else False
 else False
 else False)
 else (
 bif xnn (xar .sub .i64 (↑k) 1) then
 bif xle (xadd (xnat (xar .sub .i64 (↑k) 1)) 1) k then
 bif xle (xadd (xix 0 (xnat (xar .sub .i64 (↑k) 1)) 1) 1) (xln oc) then
 bif isI .i64 (nthD oc (xix 0 (xnat (xar .sub .i64 (↑k) 1)) 1)) then
 bif xle (xadd i 1) 1000000 then
 bif xle (xadd 0 (xmul i 1)) (xln rc) then
 bif xle (xadd i 1) 1000000 then
 bif xle (xadd 0 (xmul i 1)) (xln mc) then
 bif xcm .eql (asI (nthD ls (xix 0 (xnat ↑i) 5))) 14 then (
 bif xcm .eql (asI (nthD ls (xix 0 (xnat ↑i) 5))) 14 then (
 bif xcm .geq (↑k) 5 then (
 K .ret [.ptr 1 0, .nilp, .int .i64 ↑i, .int .i64 9, .ptr 2 0, .slo 0 0 n 0, .int .i64 ↑n, .int .i64 ↑i, .any, .any] (lk_b_b1 n k i ls oc rc mc) gtab)
 else (
 bif xle (xadd k 1) 1000000 then
 bif xle (xadd 0 (xmul k 1)) (xln oc) then
 K .normal [.ptr 1 0, .any, .any, .any, .ptr 2 0, .slo 0 0 n 0, .int .i64 ↑n, .int .i64 (xar .add .i64 (↑i) 1), .any, .any] (lk_b_b5 n k i ls oc rc mc) gtab
 else False
 else False))
 else (
 bif xcm .eql (asI (nthD ls (xix 0 (xnat ↑i) 5))) 16 then (
 bif xcm .neq (asI (nthD oc (xix 0 (xnat (xar .sub .i64 (↑k) 1)) 1))) (-1) then (
 bif xnn (asI (nthD oc (xix 0 (xnat (xar .sub .i64 (↑k) 1)) 1))) then
 bif xle (xadd (xnat (asI (nthD oc (xix 0 (xnat (xar .sub .i64 (↑k) 1)) 1)))) 1) n then
 bif xle (xadd (xix 0 (xnat (asI (nthD oc (xix 0 (xnat (xar .sub .i64 (↑k) 1)) 1)))) 5) 1) (xln ls) then
 bif isI .i64 (nthD ls (xix 0 (xnat (asI (nthD oc (xix 0 (xnat (xar .sub .i64 (↑k) 1)) 1)))) 5)) then
 bif xnot (xcm .eql (asI (nthD ls (xix 0 (xnat (asI (nthD oc (xix 0 (xnat (xar .sub .i64 (↑k) 1)) 1)))) 5))) 14) then (
 K .ret [.ptr 1 0, .nilp, .int .i64 ↑i, .int .i64 12, .ptr 2 0, .slo 0 0 n 0, .int .i64 ↑n, .int .i64 ↑i, .any, .any] (lk_b_b1 n k i ls oc rc mc) gtab)
 else (
 K .normal [.ptr 1 0, .any, .any, .any, .ptr 2 0, .slo 0 0 n 0, .int .i64 ↑n, .int .i64 (xar .add .i64 (↑i) 1), .any, .any] (lk_b_b1 n k i ls oc rc mc) gtab)
 else False
 else False
 else False
 else False)
 else (
 K .ret [.ptr 1 0, .nilp, .int .i64 ↑i, .int .i64 12, .ptr 2 0, .slo 0 0 n 0, .int .i64 ↑n, .int .i64 ↑i, .any, .any] (lk_b_b1 n k i ls oc rc mc) gtab))
 else (
 bif xcm .eql (asI (nthD ls (xix 0 (xnat ↑i) 5))) 15 then (
 bif xcm .neq (asI (nthD oc (xix 0 (xnat (xar .sub .i64 (↑k) 1)) 1))) (-1) then (
 bif xnn (asI (nthD oc (xix 0 (xnat (xar .sub .i64 (↑k) 1)) 1))) then
 bif xle (xadd (xnat (asI (nthD oc (xix 0 (xnat (xar .sub .i64 (↑k) 1)) 1)))) 1) n then
 bif xle (xadd (xix 0 (xnat (asI (nthD oc (xix 0 (xnat (xar .sub .i64 (↑k) 1)) 1)))) 5) 1) (xln ls) then
 bif isI .i64 (nthD ls (xix 0 (xnat (asI (nthD oc (xix 0 (xnat (xar .sub .i64 (↑k) 1)) 1)))) 5)) then
 bif xnot (xcm .eql (asI (nthD ls (xix 0 (xnat (asI (nthD oc (xix 0 (xnat (xar .sub .i64 (↑k) 1)) 1)))) 5))) 14) then (
 K .ret [.ptr 1 0, .nilp, .int .i64 ↑i, .int .i64 12, .ptr 2 0, .slo 0 0 n 0, .int .i64 ↑n, .int .i64 ↑i, .any, .any] (lk_b_b1 n k i ls oc rc mc) gtab)
 else (
 bif xnn (asI (nthD oc (xix 0 (xnat (xar .sub .i64 (↑k) 1)) 1))) then
 bif xle (xadd (xnat (asI (nthD oc (xix 0 (xnat (xar .sub .i64 (↑k) 1)) 1)))) 1) (xadd i 1) then
 bif xle (xadd (xix 0 (xnat (asI (nthD oc (xix 0 (xnat (xar .sub .i64 (↑k) 1)) 1)))) 1) 1) (xln (xcat (xcut mc 0 (xmul i 1)) [.int .i64 (-1)])) then
 bif xnn (xar .sub .i64 (↑k) 1) then
 bif xle (xnat (xar .sub .i64 (↑k) 1)) k then
 K .normal [.ptr 1 0, .any, .any, .any, .ptr 2 0, .slo 0 0 n 0, .int .i64 ↑n, .int .i64 (xar .add .i64 (↑i) 1), .any, .any] (lk_b_b3 n k i ls oc rc mc) gtab
 else False
 else False
 else False
 else False
 else False)
 else False
 else False
 else False
 else False)
 else (
 K .ret [.ptr 1 0, .nilp, .int .i64 ↑i, .int .i64 12, .ptr 2 0, .slo 0 0 n 0, .int .i64 ↑n, .int .i64 ↑i, .any, .any] (lk_b_b1 n k i ls oc rc mc) gtab))
 else (
 bif xcm .eql (asI (nthD ls (xix 0 (xnat ↑i) 5))) 19 then (
 bif xcm .neq (asI (nthD oc (xix 0 (xnat (xar .sub .i64 (↑k) 1)) 1))) (-1) then (
 bif xnn (asI (nthD oc (xix 0 (xnat (xar .sub .i64 (↑k) 1)) 1))) then
 bif xle (xadd (xnat (asI (nthD oc (xix 0 (xnat (xar .sub .i64 (↑k) 1)) 1)))) 1) n then
 bif xle (xadd (xix 0 (xnat (asI (nthD oc (xix 0 (xnat (xar .sub .i64 (↑k) 1)) 1)))) 5) 1) (xln ls) then
 bif isI .i64 (nthD ls (xix 0 (xnat (asI (nthD oc (xix 0 (xnat (xar .sub .i64 (↑k) 1)) 1)))) 5)) then
 bif xnot (xcm .eql (asI (nthD ls (xix 0 (xnat (asI (nthD oc (xix 0 (xnat (xar .sub .i64 (↑k) 1)) 1)))) 5))) 18) then (
 K .ret [.ptr 1 0, .nilp, .int .i64 ↑i, .int .i64 12, .ptr 2 0, .slo 0 0 n 0, .int .i64 ↑n, .int .i64 ↑i, .any, .any] (lk_b_b1 n k i ls oc rc mc) gtab)
 else (
 bif xnn (asI (nthD oc (xix 0 (xnat (xar .sub .i64 (↑k) 1)) 1))) then
 bif xle (xadd (xnat (asI (nthD oc (xix 0 (xnat (xar .sub .i64 (↑k) 1)) 1)))) 1) (xadd i 1) then
 bif xle (xadd (xix 0 (xnat (asI (nthD oc (xix 0 (xnat (xar .sub .i64 (↑k) 1)) 1)))) 1) 1) (xln (xcat (xcut mc 0 (xmul i 1)) [.int .i64 (-1)])) then
 bif xnn (xar .sub .i64 (↑k) 1) then
 bif xle (xnat (xar .sub .i64 (↑k) 1)) k then
 K .normal [.ptr 1 0, .any, .any, .any, .ptr 2 0, .slo 0 0 n 0, .int .i64 ↑n, .int .i64 (xar .add .i64 (↑i) 1), .any, .any] (lk_b_b3 n k i ls oc rc mc) gtab
 else False
 else False
 else False
 else False
 else False)
 else False
 else False
 else False
 else False)
 else (
 K .ret [.ptr 1 0, .nilp, .int .i64 ↑i, .int .i64 12, .ptr 2 0, .slo 0 0 n 0, .int .i64 ↑n, .int .i64 ↑i, .any, .any] (lk_b_b1 n k i ls oc rc mc) gtab))
 else (
 bif xcm .eql (asI (nthD ls (xix 0 (xnat ↑i) 5))) 18 then (
 bif xcm .neq (asI (nthD oc (xix 0 (xnat (xar .sub .i64 (↑k) 1)) 1))) (-1) then (
 bif xnn (asI (nthD oc (xix 0 (xnat (xar .sub .i64 (↑k) 1)) 1))) then
 bif xle (xadd (xnat (asI (nthD oc (xix 0 (xnat (xar .sub .i64 (↑k) 1)) 1)))) 1) n then
 bif xle (xadd (xix 0 (xnat (asI (nthD oc (xix 0 (xnat (xar .sub .i64 (↑k) 1)) 1)))) 5) 1) (xln ls) then
 bif isI .i64 (nthD ls (xix 0 (xnat (asI (nthD oc (xix 0 (xnat (xar .sub .i64 (↑k) 1)) 1)))) 5)) then
 bif xnot (xcm .eql (asI (nthD ls (xix 0 (xnat (asI (nthD oc (xix 0 (xnat (xar .sub .i64 (↑k) 1)) 1)))) 5))) 17) then (
 K .ret [.ptr 1 0, .nilp, .int .i64 ↑i, .int .i64 12, .ptr 2 0, .slo 0 0 n 0, .int .i64 ↑n, .int .i64 ↑i, .any, .any] (lk_b_b1 n k i ls oc rc mc) gtab)
 else (
 bif xnn (asI (nthD oc (xix 0 (xnat (xar .sub .i64 (↑k) 1)) 1))) then
 bif xle (xadd (xnat (asI (nthD oc (xix 0 (xnat (xar .sub .i64 (↑k) 1)) 1)))) 1) (xadd i 1) then
 bif xle (xadd (xix 0 (xnat (asI (nthD oc (xix 0 (xnat (xar .sub .i64 (↑k) 1)) 1)))) 1) 1) (xln (xcat (xcut mc 0 (xmul i 1)) [.int .i64 (-1)])) then
 bif xnn (xar .sub .i64 (↑k) 1) then
 bif xle (xnat (xar .sub .i64 (↑k) 1)) k then
 bif xle (xadd (xsub (xnat (xar .sub .i64 (↑k) 1)) 0) 1) 1000000 then
 bif xle (xadd 0 (xmul (xsub (xnat (xar .sub .i64 (↑k) 1)) 0) 1)) (xln oc) then
 K .normal [.ptr 1 0, .any, .any, .any, .ptr 2 0, .slo 0 0 n 0, .int .i64 ↑n, .int .i64 (xar .add .i64 (↑i) 1), .any, .any] (lk_b_b4 n k i ls oc rc mc) gtab
 else False
 else False
 else False
 else False
 else False
 else False
 else False)
 else False
 else False
 else False
 else False)
 else (
 K .ret [.ptr 1 0, .nilp, .int .i64 ↑i, .int .i64 12, .ptr 2 0, .slo 0 0 n 0, .int .i64 ↑n, .int .i64 ↑i, .any, .any] (lk_b_b1 n k i ls oc rc mc) gtab))
 else (
 K .normal [.ptr 1 0, .any, .any, .any, .ptr 2 0, .slo 0 0 n 0, .int .i64 ↑n, .int .i64 (xar .add .i64 (↑i) 1), .any, .any] (lk_b_b1 n k i ls oc rc mc) gtab))))))
 else (
 bif xcm .eql (asI (nthD ls (xix 0 (xnat ↑i) 5))) 17 then (
 bif xcm .geq (↑k) 5 then (
 K .ret [.ptr 1 0, .nilp, .int .i64 ↑i, .int .i64 9, .ptr 2 0, .slo 0 0 n 0, .int .i64 ↑n, .int .i64 ↑i, .any, .any] (lk_b_b1 n k i ls oc rc mc) gtab)
 else (
 bif xle (xadd k 1) 1000000 then
 bif xle (xadd 0 (xmul k 1)) (xln oc) then
 K .normal [.ptr 1 0, .any, .any, .any, .ptr 2 0, .slo 0 0 n 0, .int .i64 ↑n, .int .i64 (xar .add .i64 (↑i) 1), .any, .any] (lk_b_b5 n k i ls oc rc mc) gtab
 else False
 else False))
 else (
 bif xcm .eql (asI (nthD ls (xix 0 (xnat ↑i) 5))) 16 then (
 bif xcm .neq (asI (nthD oc (xix 0 (xnat (xar .sub .i64 (↑k) 1)) 1))) (-1) then (
 bif xnn (asI (nthD oc (xix 0 (xnat (xar .sub .i64 (↑k) 1)) 1))) then
 bif xle (xadd (xnat (asI (nthD oc (xix 0 (xnat (xar .sub .i64 (↑k) 1)) 1)))) 1) n then
 bif xle (xadd (xix 0 (xnat (asI (nthD oc (xix 0 (xnat (xar .sub .i64 (↑k) 1)) 1)))) 5) 1) (xln ls) then
 bif isI .i64 (nthD ls (xix 0 (xnat (asI (nthD oc (xix 0 (xnat (xar .sub .i64 (↑k) 1)) 1)))) 5)) then
 bif xnot (xcm .eql (asI (nthD ls (xix 0 (xnat (asI (nthD oc (xix 0 (xnat (xar .sub .i64 (↑k) 1)) 1)))) 5))) 14) then (
 K .ret [.ptr 1 0, .nilp, .int .i64 ↑i, .int .i64 12, .ptr 2 0, .slo 0 0 n 0, .int .i64 ↑n, .int .i64 ↑i, .any, .any] (lk_b_b1 n k i ls oc rc mc) gtab)
 else (
 K .normal [.ptr 1 0, .any, .any, .any, .ptr 2 0, .slo 0 0 n 0, .int .i64 ↑n, .int .i64 (xar .add .i64 (↑i) 1), .any, .any] (lk_b_b1 n k i ls oc rc mc) gtab)
 else False
 else False
 else False
 else False)
 else (
 K .ret [.ptr 1 0, .nilp, .int .i64 ↑i, .int .i64 12, .ptr 2 0, .slo 0 0 n 0, .int .i64 ↑n, .int .i64 ↑i, .any, .any] (lk_b_b1 n k i ls oc rc mc) gtab))
 else (
 bif xcm .eql (asI (nthD ls (xix 0 (xnat ↑i) 5))) 15 then (
 bif xcm .neq (asI (nthD oc (xix 0 (xnat (xar .sub .i64 (↑k) 1)) 1))) (-1) then (
 bif xnn (asI (nthD oc (xix 0 (xnat (xar .sub .i64 (↑k) 1)) 1))) then
 bif xle (xadd (xnat (asI (nthD oc (xix 0 (xnat (xar .sub .i64 (↑k) 1)) 1)))) 1) n then
 bif xle (xadd (xix 0 (xnat (asI (nthD oc (xix 0 (xnat (xar .sub .i64 (↑k) 1)) 1)))) 5) 1) (xln ls) then
 bif isI .i64 (nthD ls (xix 0 (xnat (asI (nthD oc (xix 0 (xnat (xar .sub .i64 (↑k) 1)) 1)))) 5)) then
 bif xnot (xcm .eql (asI (nthD ls (xix 0 (xnat (asI (nthD oc (xix 0 (xnat (xar .sub .i64 (↑k) 1)) 1)))) 5))) 14) then (
 K .ret [.ptr 1 0, .nilp, .int .i64 ↑i, .int .i64 12, .ptr 2 0, .slo 0 0 n 0, .int .i64 ↑n, .int .i64 ↑i, .any, .any] (lk_b_b1 n k i ls oc rc mc) gtab)
 else (
 bif xnn (asI (nthD oc (xix 0 (xnat (xar .sub .i64 (↑k) 1)) 1))) then
 bif xle (xadd (xnat (asI (nthD oc (xix 0 (xnat (xar .sub .i64 (↑k) 1)) 1)))) 1) (xadd i 1) then
 bif xle (xadd (xix 0 (xnat (asI (nthD oc (xix 0 (xnat (xar .sub .i64 (↑k) 1)) 1)))) 1) 1) (xln (xcat (xcut mc 0 (xmul i 1)) [.int .i64 (-1)])) then
 bif xnn (xar .sub .i64 (↑k) 1) then
 bif xle (xnat (xar .sub .i64 (↑k) 1)) k then
 K .normal [.ptr 1 0, .any, .any, .any, .ptr 2 0, .slo 0 0 n 0, .int .i64 ↑n, .int .i64 (xar .add .i64 (↑i) 1), .any, .any] (lk_b_b3 n k i ls oc rc mc) gtab
 else False
 else False
 else False
 else False
 else False)
 else False
 else False
 else False
 else False)
 else (
 K .ret [.ptr 1 0, .nilp, .int .i64 ↑i, .int .i64 12, .ptr 2 0, .slo 0 0 n 0, .int .i64 ↑n, .int .i64 ↑i, .any, .any] (lk_b_b1 n k i ls oc rc mc) gtab))
 else (
 bif xcm .eql (asI (nthD ls (xix 0 (xnat ↑i) 5))) 19 then (
 bif xcm .neq (asI (nthD oc (xix 0 (xnat (xar .sub .i64 (↑k) 1)) 1))) (-1) then (
 bif xnn (asI (nthD oc (xix 0 (xnat (xar .sub .i64 (↑k) 1)) 1))) then
 bif xle (xadd (xnat (asI (nthD oc (xix 0 (xnat (xar .sub .i64 (↑k) 1)) 1)))) 1) n then
 bif xle (xadd (xix 0 (xnat (asI (nthD oc (xix 0 (xnat (xar .sub .i64 (↑k) 1)) 1)))) 5) 1) (xln ls) then
 bif isI .i64 (nthD ls (xix 0 (xnat (asI (nthD oc (xix 0 (xnat (xar .sub .i64 (↑k) 1)) 1)))) 5)) then
 bif xnot (xcm .eql (asI (nthD ls (xix 0 (xnat (asI (nthD oc (xix 0 (xnat (xar .sub .i64 (↑k) 1)) 1)))) 5))) 18) then (
 K .ret [.ptr 1 0, .nilp, .int .i64 ↑i, .int .i64 12, .ptr 2 0, .slo 0 0 n 0, .int .i64 ↑n, .int .i64 ↑i, .any, .any] (lk_b_b1 n k i ls oc rc mc) gtab)
 else (
 bif xnn (asI (nthD oc (xix 0 (xnat (xar .sub .i64 (↑k) 1)) 1))) then
 bif xle (xadd (xnat (asI (nthD oc (xix 0 (xnat (xar .sub .i64 (↑k) 1)) 1)))) 1) (xadd i 1) then
 bif xle (xadd (xix 0 (xnat (asI (nthD oc (xix 0 (xnat (xar .sub .i64 (↑k) 1)) 1)))) 1) 1) (xln (xcat (xcut mc 0 (xmul i 1)) [.int .i64 (-1)])) then
 bif xnn (xar .sub .i64 (↑k) 1) then
 bif xle (xnat (xar .sub .i64 (↑k) 1)) k then
 K .normal [.ptr 1 0, .any, .any, .any, .ptr 2 0, .slo 0 0 n 0, .int .i64 ↑n, .int .i64 (xar .add .i64 (↑i) 1), .any, .any] (lk_b_b3 n k i ls oc rc mc) gtab
 else False
 else False
 else False
 else False
 else False)
 else False
 else False
 else False
 else False)
 else (
 K .ret [.ptr 1 0, .nilp, .int .i64 ↑i, .int .i64 12, .ptr 2 0, .slo 0 0 n 0, .int .i64 ↑n, .int .i64 ↑i, .any, .any] (lk_b_b1 n k i ls oc rc mc) gtab))
 else (
 bif xcm .eql (asI (nthD ls (xix 0 (xnat ↑i) 5))) 18 then (
 bif xcm .neq (asI (nthD oc (xix 0 (xnat (xar .sub .i64 (↑k) 1)) 1))) (-1) then (
 bif xnn (asI (nthD oc (xix 0 (xnat (xar .sub .i64 (↑k) 1)) 1))) then
 bif xle (xadd (xnat (asI (nthD oc (xix 0 (xnat (xar .sub .i64 (↑k) 1)) 1)))) 1) n then
 bif xle (xadd (xix 0 (xnat (asI (nthD oc (xix 0 (xnat (xar .sub .i64 (↑k) 1)) 1)))) 5) 1) (xln ls) then
 bif isI .i64 (nthD ls (xix 0 (xnat (asI (nthD oc (xix 0 (xnat (xar .sub .i64 (↑k) 1)) 1)))) 5)) then
 bif xnot (xcm .eql (asI (nthD ls (xix 0 (xnat (asI (nthD oc (xix 0 (xnat (xar .sub .i64 (↑k) 1)) 1)))) 5))) 17) then (
 K .ret [.ptr 1 0, .nilp, .int .i64 ↑i, .int .i64 12, .ptr 2 0, .slo 0 0 n 0, .int .i64 ↑n, .int .i64 ↑i, .any, .any] (lk_b_b1 n k i ls oc rc mc) gtab)
 else (
 bif xnn (asI (nthD oc (xix 0 (xnat (xar .sub .i64 (↑k) 1)) 1))) then
 bif xle (xadd (xnat (asI (nthD oc (xix 0 (xnat (xar .sub .i64 (↑k) 1)) 1)))) 1) (xadd i 1) then
 bif xle (xadd (xix 0 (xnat (asI (nthD oc (xix 0 (xnat (xar .sub .i64 (↑k) 1)) 1)))) 1) 1) (xln (xcat (xcut mc 0 (xmul i 1)) [.int .i64 (-1)])) then
 bif xnn (xar .sub .i64 (↑k) 1) then
 bif xle (xnat (xar .sub .i64 (↑k) 1)) k then
 bif xle (xadd (xsub (xnat (xar .sub .i64 (↑k) 1)) 0) 1) 1000000 then
 bif xle (xadd 0 (xmul (xsub (xnat (xar .sub .i64 (↑k) 1)) 0) 1)) (xln oc) then
 K .normal [.ptr 1 0, .any, .any, .any, .ptr 2 0, .slo 0 0 n 0, .int .i64 ↑n, .int .i64 (xar .add .i64 (↑i) 1), .any, .any] (lk_b_b4 n k i ls oc rc mc) gtab
 else False
 else False
 else False
 else False
 else False
 else False
 else False)
 else False
 else False
 else False
 else False)
 else (
 K .ret [.ptr 1 0, .nilp, .int .i64 ↑i, .int .i64 12, .ptr 2 0, .slo 0 0 n 0, .int .i64 ↑n, .int .i64 ↑i, .any, .any] (lk_b_b1 n k i ls oc rc mc) gtab))
 else (
 K .normal [.ptr 1 0, .any, .any, .any, .ptr 2 0, .slo 0 0 n 0, .int .i64 ↑n, .int .i64 (xar .add .i64 (↑i) 1), .any, .any] (lk_b_b1 n k i ls oc rc mc) gtab))))))
 else False
 else False
 else False
 else False
 else False
 else False
 else False
 else False))
 else False
 else False
 else False
 else False
 else False
 else False
 else False)
 else (
 K (.exit 0) [.ptr 1 0, .any, .any, .any, .ptr 2 0, .slo 0 0 n 0, .int .i64 ↑n, .int .i64 ↑i, .any, .any] [some (.ro ls), some (.cells [.slo 0 0 n 0] none), some (.cells [.slo 0 0 n 0, .slo 3 0 k 0, .slo 4 0 i 0, .slo 5 0 i 0] none), some (.cells oc (some 1)), some (.cells rc (some 1)), some (.cells mc (some 1))] gtab)) := by kernel_rfl
abbrev lk_c_b1 (n : Nat) (k : Nat) (ls : List LV) (oc : List LV) (rc : List LV) (mc : List LV) : List (Option LB) := [some (.ro ls), some (.cells [.slo 0 0 n 0] none), some (.cells [.slo 0 0 n 0, .slo 3 0 k 0, .slo 4 0 n 0, .slo 5 0 n 0] none), some (.cells oc (some 1)), some (.cells rc (some 1)), some (.cells mc (some 1))]
theorem lk_c (n k : Nat) (ls oc rc mc : List LV) (K : Pk) : (xsp Go.Proofs.Tryd.prog ckPro 60 62 (seg (sp Go.Proofs.Tryd.prog 15) 6 3) (mkTm 62 [(1, .ptr 1 0), (5, .ptr 2 0)]) (mkS (lkH (.ro ls) n k n oc rc mc) gtab) (vK lkL K)) = (
 bif xcm .eql (↑k) 0 then (
 K .normal [.ptr 1 0, .any, .any, .any, .ptr 2 0, .any, .any, .any, .any, .any] (lk_c_b1 n k ls oc rc mc) gtab)
 else (
 bif xnn (xar .sub .i64 (↑k) 1) then
 bif xle (xadd (xnat (xar .sub .i64 (↑k) 1)) 1) k then
 bif xle (xadd (xix 0 (xnat (xar .sub .i64 (↑k) 1)) 1) 1) (xln oc) then
 bif isI .i64 (nthD oc (xix 0 (xnat (xar .sub .i64 (↑k) 1)) 1)) then
 bif xcm .neq (asI (nthD oc (xix 0 (xnat (xar .sub .i64 (↑k) 1)) 1))) (-1) then (
 K .ret [.ptr 1 0, .nilp, .int .i64 (asI (nthD oc (xix 0 (xnat (xar .sub .i64 (↑k) 1)) 1))), .int .i64 12, .ptr 2 0, .any, .any, .any, .any, .any] (lk_c_b1 n k ls oc rc mc) gtab)
 else (
 K .normal [.ptr 1 0, .any, .any, .any, .ptr 2 0, .any, .any, .any, .any, .any] (lk_c_b1 n k ls oc rc mc) gtab)
 else False
 else False
 else False
 else False)) := by kernel_rfl
end
end Go.Lev
