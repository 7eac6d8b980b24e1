/- EpochPlays: the law's own loop over asks. -/

import Derived.Test.YtojokfckjhcknaaSlotsB
import Derived.Deep.RegionHeld3
import Derived.Deep.Cut
import Derived.Deep.CutRange
import Derived.Deep.DeepCutAuto
import Derived.Deep.LoopGhost
namespace Go.Proofs.Ytojokfckjhcknaa
open Go.ChangeShapes Go.WideShapes Go.ChangeAt Go.RowKit
open Go.ChangeMaps (open_string shut_string)
set_option linter.unusedVariables false
/-- A row of asks in memory: a flag, a place, a word. -/
structure Asks (w : World) (b off len : Nat) (S : Nat → Bool) (A V : Nat → Int) : Prop where
  lt : b < w.heap.size
  cs : ∀ i, i < len → w.cell? ⟨b, off + i * 3, none⟩ = some (.bool (S i))
  ca : ∀ i, i < len → w.cell? ⟨b, off + i * 3 + 1, none⟩ = some (.int .i64 (A i))
  cv : ∀ i, i < len → w.cell? ⟨b, off + i * 3 + 2, none⟩ = some (.int .u64 (V i))
  bv : ∀ i, i < len → 0 ≤ V i ∧ V i ≤ 18446744073709551615
theorem Asks.only {w w' : World} {b off len : Nat} {S : Nat → Bool} {A V : Nat → Int} {bs : List Nat} (q : Asks w b off len S A V) (h : Only bs w w') (hb : b ∉ bs) : Asks w' b off len S A V :=
  ⟨Nat.lt_of_lt_of_le q.lt h.size, fun i hi => (h.cell q.lt hb).trans (q.cs i hi), fun i hi => (h.cell q.lt hb).trans (q.ca i hi), fun i hi => (h.cell q.lt hb).trans (q.cv i hi), q.bv⟩
def NN (xs : List Int) : Prop := ∀ x ∈ xs, 0 ≤ x
theorem NN.getD {xs : List Int} (h : NN xs) (i : Nat) : 0 ≤ xs.getD i 0 := by
  rw [List.getD_eq_getElem?_getD]
  cases e : xs[i]? with
  | none => simp
  | some x => simpa using h x (List.mem_of_getElem? e)
theorem NN.set {xs : List Int} (h : NN xs) (i : Nat) {v : Int} (hv : 0 ≤ v) : NN (xs.set i v) := fun x hx => by
  rcases List.mem_or_eq_of_mem_set hx with h1 | rfl
  · exact h x h1
  · exact hv
def LoopPost (s r v n : Nat) (w : World) (e : Ending) (w' : World) : Prop := e = .returned (.bool true) ∧ ∃ xs, NN xs ∧ VecAt w' s r n xs ∧ URow w' v n xs ∧ Only [r, v] w w'
theorem sB {Q : Nat} {va : Int} {Y W : World} (h : W.cell? ⟨Q, 2, none⟩ = some (.int .u64 va) ∧ Hid (Below Y.heap.size Y W)) : Below Y.heap.size Y W := h.2.out
theorem sK_drewN {Q : Nat} {va : Int} {Y W : World} (h : W.cell? ⟨Q, 2, none⟩ = some (.int .u64 va) ∧ Hid (Below Y.heap.size Y W)) (k : Nat) : (W.drewN k).cell? ⟨Q, 2, none⟩ = some (.int .u64 va) ∧ Hid (Below Y.heap.size Y (W.drewN k)) := ⟨h.1, below_drewN h.2.out k⟩
theorem sK_drew {Q : Nat} {va : Int} {Y W : World} (h : W.cell? ⟨Q, 2, none⟩ = some (.int .u64 va) ∧ Hid (Below Y.heap.size Y W)) : W.drew.cell? ⟨Q, 2, none⟩ = some (.int .u64 va) ∧ Hid (Below Y.heap.size Y W.drew) := ⟨h.1, h.2.out.drew⟩
theorem sK_below {Q : Nat} {va : Int} {Y W W' : World} (h : W.cell? ⟨Q, 2, none⟩ = some (.int .u64 va) ∧ Hid (Below Y.heap.size Y W)) (hb : Below W.heap.size W W') : W'.cell? ⟨Q, 2, none⟩ = some (.int .u64 va) ∧ Hid (Below Y.heap.size Y W') :=
  ⟨(hb.cell (World.block_lt_of_cell? W _ h.1)).trans h.1, h.2.out.trans (hb.mono h.2.out.size)⟩
set_option maxRecDepth 100000 in
set_option maxHeartbeats 8000000 in
theorem asked_row (s r v n cv : Nat) (xs0 : List Int) (b off len cap : Nat) (S : Nat → Bool) (A V : Nat → Int) (w : World) (h0 : 0 < n) (hn : n ≤ 1000) (hm : len ≤ 9223372036854775807) (hN : NN xs0)
    (hR : VecAt w s r n xs0) (hW : URow w v n xs0) (ha : Asks w b off len S A V) (hrv : r ≠ v) (hsv : s ≠ v) (hbr : b ≠ r) (hbv : b ≠ v) :
    Calls Try.prog 15 #[ptr s, .slice (some ⟨v, 0, none⟩) n cv, .slice (some ⟨b, off, none⟩) len cap] w (LoopPost s r v n w) := by
  have HR := Lib.hid hR
  have HW := Lib.hid hW
  have HA := Lib.hid ha
  have HN := Lib.hid hN
  have NE : Hid (r ≠ v ∧ s ≠ v ∧ b ≠ r ∧ b ≠ v ∧ s ≠ r) := ⟨hrv, hsv, hbr, hbv, hR.ne⟩
  clear hR hW hrv hsv hbr hbv ha hN
  go_enter Try.func15, Try.ntmps15
  go_wp2
  go_loopg [7] 60 (fun g u7 wr => ∃ (k : Nat) (xs : List Int), k ≤ len ∧ g + k = 60 ∧ u7 = .int .i64 k ∧ Hid (NN xs) ∧ Hid (VecAt wr s r n xs) ∧ Hid (URow wr v n xs) ∧ Hid (Only [r, v] w wr))
  case atStart => exact ⟨0, xs0, by omega, by omega, rfl, HN.out, HR.out, HW.out, Only.refl _ _⟩
  case round =>
    obtain ⟨k, xs, hk, hg, rfl, hnn, hq, hw', ht⟩ := hrel
    by_cases hlt : k < len ∧ k < 60
    · obtain ⟨hlt, h60⟩ := hlt
      have hA := HA.out.only ht.out (by simp; exact ⟨NE.out.2.2.1, NE.out.2.2.2.1⟩)
      have cs := hA.cs k hlt
      have ca := hA.ca k hlt
      have cw := hA.cv k hlt
      have bV := Lib.hid (hA.bv k hlt)
      obtain ⟨at', hat⟩ : ∃ x, A k = x := ⟨_, rfl⟩
      obtain ⟨va, hva⟩ : ∃ x, V k = x := ⟨_, rfl⟩
      obtain ⟨st, hst⟩ : ∃ x, S k = x := ⟨_, rfl⟩
      rw [hst] at cs
      rw [hat] at ca
      rw [hva] at cw bV
      have hki : (k : Int) < (len : Int) := by omega
      have hki6 : (k : Int) < 60 := by omega
      have hkn : (0 : Int) ≤ (k : Int) := by omega
      have HK : Hid (k < len ∧ k < 60 ∧ gk + k = 60) := ⟨hlt, h60, hg⟩
      clear hA hat hva hst hlt h60 hg hk
      have ZZ : Hid (r < wr.heap.size ∧ v < wr.heap.size ∧ s < wr.heap.size) := ⟨hq.out.row.lt h0, hw'.out.lt h0, hq.out.lt⟩
      obtain ⟨Q, hQ⟩ : ∃ Q, wr.heap.size = Q := ⟨_, rfl⟩
      have HQ := Lib.hid hQ
      go_upto_region 5 with fail
      have hW1 : ∃ W1, W1 = wr.alloc (.cells #[.bool st, .int .i64 at', .int .u64 va] 48) := ⟨_, rfl⟩
      obtain ⟨W1, hW1⟩ := hW1
      rw [← hW1]
      have d0 : W1.cell? ⟨Q, 0, none⟩ = some (.bool st) := by rw [hW1, ← hQ]; simp
      have d1 : W1.cell? ⟨Q, 1, none⟩ = some (.int .i64 at') := by rw [hW1, ← hQ]; simp
      have d2 : W1.cell? ⟨Q, 2, none⟩ = some (.int .u64 va) := by rw [hW1, ← hQ]; simp
      have q1 : Hid (VecAt W1 s r n xs) := by rw [hW1]; exact hq.out.below ((Below.refl _ _).alloc (Nat.le_refl _) _)
      have r1 : Hid (URow W1 v n xs) := by rw [hW1]; exact hw'.out.below ((Below.refl _ _).alloc (Nat.le_refl _) _)
      have o1 : Hid (Only [r, v] w W1) := by rw [hW1]; exact ht.out.alloc _
      have z1 : Hid (W1.heap.size = Q + 1) := by rw [hW1, ← hQ]; show _ = _; simp
      clear hW1 hQ cs ca cw
      go_cut [9] (fun s9 wx => s9 = .bool (inV 0 n at') ∧ wx = W1)
      case first =>
        by_cases p0 : 0 ≤ at'
        · by_cases p1 : at' < (n : Int)
          · have e : inV 0 n at' = true := by simp [inV, p0, p1]
            have E := Lib.hid e
            clear e
            go_wp2
            go_meet
            case rel => exact ⟨by rw [E.out], rfl⟩
          · have e : inV 0 n at' = false := by simp [inV, p1]
            have p2 : decide (at' < (n : Int)) = false := by simpa using p1
            have E := Lib.hid e
            clear e p1
            go_wp2
            go_meet
            case rel => exact ⟨by rw [E.out], rfl⟩
        · have e : inV 0 n at' = false := by simp [inV, p0]
          have p2 : decide (0 ≤ at') = false := by simpa using p0
          have E := Lib.hid e
          clear e p0
          go_wp2
          go_meet
          case rel => exact ⟨by rw [E.out], rfl⟩
      case rest =>
        obtain ⟨rfl, rfl⟩ := hcut
        obtain ⟨U, hU⟩ : ∃ U, U = wc := ⟨_, rfl⟩
        subst hU
        go_upto_if 43 with fail
        go_cut [9, 10] (fun s9 _ wx => s9 = .bool (inV 0 n at') ∧ ∃ ys, NN ys ∧ VecAt wx s r n ys ∧ URow wx v n ys ∧ Only [r, v] U wx)
        case first =>
          cases st
          · go_wp2
            go_meet
            case rel => exact ⟨rfl, xs, hnn.out, q1.out, r1.out, Only.refl _ _⟩
          · have ST := Lib.hid (sl_store s r n at' va xs U q1.out (by omega))
            cases hv : inV 0 n at'
            · have eE : ldE 0 n at' = 2 := by simp [ldE, hv]
              have eS : stW 0 n xs at' va = xs := by simp [stW, hv]
              rw [eE, eS] at ST
              have HV := Lib.hid hv
              clear eE eS hv
              go_wp2_with (first | (go_at_call 8; (with_reducible refine ST.out.mono ?_); rintro e w2 ⟨rfl, hx⟩; have HX := Lib.hid hx; clear hx))
              go_meet
              case rel => exact ⟨by rw [HV.out], xs, hnn.out, HX.out.1, r1.out.only HX.out.2 (by simp; exact fun e => NE.out.1 e.symm), HX.out.2.mono (by simp)⟩
            · obtain ⟨i, rfl, hi, _⟩ := inV_nat hv (by decide)
              have eE : ldE 0 n i = 0 := by simp [ldE, hv]
              have eS : stW 0 n xs i va = xs.set i va := by simp [stW, hv]
              rw [eE, eS] at ST
              have HI : Hid (i < n) := hi
              have i0 : (0 : Int) ≤ (i : Int) := by omega
              have i1 : (i : Int) < (n : Int) := by omega
              have HV := Lib.hid hv
              clear eE eS hv hi
              go_wp2_with fail
              refine ST.out.mono ?_
              rintro e w2 ⟨rfl, hx, ho⟩
              have f1 : w2.cell? ⟨Q, 1, none⟩ = some (.int .i64 (i : Int)) := (ho.cell (by rw [z1.out]; omega) (by have := ZZ.out.1; have := HQ.out; simp; omega)).trans d1
              have f2 : w2.cell? ⟨Q, 2, none⟩ = some (.int .u64 va) := (ho.cell (by rw [z1.out]; omega) (by have := ZZ.out.1; have := HQ.out; simp; omega)).trans d2
              have R2 := r1.out.only ho (by simp; exact fun e => NE.out.1 e.symm)
              have g1 := R2.c i HI.out
              have g2 := R2.f i HI.out
              have HX : Hid (VecAt w2 s r n (xs.set i va)) := hx
              have HO : Hid (Only [r] U w2) := ho
              have HR2 := Lib.hid R2
              clear hx ho R2
              go_wp2
              go_meet
              case rel => exact ⟨by rw [HV.out], xs.set i va, hnn.out.set i bV.out.1, HX.out.only (Only.set (Only.refl [v] _) v i (by simp) _) (by simp; exact NE.out.2.1) (by simp; exact NE.out.1), HR2.out.put i HI.out va, (HO.out.mono (by simp)).set v i (by simp) _⟩
        case rest =>
          obtain ⟨rfl, ys, hy, qy, ry, oy⟩ := hcut
          obtain ⟨X, hX⟩ : ∃ X, X = wc := ⟨_, rfl⟩
          subst hX
          have e1 : X.cell? ⟨Q, 1, none⟩ = some (.int .i64 at') := (oy.cell (by rw [z1.out]; omega) (by have := ZZ.out; have := HQ.out; simp; omega)).trans d1
          have e2 : X.cell? ⟨Q, 2, none⟩ = some (.int .u64 va) := (oy.cell (by rw [z1.out]; omega) (by have := ZZ.out; have := HQ.out; simp; omega)).trans d2
          have qX := Lib.hid qy
          have rX := Lib.hid ry
          have oX : Hid (Only [r, v] w X) := o1.out.trans oy
          have NX := Lib.hid hy
          have zX : Hid (Q < X.heap.size) := (by have := oy.size; rw [z1.out] at this; show Q < X.heap.size; omega)
          clear qy ry oy hy d0 d1 d2 q1 r1 o1 hq hw' ht hnn
          have LD := Lib.hid (sl_load s r n at' ys X qX.out (by omega))
          go_upto_region 13 with (first | (go_at_call 20; (with_reducible refine LD.out.mono ?_); rintro e w' ⟨rfl, rfl⟩))
          go_cut [9, 11, 12, 103] (fun s9 s11 s12 s103 wx => s103 = .bool false ∧ wx = X)
          case first =>
            cases hv : inV 0 n at'
            · have eW : ldW 0 n ys at' = 0 := by simp [ldW, hv]
              have eE : ldE 0 n at' = 2 := by simp [ldE, hv]
              clear hv
              go_wp2
              go_meet
              case rel => exact ⟨rfl, rfl⟩
            · obtain ⟨i, rfl, hi, _⟩ := inV_nat hv (by decide)
              have eW : ldW 0 n ys i = ys.getD i 0 := by simp [ldW, hv]
              have eE : ldE 0 n i = 0 := by simp [ldE, hv]
              have cX := rX.out.c i hi
              have i0 : (0 : Int) ≤ (i : Int) := by omega
              have i1 : (i : Int) < (n : Int) := by omega
              rw [eW]
              obtain ⟨y, hy⟩ : ∃ y, ys.getD i 0 = y := ⟨_, rfl⟩
              rw [hy] at cX ⊢
              have hyy : (y != y) = false := by simp
              clear hv eW hi hy
              go_wp2
              go_meet
              case rel => exact ⟨rfl, rfl⟩
          case rest =>
            obtain ⟨rfl, rfl⟩ := hcut
            obtain ⟨Y, hY⟩ : ∃ Y, Y = wc := ⟨_, rfl⟩
            subst hY
            have LST := Lib.hid (sleast_row s r n _ (fun i => ys.getD i 0) Y qX.out.hs.choose_spec (by omega) (fun i _ => NX.out.getD i) qX.out.row.c)
            have PS1 : Hid (∀ W, Below Y.heap.size Y W → Calls Try.prog 10 #[ptr s, .int .u64 va] W fun e w' => e = .returned (.bool (psd (fun i => ys.getD i 0) va n)) ∧ W = w') := fun W hb => spassed_any s r n ys va W (qX.out.below hb) (by omega) (fun i _ => NX.out.getD i) bV.out.1
            have PS2 : Hid (∀ W, Below Y.heap.size Y W → Calls Try.prog 21 #[.slice (some ⟨v, 0, none⟩) n cv, .int .u64 va] W fun e w' => e = .returned (.bool (psd (fun i => ys.getD i 0) va n)) ∧ W = w') := fun W hb => rpassed_row v 0 n cv (fun i => ys.getD i 0) va W (by omega) (fun i _ => NX.out.getD i) bV.out.1 (fun i hi => by rw [Nat.zero_add]; exact (rX.out.below hb).c i hi)
            obtain ⟨ls, hls⟩ : ∃ ls : Nat → Int, lst (fun i => ys.getD i 0) = ls := ⟨_, rfl⟩
            obtain ⟨ps, hps⟩ : ∃ ps : Bool, psd (fun i => ys.getD i 0) va n = ps := ⟨_, rfl⟩
            rw [hls] at LST
            rw [hps] at PS1 PS2
            have HLS := Lib.hid hls
            clear hls hps LD
            go_wp2_with fail
            go_loop [13, 14, 15] (fun u13 u14 u15 => ∃ m : Nat, m ≤ n ∧ u13 = .int .u64 (ls m) ∧ u14 = .bool (ls m != 0) ∧ u15 = .int .i64 m) (fun _ _ u => n - (intOf u).toNat)
            case atStart => exact ⟨0, by omega, by rw [← HLS.out]; rfl, by rw [← HLS.out]; rfl, rfl⟩
            case round =>
              obtain ⟨m, hm, rfl, rfl, rfl⟩ := hrel
              by_cases hmn : m < n
              · have hc := rX.out.c m hmn
                have Z := Lib.hid (@lst_zero (fun i => ys.getD i 0) m)
                have M := Lib.hid (@lst_more (fun i => ys.getD i 0) m)
                have T := Lib.hid (@lst_take (fun i => ys.getD i 0) m)
                have hki : (m : Int) < (n : Int) := by omega
                have hkn : (0 : Int) ≤ (m : Int) := by omega
                rw [HLS.out] at Z M T
                obtain ⟨x, hx⟩ : ∃ x, ys.getD m 0 = x := ⟨_, rfl⟩
                obtain ⟨y, hy⟩ : ∃ y, ls m = y := ⟨_, rfl⟩
                obtain ⟨z, hz⟩ : ∃ z, ls (m + 1) = z := ⟨_, rfl⟩
                simp only [hx, hy, hz] at Z M T
                rw [hx] at hc
                rw [hy]
                have HZ := Lib.hid hz
                clear hx hy hz
                by_cases h0x : x = 0
                · have e0 : (x != 0) = false := by simp [h0x]
                  have E := Lib.hid (Z.out h0x)
                  clear h0x
                  go_wp2
                  go_round
                  case rel => exact ⟨m + 1, by omega, by rw [HZ.out, E.out], by rw [HZ.out, E.out], by go_num⟩
                  case measure => simp [intOf]; omega
                · have e0 : (x != 0) = true := by simp [h0x]
                  have X0 := Lib.hid h0x
                  by_cases h1 : y = 0
                  · have e1 : (y != 0) = false := by simp [h1]
                    have E := Lib.hid (T.out e0 (.inl h1))
                    clear h0x h1
                    go_wp2
                    go_round
                    case rel => exact ⟨m + 1, by omega, by rw [HZ.out, E.out], by rw [HZ.out, E.out]; have := X0.out; simp [this], by go_num⟩
                    case measure => simp [intOf]; omega
                  · have e1 : (y != 0) = true := by simp [h1]
                    by_cases h2 : x < y
                    · have E := Lib.hid (T.out e0 (.inr h2))
                      clear h0x h1
                      go_wp2
                      go_round
                      case rel => exact ⟨m + 1, by omega, by rw [HZ.out, E.out], by rw [HZ.out, E.out]; have := X0.out; simp [this], by go_num⟩
                      case measure => simp [intOf]; omega
                    · have e2 : decide (x < y) = false := by simpa using h2
                      have E := Lib.hid (M.out h1 h2)
                      clear h0x h1 h2
                      go_wp2
                      go_round
                      case rel => exact ⟨m + 1, by omega, by rw [HZ.out, E.out], by rw [HZ.out, E.out, e1], by go_num⟩
                      case measure => simp [intOf]; omega
              · have hmn' : m = n := by omega
                have hl : decide ((m : Int) < (n : Int)) = false := by simp; omega
                subst hmn'
                obtain ⟨y, hy⟩ : ∃ y, ls m = y := ⟨_, rfl⟩
                simp only [hy] at LST
                rw [hy]
                clear hy hmn hl
                have hl : decide ((m : Int) < (m : Int)) = false := by simp
                have g1 : (y != y) = false := by simp
                have g2 : ((y != 0) != (y != 0)) = false := by simp
                have g3 : (ps != ps) = false := by simp
                have g4 : ((m : Int) != (m : Int)) = false := by simp
                go_upto_region 22 with (first | (go_at_call 9; (with_reducible refine LST.out.mono ?_); rintro e w' ⟨rfl, rfl⟩))
                go_cut [168] (fun s168 wx => s168 = .bool false ∧ Below Y.heap.size Y wx)
                case first =>
                  have AL : Hid (∀ W, Below Y.heap.size Y W → Calls Try.prog 12 #[ptr s] W (AllPost W m ys)) := fun W hb => sl_all s r m ys W (qX.out.below hb) h0 (by omega)
                  have LN : Hid (∀ W, Below Y.heap.size Y W → Calls Try.prog 11 #[ptr s] W fun e w' => e = .returned (.int .i64 m) ∧ W = w') := fun W hb => sl_len s r m W ((qX.out.below hb).hs.choose_spec)
                  have SM : Hid (∀ (W : World) (g cap base : Nat), W.ownsRow base 26 1 (.slice (some ⟨g, 0, none⟩) m cap) m (ys.map (Value.int .u64)) → Below Y.heap.size Y W → Calls Try.prog 17 #[.slice (some ⟨g, 0, none⟩) m cap, .slice (some ⟨v, 0, none⟩) m cv] W fun e w' => e = .returned (.bool true) ∧ ∃ k, w' = W.drewN k) := fun W g cap base ho hb => same_u64 g 0 cap v 0 cv m (fun i => ys.getD i 0) W (by omega) (fun i hi => by rw [Nat.zero_add]; exact (URow.own ho qX.out.row.len).c i hi) (fun i hi => by rw [Nat.zero_add]; exact (rX.out.below hb).c i hi)
                  have S0 : Y.cell? ⟨Q, 2, none⟩ = some (.int .u64 va) ∧ Hid (Below Y.heap.size Y Y) := ⟨e2, Below.refl _ _⟩
                  clear e1 e2 HLS LST
                  go_region_held3 (fun w' => w'.cell? ⟨Q, 2, none⟩ = some (.int .u64 va) ∧ Hid (Below Y.heap.size Y w')) (first | assumption | exact sK_drew (by assumption) | exact sK_drewN (by assumption) _ | exact sK_below (by assumption) (by assumption)) (first | (go_at_call 10; refine (PS1.out _ (sB (by assumption))).mono ?_; rintro e w' ⟨rfl, rfl⟩) | (go_at_call 21; refine (PS2.out _ (sB (by assumption))).mono ?_; rintro e w' ⟨rfl, rfl⟩) | (go_at_call 12; refine (AL.out _ (sB (by assumption))).mono ?_; rintro e w' ⟨g, cap', rfl, hown, hb2⟩) | (go_at_call 17; refine (SM.out _ _ _ _ (by assumption) (sB (by assumption))).mono ?_; rintro e w' ⟨rfl, kk, rfl⟩) | (go_at_call 11; refine (LN.out _ (sB (by assumption))).mono ?_; rintro e w' ⟨rfl, rfl⟩))
                  all_goals go_wp2_with fail
                  all_goals go_meet
                  all_goals exact ⟨rfl, sB (by assumption)⟩
                case rest =>
                  obtain ⟨rfl, hbw⟩ := hcut
                  have HB := Lib.hid hbw
                  clear hbw
                  go_wp2
                  go_roundg (gk - 1)
                  case measure => have := HK.out; omega
                  case rel => exact ⟨k + 1, ys, by have := HK.out; omega, by have := HK.out; omega, by go_num, NX.out, qX.out.below HB.out, rX.out.below HB.out, oX.out.then HB.out⟩
    · rcases Nat.lt_or_ge k len with hkl | hkl
      · have i1 : (k : Int) < (len : Int) := by omega
        have i2 : decide ((k : Int) < 60) = false := by simp; omega
        clear hlt
        go_wp2
        go_ret
        exact ⟨rfl, xs, hnn.out, hq.out, hw'.out, ht.out⟩
      · obtain rfl : k = len := by omega
        have i1 : decide ((k : Int) < (k : Int)) = false := by simp
        clear hlt
        go_wp2
        go_ret
        exact ⟨rfl, xs, hnn.out, hq.out, hw'.out, ht.out⟩
end Go.Proofs.Ytojokfckjhcknaa
