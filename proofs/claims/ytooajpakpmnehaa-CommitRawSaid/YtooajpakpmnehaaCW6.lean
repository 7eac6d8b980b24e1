/- chapter 25: Next and Tell of a commit as contracts -/
import Derived.Test.YtooajpakpmnehaaCW5
import Derived.Test.YtooajpakpmnehaaLc
import Derived.Test.YtooajpakpmnehaaChecked
import Derived.KernelRfl

namespace Go.Lev
open Go.RowKit
set_option linter.unusedVariables false
set_option linter.unusedSimpArgs false
set_option maxRecDepth 100000
noncomputable section
structure OpR where
  k : Int
  at' : Int
  old : Int
  w : Int
  was : Lk
  lk : Lk
abbrev opC (k a old w wv : Int) (wh : Bool) (wo lv : Int) (lh : Bool) (lo : Int) : List LV := [.int .i64 k, .int .i64 a, .int .u64 old, .int .u64 w, .int .u64 wv, .bool wh, .int .i64 wo, .int .u64 lv, .bool lh, .int .i64 lo]
abbrev opL (o : OpR) : List LV := opC o.k o.at' o.old o.w o.was.1 o.was.2.1 o.was.2.2 o.lk.1 o.lk.2.1 o.lk.2.2
def op0 : OpR := ⟨0, 0, 0, 0, d0, d0⟩
/-- The operation that is next. -/
def opOf (me : Int) (qs cs : List (Int × Int)) (ss : List Int) (s : CS) : OpR :=
  if s.en ≠ 0 then op0
  else if s.ph = 0 then ⟨3, ss.getD s.at' 0, 0, 0, d0, d0⟩
  else if s.ph = 1 then ⟨4, ss.getD s.at' 0, 0, 0, s.lk, (s.lk.1, true, me)⟩
  else if s.ph = 2 then ⟨6, 0, 0, 0, d0, d0⟩
  else if s.ph = 3 then ⟨7, 0, s.now, s.now + 1, d0, d0⟩
  else if s.ph = 4 then ⟨3, (qs.getD s.at' q0).1, 0, 0, d0, d0⟩
  else if s.ph = 5 then ⟨2, (cs.getD s.at' q0).1, 0, (cs.getD s.at' q0).2, d0, d0⟩
  else if s.ph = 6 then ⟨5, ss.getD s.at' 0, 0, 0, d0, (s.now + 1, false, 0)⟩
  else ⟨5, ss.getD s.at' 0, 0, 0, d0, s.tk.getD s.at' d0⟩
theorem nx_n (me stm : Int) (nq nc ns nt : Nat) (qc cc sc tc : List LV) (su en bu er lv : Int) (lh : Bool) (lo ph : Int) (at' : Nat) (now : Int) (st : Bool) (ve vb vr : Int) (K : Fk) : (xfun Go.Proofs.Try.prog (fun _ => none) 60 9 [.ptr 0 0] (mkS (cE me stm nq nc ns nt qc cc sc tc su en bu er lv lh lo ph at' now st ve vb vr)) (vF K)) = (
 bif xnot (xcm .eql en 0) then (
 K (.tup [.agg [.int .i64 0, .int .i64 0, .int .u64 0, .int .u64 0, .int .u64 0, .bool false, .int .i64 0, .int .u64 0, .bool false, .int .i64 0], .bool false]) [some (.cells [.ptr 1 0, .int .i64 me, .int .u64 stm, .slo 2 0 nq 0, .slo 3 0 nc 0, .slo 4 0 ns 0, .slo 5 0 nt 0, .int .u64 lv, .bool lh, .int .i64 lo, .int .i64 ph, .int .i64 ↑at', .int .u64 now, .bool st, .int .i64 ve, .int .i64 vb, .int .i64 vr] none), some (.cells [.int .i64 me, .int .i64 su, .int .i64 en, .int .i64 bu, .int .i64 er] none), some (.cells qc (some 2)), some (.cells cc (some 2)), some (.cells sc (some 1)), some (.cells tc (some 3)), some (.cells [.int .i64 0, .int .i64 0, .int .u64 0, .int .u64 0, .int .u64 0, .bool false, .int .i64 0, .int .u64 0, .bool false, .int .i64 0] none)] [])
 else (
 bif xcm .eql ph 0 then (
 bif xle (xadd (xnat ↑at') 1) ns then bif xle (xadd (xix 0 (xnat ↑at') 1) 1) (xln sc) then bif isI .i64 (nthD sc (xix 0 (xnat ↑at') 1)) then
 K (.tup [.agg [.int .i64 3, .int .i64 (asI (nthD sc (xix 0 (xnat ↑at') 1))), .int .u64 0, .int .u64 0, .int .u64 0, .bool false, .int .i64 0, .int .u64 0, .bool false, .int .i64 0], .bool true]) [some (.cells [.ptr 1 0, .int .i64 me, .int .u64 stm, .slo 2 0 nq 0, .slo 3 0 nc 0, .slo 4 0 ns 0, .slo 5 0 nt 0, .int .u64 lv, .bool lh, .int .i64 lo, .int .i64 ph, .int .i64 ↑at', .int .u64 now, .bool st, .int .i64 ve, .int .i64 vb, .int .i64 vr] none), some (.cells [.int .i64 me, .int .i64 su, .int .i64 en, .int .i64 bu, .int .i64 er] none), some (.cells qc (some 2)), some (.cells cc (some 2)), some (.cells sc (some 1)), some (.cells tc (some 3)), some (.cells [.int .i64 3, .int .i64 (asI (nthD sc (xix 0 (xnat ↑at') 1))), .int .u64 0, .int .u64 0, .int .u64 0, .bool false, .int .i64 0, .int .u64 0, .bool false, .int .i64 0] none), some (.cells [.int .i64 3, .int .i64 (asI (nthD sc (xix 0 (xnat ↑at') 1))), .int .u64 0, .int .u64 0, .int .u64 0, .bool false, .int .i64 0, .int .u64 0, .bool false, .int .i64 0] none)] [] else False else False else False)
 else (
 bif xcm .eql ph 1 then (
 bif xcm .eql lv lv then bif xcm .eql lv lv then bif xcm .eql me me then bif xcm .eql me me then bif xle (xadd (xnat ↑at') 1) ns then bif xle (xadd (xix 0 (xnat ↑at') 1) 1) (xln sc) then bif isI .i64 (nthD sc (xix 0 (xnat ↑at') 1)) then
 K (.tup [.agg [.int .i64 4, .int .i64 (asI (nthD sc (xix 0 (xnat ↑at') 1))), .int .u64 0, .int .u64 0, .int .u64 lv, .bool lh, .int .i64 lo, .int .u64 lv, .bool true, .int .i64 me], .bool true]) [some (.cells [.ptr 1 0, .int .i64 me, .int .u64 stm, .slo 2 0 nq 0, .slo 3 0 nc 0, .slo 4 0 ns 0, .slo 5 0 nt 0, .int .u64 lv, .bool lh, .int .i64 lo, .int .i64 ph, .int .i64 ↑at', .int .u64 now, .bool st, .int .i64 ve, .int .i64 vb, .int .i64 vr] none), some (.cells [.int .i64 me, .int .i64 su, .int .i64 en, .int .i64 bu, .int .i64 er] none), some (.cells qc (some 2)), some (.cells cc (some 2)), some (.cells sc (some 1)), some (.cells tc (some 3)), some (.cells [.int .i64 4, .int .i64 (asI (nthD sc (xix 0 (xnat ↑at') 1))), .int .u64 0, .int .u64 0, .int .u64 lv, .bool lh, .int .i64 lo, .int .u64 lv, .bool true, .int .i64 me] none), some (.cells [.int .i64 4, .int .i64 (asI (nthD sc (xix 0 (xnat ↑at') 1))), .int .u64 0, .int .u64 0, .int .u64 lv, .bool lh, .int .i64 lo, .int .u64 lv, .bool true, .int .i64 me] none), some (.cells [.int .u64 lv, .bool true, .int .i64 me] none)] [] else False else False else False else False else False else False else False)
 else (
 bif xcm .eql ph 2 then (
 K (.tup [.agg [.int .i64 6, .int .i64 0, .int .u64 0, .int .u64 0, .int .u64 0, .bool false, .int .i64 0, .int .u64 0, .bool false, .int .i64 0], .bool true]) [some (.cells [.ptr 1 0, .int .i64 me, .int .u64 stm, .slo 2 0 nq 0, .slo 3 0 nc 0, .slo 4 0 ns 0, .slo 5 0 nt 0, .int .u64 lv, .bool lh, .int .i64 lo, .int .i64 ph, .int .i64 ↑at', .int .u64 now, .bool st, .int .i64 ve, .int .i64 vb, .int .i64 vr] none), some (.cells [.int .i64 me, .int .i64 su, .int .i64 en, .int .i64 bu, .int .i64 er] none), some (.cells qc (some 2)), some (.cells cc (some 2)), some (.cells sc (some 1)), some (.cells tc (some 3)), some (.cells [.int .i64 6, .int .i64 0, .int .u64 0, .int .u64 0, .int .u64 0, .bool false, .int .i64 0, .int .u64 0, .bool false, .int .i64 0] none), some (.cells [.int .i64 6, .int .i64 0, .int .u64 0, .int .u64 0, .int .u64 0, .bool false, .int .i64 0, .int .u64 0, .bool false, .int .i64 0] none)] [])
 else (
 bif xcm .eql ph 3 then (
 K (.tup [.agg [.int .i64 7, .int .i64 0, .int .u64 now, .int .u64 (xar .add .u64 now 1), .int .u64 0, .bool false, .int .i64 0, .int .u64 0, .bool false, .int .i64 0], .bool true]) [some (.cells [.ptr 1 0, .int .i64 me, .int .u64 stm, .slo 2 0 nq 0, .slo 3 0 nc 0, .slo 4 0 ns 0, .slo 5 0 nt 0, .int .u64 lv, .bool lh, .int .i64 lo, .int .i64 ph, .int .i64 ↑at', .int .u64 now, .bool st, .int .i64 ve, .int .i64 vb, .int .i64 vr] none), some (.cells [.int .i64 me, .int .i64 su, .int .i64 en, .int .i64 bu, .int .i64 er] none), some (.cells qc (some 2)), some (.cells cc (some 2)), some (.cells sc (some 1)), some (.cells tc (some 3)), some (.cells [.int .i64 7, .int .i64 0, .int .u64 now, .int .u64 (xar .add .u64 now 1), .int .u64 0, .bool false, .int .i64 0, .int .u64 0, .bool false, .int .i64 0] none), some (.cells [.int .i64 7, .int .i64 0, .int .u64 now, .int .u64 (xar .add .u64 now 1), .int .u64 0, .bool false, .int .i64 0, .int .u64 0, .bool false, .int .i64 0] none)] [])
 else (
 bif xcm .eql ph 4 then (
 bif xle (xadd (xnat ↑at') 1) nq then bif xle (xadd (xix 0 (xnat ↑at') 2) 1) (xln qc) then bif isI .i64 (nthD qc (xix 0 (xnat ↑at') 2)) then
 K (.tup [.agg [.int .i64 3, .int .i64 (asI (nthD qc (xix 0 (xnat ↑at') 2))), .int .u64 0, .int .u64 0, .int .u64 0, .bool false, .int .i64 0, .int .u64 0, .bool false, .int .i64 0], .bool true]) [some (.cells [.ptr 1 0, .int .i64 me, .int .u64 stm, .slo 2 0 nq 0, .slo 3 0 nc 0, .slo 4 0 ns 0, .slo 5 0 nt 0, .int .u64 lv, .bool lh, .int .i64 lo, .int .i64 ph, .int .i64 ↑at', .int .u64 now, .bool st, .int .i64 ve, .int .i64 vb, .int .i64 vr] none), some (.cells [.int .i64 me, .int .i64 su, .int .i64 en, .int .i64 bu, .int .i64 er] none), some (.cells qc (some 2)), some (.cells cc (some 2)), some (.cells sc (some 1)), some (.cells tc (some 3)), some (.cells [.int .i64 3, .int .i64 (asI (nthD qc (xix 0 (xnat ↑at') 2))), .int .u64 0, .int .u64 0, .int .u64 0, .bool false, .int .i64 0, .int .u64 0, .bool false, .int .i64 0] none), some (.cells [.int .i64 3, .int .i64 (asI (nthD qc (xix 0 (xnat ↑at') 2))), .int .u64 0, .int .u64 0, .int .u64 0, .bool false, .int .i64 0, .int .u64 0, .bool false, .int .i64 0] none)] [] else False else False else False)
 else (
 bif xcm .eql ph 5 then (
 bif xle (xadd (xnat ↑at') 1) nc then bif xle (xadd (xix 0 (xnat ↑at') 2) 1) (xln cc) then bif isI .i64 (nthD cc (xix 0 (xnat ↑at') 2)) then bif xle (xadd (xnat ↑at') 1) nc then bif xle (xadd (xadd (xix 0 (xnat ↑at') 2) 1) 1) (xln cc) then bif isI .u64 (nthD cc (xadd (xix 0 (xnat ↑at') 2) 1)) then
 K (.tup [.agg [.int .i64 2, .int .i64 (asI (nthD cc (xix 0 (xnat ↑at') 2))), .int .u64 0, .int .u64 (asI (nthD cc (xadd (xix 0 (xnat ↑at') 2) 1))), .int .u64 0, .bool false, .int .i64 0, .int .u64 0, .bool false, .int .i64 0], .bool true]) [some (.cells [.ptr 1 0, .int .i64 me, .int .u64 stm, .slo 2 0 nq 0, .slo 3 0 nc 0, .slo 4 0 ns 0, .slo 5 0 nt 0, .int .u64 lv, .bool lh, .int .i64 lo, .int .i64 ph, .int .i64 ↑at', .int .u64 now, .bool st, .int .i64 ve, .int .i64 vb, .int .i64 vr] none), some (.cells [.int .i64 me, .int .i64 su, .int .i64 en, .int .i64 bu, .int .i64 er] none), some (.cells qc (some 2)), some (.cells cc (some 2)), some (.cells sc (some 1)), some (.cells tc (some 3)), some (.cells [.int .i64 2, .int .i64 (asI (nthD cc (xix 0 (xnat ↑at') 2))), .int .u64 0, .int .u64 (asI (nthD cc (xadd (xix 0 (xnat ↑at') 2) 1))), .int .u64 0, .bool false, .int .i64 0, .int .u64 0, .bool false, .int .i64 0] none), some (.cells [.int .i64 2, .int .i64 (asI (nthD cc (xix 0 (xnat ↑at') 2))), .int .u64 0, .int .u64 (asI (nthD cc (xadd (xix 0 (xnat ↑at') 2) 1))), .int .u64 0, .bool false, .int .i64 0, .int .u64 0, .bool false, .int .i64 0] none)] [] else False else False else False else False else False else False)
 else (
 bif xcm .eql ph 6 then (
 bif xcm .geq (xar .add .u64 now 1) 4611686018427387904 then (
 bif xle (xadd (xnat ↑at') 1) ns then bif xle (xadd (xix 0 (xnat ↑at') 1) 1) (xln sc) then bif isI .i64 (nthD sc (xix 0 (xnat ↑at') 1)) then
 K (.tup [.agg [.int .i64 5, .int .i64 (asI (nthD sc (xix 0 (xnat ↑at') 1))), .int .u64 0, .int .u64 0, .int .u64 0, .bool false, .int .i64 0, .int .u64 0, .bool false, .int .i64 0], .bool true]) [some (.cells [.ptr 1 0, .int .i64 me, .int .u64 stm, .slo 2 0 nq 0, .slo 3 0 nc 0, .slo 4 0 ns 0, .slo 5 0 nt 0, .int .u64 lv, .bool lh, .int .i64 lo, .int .i64 ph, .int .i64 ↑at', .int .u64 now, .bool st, .int .i64 ve, .int .i64 vb, .int .i64 vr] none), some (.cells [.int .i64 me, .int .i64 su, .int .i64 en, .int .i64 bu, .int .i64 er] none), some (.cells qc (some 2)), some (.cells cc (some 2)), some (.cells sc (some 1)), some (.cells tc (some 3)), some (.cells [.int .i64 5, .int .i64 (asI (nthD sc (xix 0 (xnat ↑at') 1))), .int .u64 0, .int .u64 0, .int .u64 0, .bool false, .int .i64 0, .int .u64 0, .bool false, .int .i64 0] none), some (.cells [.int .i64 5, .int .i64 (asI (nthD sc (xix 0 (xnat ↑at') 1))), .int .u64 0, .int .u64 0, .int .u64 0, .bool false, .int .i64 0, .int .u64 0, .bool false, .int .i64 0] none), some (.cells [.int .u64 0, .bool false, .int .i64 0] none), some (.cells [.int .u64 0, .bool false, .int .i64 0] none)] [] else False else False else False)
 else (
 bif xle (xadd (xnat ↑at') 1) ns then bif xle (xadd (xix 0 (xnat ↑at') 1) 1) (xln sc) then bif isI .i64 (nthD sc (xix 0 (xnat ↑at') 1)) then
 K (.tup [.agg [.int .i64 5, .int .i64 (asI (nthD sc (xix 0 (xnat ↑at') 1))), .int .u64 0, .int .u64 0, .int .u64 0, .bool false, .int .i64 0, .int .u64 (xar .add .u64 now 1), .bool false, .int .i64 0], .bool true]) [some (.cells [.ptr 1 0, .int .i64 me, .int .u64 stm, .slo 2 0 nq 0, .slo 3 0 nc 0, .slo 4 0 ns 0, .slo 5 0 nt 0, .int .u64 lv, .bool lh, .int .i64 lo, .int .i64 ph, .int .i64 ↑at', .int .u64 now, .bool st, .int .i64 ve, .int .i64 vb, .int .i64 vr] none), some (.cells [.int .i64 me, .int .i64 su, .int .i64 en, .int .i64 bu, .int .i64 er] none), some (.cells qc (some 2)), some (.cells cc (some 2)), some (.cells sc (some 1)), some (.cells tc (some 3)), some (.cells [.int .i64 5, .int .i64 (asI (nthD sc (xix 0 (xnat ↑at') 1))), .int .u64 0, .int .u64 0, .int .u64 0, .bool false, .int .i64 0, .int .u64 (xar .add .u64 now 1), .bool false, .int .i64 0] none), some (.cells [.int .i64 5, .int .i64 (asI (nthD sc (xix 0 (xnat ↑at') 1))), .int .u64 0, .int .u64 0, .int .u64 0, .bool false, .int .i64 0, .int .u64 (xar .add .u64 now 1), .bool false, .int .i64 0] none), some (.cells [.int .u64 (xar .add .u64 now 1), .bool false, .int .i64 0] none), some (.cells [.int .u64 (xar .add .u64 now 1), .bool false, .int .i64 0] none)] [] else False else False else False))
 else (
 bif xle (xadd (xnat ↑at') 1) ns then bif xle (xadd (xix 0 (xnat ↑at') 1) 1) (xln sc) then bif isI .i64 (nthD sc (xix 0 (xnat ↑at') 1)) then bif xle (xadd (xnat ↑at') 1) nt then bif xle (xadd (xix 0 (xnat ↑at') 3) 3) (xln tc) then bif isI .u64 (nthD tc (xix 0 (xnat ↑at') 3)) then bif isB (nthD tc (xadd (xix 0 (xnat ↑at') 3) 1)) then bif isI .i64 (nthD tc (xadd (xadd (xix 0 (xnat ↑at') 3) 1) 1)) then
 K (.tup [.agg [.int .i64 5, .int .i64 (asI (nthD sc (xix 0 (xnat ↑at') 1))), .int .u64 0, .int .u64 0, .int .u64 0, .bool false, .int .i64 0, .int .u64 (asI (nthD tc (xix 0 (xnat ↑at') 3))), .bool (asB (nthD tc (xadd (xix 0 (xnat ↑at') 3) 1))), .int .i64 (asI (nthD tc (xadd (xadd (xix 0 (xnat ↑at') 3) 1) 1)))], .bool true]) [some (.cells [.ptr 1 0, .int .i64 me, .int .u64 stm, .slo 2 0 nq 0, .slo 3 0 nc 0, .slo 4 0 ns 0, .slo 5 0 nt 0, .int .u64 lv, .bool lh, .int .i64 lo, .int .i64 ph, .int .i64 ↑at', .int .u64 now, .bool st, .int .i64 ve, .int .i64 vb, .int .i64 vr] none), some (.cells [.int .i64 me, .int .i64 su, .int .i64 en, .int .i64 bu, .int .i64 er] none), some (.cells qc (some 2)), some (.cells cc (some 2)), some (.cells sc (some 1)), some (.cells tc (some 3)), some (.cells [.int .i64 5, .int .i64 (asI (nthD sc (xix 0 (xnat ↑at') 1))), .int .u64 0, .int .u64 0, .int .u64 0, .bool false, .int .i64 0, .int .u64 (asI (nthD tc (xix 0 (xnat ↑at') 3))), .bool (asB (nthD tc (xadd (xix 0 (xnat ↑at') 3) 1))), .int .i64 (asI (nthD tc (xadd (xadd (xix 0 (xnat ↑at') 3) 1) 1)))] none), some (.cells [.int .i64 5, .int .i64 (asI (nthD sc (xix 0 (xnat ↑at') 1))), .int .u64 0, .int .u64 0, .int .u64 0, .bool false, .int .i64 0, .int .u64 (asI (nthD tc (xix 0 (xnat ↑at') 3))), .bool (asB (nthD tc (xadd (xix 0 (xnat ↑at') 3) 1))), .int .i64 (asI (nthD tc (xadd (xadd (xix 0 (xnat ↑at') 3) 1) 1)))] none)] [] else False else False else False else False else False else False else False else False))))))))) := by kernel_rfl
theorem getD_i {xs : List Int} {i : Nat} (h : i < xs.length) : xs.getD i 0 = xs[i] := by simp [List.getD_eq_getElem?_getD, h]
set_option maxHeartbeats 1000000 in
theorem next_ok (me stm : Int) (qs cs : List (Int × Int)) (ss : List Int) (s : CS) (hq : qs.length ≤ 1000000) (hcs : cs.length ≤ 1000000) (hs : ss.length ≤ 1000000) (hc : s.Ok qs.length cs.length ss.length) :
    SFun Go.Proofs.Try.prog 9 [.ptr 0 0] (mkS (cES me stm qs cs ss s)) fun l t => l = .tup [.agg (opL (opOf me qs cs ss s)), .bool (xcm .eql s.en 0)] ∧ t = mkS (cES me stm qs cs ss s) := by
  refine SFun.mono (SFun.vc (Q := fun l b => l = .tup [.agg (opL (opOf me qs cs ss s)), .bool (xcm .eql s.en 0)] ∧ b = cES me stm qs cs ss s) noCx_ok (n := 60) 6 rfl ?_) fun l s' ⟨b0, ⟨h1, h2⟩, h3⟩ => ⟨h1, by rw [h3, h2]⟩
  have nq := noids_c qs
  have nc := noids_c cs
  have nss := noIds_Ii64 ss
  have nt := noids_l s.tk
  obtain ⟨hsu, htk, hat, hgo⟩ := hc
  rw [nx_n]
  by_cases q0 : s.en = 0
  case neg =>
    have E : opOf me qs cs ss s = op0 := if_pos q0
    have z : xcm .eql s.en 0 = false := f_eql q0
    rw [E, z]
    (with_reducible repeat first | refine zq1 ?_ | refine zq2 ?_ | refine zq3 ?_ | refine zq4 ?_ | refine zq5 ?_ | refine zq6 ?_ | refine zq7 ?_ | refine zq8 ?_ | refine zq9 ?_ | refine zqa ?_ | refine zqb ?_ | refine zqc ?_ | refine zqd ?_ | refine zqe ?_ | refine zqf ?_ | refine zqg ?_ | refine zqh ?_ | refine zqi ?_ | refine zqj ?_ | refine zqk ?_ | refine zql ?_ | refine zqm ?_ | refine zqn ?_ | refine zqo ?_ | refine zqp ?_)
    exact ⟨rfl, _, _, [.id 0, .id 1, .id 2, .id 3, .id 4, .id 5], ⟨rfl, rfl⟩, by (refine ⟨by kernel_rfl, ?_, ?_⟩ <;> repeat first | exact okTms_nil | refine okTms_cons ?_ ?_ | exact okBlks_nil | refine okBlks_cons ?_ ?_ | exact lws_nil | refine lws_cons ?_ ?_ | exact lb_dead | exact zy1 | exact zy2 | exact lb_none | refine zy3 ?_ | exact zy4 | exact lw_any | exact lw_int | exact lw_bool | exact zy5 | exact zy6 | exact lw_nils | exact lw_slo_nils | exact zy7 | exact zy8 | exact zy9 | refine lw_tup ?_ | refine lw_agg ?_ | assumption)⟩
  obtain ⟨h5, h6, h8, h9, h10, h11, h12, h13, h14, h15⟩ := hgo q0
  have z : xcm .eql s.en 0 = true := t_eql q0
  rw [z]
  have E0 : opOf me qs cs ss s = if s.ph = 0 then ⟨3, ss.getD s.at' 0, 0, 0, d0, d0⟩
    else if s.ph = 1 then ⟨4, ss.getD s.at' 0, 0, 0, s.lk, (s.lk.1, true, me)⟩
    else if s.ph = 2 then ⟨6, 0, 0, 0, d0, d0⟩
    else if s.ph = 3 then ⟨7, 0, s.now, s.now + 1, d0, d0⟩
    else if s.ph = 4 then ⟨3, (qs.getD s.at' Lev.q0).1, 0, 0, d0, d0⟩
    else if s.ph = 5 then ⟨2, (cs.getD s.at' Lev.q0).1, 0, (cs.getD s.at' Lev.q0).2, d0, d0⟩
    else if s.ph = 6 then ⟨5, ss.getD s.at' 0, 0, 0, d0, (s.now + 1, false, 0)⟩
    else ⟨5, ss.getD s.at' 0, 0, 0, d0, s.tk.getD s.at' d0⟩ := by rw [opOf, if_neg (by simpa using q0)]
  rw [E0]
  clear E0
  by_cases p0 : s.ph = 0
  · obtain ⟨g1, g2⟩ := h6 (.inl p0)
    rw [if_pos p0, getD_i g2]
    simp only [wd_nat, wd_asV, wd_isV, wd_ix, wd_add, wd_mul, wd_ln, Nat.zero_add, Nat.mul_one, wd_isI, wd_asI, wd_isB, wd_asB, wd_nn, cI_tlen, cB_tlen, cII_tlen, decide_true, cond_true, wd_not_t, wd_not_f, wd_and_t, wd_and_f, encIi64_nth g2, encIi64_len, z]
    (with_reducible repeat first | refine zq1 ?_ | refine zq2 ?_ | refine zq3 ?_ | refine zq4 ?_ | refine zq5 ?_ | refine zq6 ?_ | refine zq7 ?_ | refine zq8 ?_ | refine zq9 ?_ | refine zqa ?_ | refine zqb ?_ | refine zqc ?_ | refine zqd ?_ | refine zqe ?_ | refine zqf ?_ | refine zqg ?_ | refine zqh ?_ | refine zqi ?_ | refine zqj ?_ | refine zqk ?_ | refine zql ?_ | refine zqm ?_ | refine zqn ?_ | refine zqo ?_ | refine zqp ?_)
    exact ⟨rfl, _, _, [.id 0, .id 1, .id 2, .id 3, .id 4, .id 5], ⟨rfl, rfl⟩, by (refine ⟨by kernel_rfl, ?_, ?_⟩ <;> repeat first | exact okTms_nil | refine okTms_cons ?_ ?_ | exact okBlks_nil | refine okBlks_cons ?_ ?_ | exact lws_nil | refine lws_cons ?_ ?_ | exact lb_dead | exact zy1 | exact zy2 | exact lb_none | refine zy3 ?_ | exact zy4 | exact lw_any | exact lw_int | exact lw_bool | exact zy5 | exact zy6 | exact lw_nils | exact lw_slo_nils | exact zy7 | exact zy8 | exact zy9 | refine lw_tup ?_ | refine lw_agg ?_ | assumption)⟩
  rw [if_neg p0]
  by_cases p1 : s.ph = 1
  · obtain ⟨g1, g2⟩ := h6 (.inr p1)
    rw [if_pos p1, getD_i g2]
    simp only [wd_nat, wd_asV, wd_isV, wd_ix, wd_add, wd_mul, wd_ln, Nat.zero_add, Nat.mul_one, wd_isI, wd_asI, wd_isB, wd_asB, wd_nn, cI_tlen, cB_tlen, cII_tlen, decide_true, cond_true, wd_not_t, wd_not_f, wd_and_t, wd_and_f, encIi64_nth g2, encIi64_len, z]
    (with_reducible repeat first | refine zq1 ?_ | refine zq2 ?_ | refine zq3 ?_ | refine zq4 ?_ | refine zq5 ?_ | refine zq6 ?_ | refine zq7 ?_ | refine zq8 ?_ | refine zq9 ?_ | refine zqa ?_ | refine zqb ?_ | refine zqc ?_ | refine zqd ?_ | refine zqe ?_ | refine zqf ?_ | refine zqg ?_ | refine zqh ?_ | refine zqi ?_ | refine zqj ?_ | refine zqk ?_ | refine zql ?_ | refine zqm ?_ | refine zqn ?_ | refine zqo ?_ | refine zqp ?_)
    exact ⟨rfl, _, _, [.id 0, .id 1, .id 2, .id 3, .id 4, .id 5], ⟨rfl, rfl⟩, by (refine ⟨by kernel_rfl, ?_, ?_⟩ <;> repeat first | exact okTms_nil | refine okTms_cons ?_ ?_ | exact okBlks_nil | refine okBlks_cons ?_ ?_ | exact lws_nil | refine lws_cons ?_ ?_ | exact lb_dead | exact zy1 | exact zy2 | exact lb_none | refine zy3 ?_ | exact zy4 | exact lw_any | exact lw_int | exact lw_bool | exact zy5 | exact zy6 | exact lw_nils | exact lw_slo_nils | exact zy7 | exact zy8 | exact zy9 | refine lw_tup ?_ | refine lw_agg ?_ | assumption)⟩
  rw [if_neg p1]
  by_cases p2 : s.ph = 2
  · rw [if_pos p2]
    simp only [wd_nat, wd_asV, wd_isV, wd_ix, wd_add, wd_mul, wd_ln, Nat.zero_add, Nat.mul_one, wd_isI, wd_asI, wd_isB, wd_asB, wd_nn, cI_tlen, cB_tlen, cII_tlen, decide_true, cond_true, wd_not_t, wd_not_f, wd_and_t, wd_and_f, z]
    (with_reducible repeat first | refine zq1 ?_ | refine zq2 ?_ | refine zq3 ?_ | refine zq4 ?_ | refine zq5 ?_ | refine zq6 ?_ | refine zq7 ?_ | refine zq8 ?_ | refine zq9 ?_ | refine zqa ?_ | refine zqb ?_ | refine zqc ?_ | refine zqd ?_ | refine zqe ?_ | refine zqf ?_ | refine zqg ?_ | refine zqh ?_ | refine zqi ?_ | refine zqj ?_ | refine zqk ?_ | refine zql ?_ | refine zqm ?_ | refine zqn ?_ | refine zqo ?_ | refine zqp ?_)
    exact ⟨rfl, _, _, [.id 0, .id 1, .id 2, .id 3, .id 4, .id 5], ⟨rfl, rfl⟩, by (refine ⟨by kernel_rfl, ?_, ?_⟩ <;> repeat first | exact okTms_nil | refine okTms_cons ?_ ?_ | exact okBlks_nil | refine okBlks_cons ?_ ?_ | exact lws_nil | refine lws_cons ?_ ?_ | exact lb_dead | exact zy1 | exact zy2 | exact lb_none | refine zy3 ?_ | exact zy4 | exact lw_any | exact lw_int | exact lw_bool | exact zy5 | exact zy6 | exact lw_nils | exact lw_slo_nils | exact zy7 | exact zy8 | exact zy9 | refine lw_tup ?_ | refine lw_agg ?_ | assumption)⟩
  rw [if_neg p2]
  by_cases p3 : s.ph = 3
  · obtain ⟨n1, n2⟩ := h13 (by omega) (by omega)
    have e1 : xar .add .u64 s.now 1 = s.now + 1 := by rw [xar_add]; exact wr_u64 (by omega) (by omega)
    rw [if_pos p3]
    simp only [wd_nat, wd_asV, wd_isV, wd_ix, wd_add, wd_mul, wd_ln, Nat.zero_add, Nat.mul_one, wd_isI, wd_asI, wd_isB, wd_asB, wd_nn, cI_tlen, cB_tlen, cII_tlen, decide_true, cond_true, wd_not_t, wd_not_f, wd_and_t, wd_and_f, z, e1]
    (with_reducible repeat first | refine zq1 ?_ | refine zq2 ?_ | refine zq3 ?_ | refine zq4 ?_ | refine zq5 ?_ | refine zq6 ?_ | refine zq7 ?_ | refine zq8 ?_ | refine zq9 ?_ | refine zqa ?_ | refine zqb ?_ | refine zqc ?_ | refine zqd ?_ | refine zqe ?_ | refine zqf ?_ | refine zqg ?_ | refine zqh ?_ | refine zqi ?_ | refine zqj ?_ | refine zqk ?_ | refine zql ?_ | refine zqm ?_ | refine zqn ?_ | refine zqo ?_ | refine zqp ?_)
    exact ⟨rfl, _, _, [.id 0, .id 1, .id 2, .id 3, .id 4, .id 5], ⟨rfl, rfl⟩, by (refine ⟨by kernel_rfl, ?_, ?_⟩ <;> repeat first | exact okTms_nil | refine okTms_cons ?_ ?_ | exact okBlks_nil | refine okBlks_cons ?_ ?_ | exact lws_nil | refine lws_cons ?_ ?_ | exact lb_dead | exact zy1 | exact zy2 | exact lb_none | refine zy3 ?_ | exact zy4 | exact lw_any | exact lw_int | exact lw_bool | exact zy5 | exact zy6 | exact lw_nils | exact lw_slo_nils | exact zy7 | exact zy8 | exact zy9 | refine lw_tup ?_ | refine lw_agg ?_ | assumption)⟩
  rw [if_neg p3]
  by_cases p4 : s.ph = 4
  · have g2 := h9 p4
    rw [if_pos p4, getD_q g2]
    simp only [wd_nat, wd_asV, wd_isV, wd_ix, wd_add, wd_mul, wd_ln, Nat.zero_add, Nat.mul_one, wd_isI, wd_asI, wd_isB, wd_asB, wd_nn, cI_tlen, cB_tlen, cII_tlen, decide_true, cond_true, wd_not_t, wd_not_f, wd_and_t, wd_and_f, cell_0 g2, cell_n, z]
    (with_reducible repeat first | refine zq1 ?_ | refine zq2 ?_ | refine zq3 ?_ | refine zq4 ?_ | refine zq5 ?_ | refine zq6 ?_ | refine zq7 ?_ | refine zq8 ?_ | refine zq9 ?_ | refine zqa ?_ | refine zqb ?_ | refine zqc ?_ | refine zqd ?_ | refine zqe ?_ | refine zqf ?_ | refine zqg ?_ | refine zqh ?_ | refine zqi ?_ | refine zqj ?_ | refine zqk ?_ | refine zql ?_ | refine zqm ?_ | refine zqn ?_ | refine zqo ?_ | refine zqp ?_)
    exact ⟨rfl, _, _, [.id 0, .id 1, .id 2, .id 3, .id 4, .id 5], ⟨rfl, rfl⟩, by (refine ⟨by kernel_rfl, ?_, ?_⟩ <;> repeat first | exact okTms_nil | refine okTms_cons ?_ ?_ | exact okBlks_nil | refine okBlks_cons ?_ ?_ | exact lws_nil | refine lws_cons ?_ ?_ | exact lb_dead | exact zy1 | exact zy2 | exact lb_none | refine zy3 ?_ | exact zy4 | exact lw_any | exact lw_int | exact lw_bool | exact zy5 | exact zy6 | exact lw_nils | exact lw_slo_nils | exact zy7 | exact zy8 | exact zy9 | refine lw_tup ?_ | refine lw_agg ?_ | assumption)⟩
  rw [if_neg p4]
  by_cases p5 : s.ph = 5
  · have g2 := h10 p5
    rw [if_pos p5, getD_q g2]
    simp only [wd_nat, wd_asV, wd_isV, wd_ix, wd_add, wd_mul, wd_ln, Nat.zero_add, Nat.mul_one, wd_isI, wd_asI, wd_isB, wd_asB, wd_nn, cI_tlen, cB_tlen, cII_tlen, decide_true, cond_true, wd_not_t, wd_not_f, wd_and_t, wd_and_f, Nat.add_assoc, Nat.reduceAdd, cell_0 g2, cell_1 g2, cell_n, z]
    (with_reducible repeat first | refine zq1 ?_ | refine zq2 ?_ | refine zq3 ?_ | refine zq4 ?_ | refine zq5 ?_ | refine zq6 ?_ | refine zq7 ?_ | refine zq8 ?_ | refine zq9 ?_ | refine zqa ?_ | refine zqb ?_ | refine zqc ?_ | refine zqd ?_ | refine zqe ?_ | refine zqf ?_ | refine zqg ?_ | refine zqh ?_ | refine zqi ?_ | refine zqj ?_ | refine zqk ?_ | refine zql ?_ | refine zqm ?_ | refine zqn ?_ | refine zqo ?_ | refine zqp ?_)
    exact ⟨rfl, _, _, [.id 0, .id 1, .id 2, .id 3, .id 4, .id 5], ⟨rfl, rfl⟩, by (refine ⟨by kernel_rfl, ?_, ?_⟩ <;> repeat first | exact okTms_nil | refine okTms_cons ?_ ?_ | exact okBlks_nil | refine okBlks_cons ?_ ?_ | exact lws_nil | refine lws_cons ?_ ?_ | exact lb_dead | exact zy1 | exact zy2 | exact lb_none | refine zy3 ?_ | exact zy4 | exact lw_any | exact lw_int | exact lw_bool | exact zy5 | exact zy6 | exact lw_nils | exact lw_slo_nils | exact zy7 | exact zy8 | exact zy9 | refine lw_tup ?_ | refine lw_agg ?_ | assumption)⟩
  rw [if_neg p5]
  by_cases p6 : s.ph = 6
  · obtain ⟨n1, n2⟩ := h13 (by omega) (by omega)
    have e1 : xar .add .u64 s.now 1 = s.now + 1 := by rw [xar_add]; exact wr_u64 (by omega) (by omega)
    have g1 := h12 (.inl p6)
    have g2 : s.at' < ss.length := by omega
    rw [if_pos p6, getD_i g2]
    simp only [wd_nat, wd_asV, wd_isV, wd_ix, wd_add, wd_mul, wd_ln, Nat.zero_add, Nat.mul_one, wd_isI, wd_asI, wd_isB, wd_asB, wd_nn, cI_tlen, cB_tlen, cII_tlen, decide_true, cond_true, wd_not_t, wd_not_f, wd_and_t, wd_and_f, encIi64_nth g2, encIi64_len, z, e1]
    (with_reducible repeat first | refine zq1 ?_ | refine zq2 ?_ | refine zq3 ?_ | refine zq4 ?_ | refine zq5 ?_ | refine zq6 ?_ | refine zq7 ?_ | refine zq8 ?_ | refine zq9 ?_ | refine zqa ?_ | refine zqb ?_ | refine zqc ?_ | refine zqd ?_ | refine zqe ?_ | refine zqf ?_ | refine zqg ?_ | refine zqh ?_ | refine zqi ?_ | refine zqj ?_ | refine zqk ?_ | refine zql ?_ | refine zqm ?_ | refine zqn ?_ | refine zqo ?_ | refine zqp ?_)
    exact ⟨rfl, _, _, [.id 0, .id 1, .id 2, .id 3, .id 4, .id 5], ⟨rfl, rfl⟩, by (refine ⟨by kernel_rfl, ?_, ?_⟩ <;> repeat first | exact okTms_nil | refine okTms_cons ?_ ?_ | exact okBlks_nil | refine okBlks_cons ?_ ?_ | exact lws_nil | refine lws_cons ?_ ?_ | exact lb_dead | exact zy1 | exact zy2 | exact lb_none | refine zy3 ?_ | exact zy4 | exact lw_any | exact lw_int | exact lw_bool | exact zy5 | exact zy6 | exact lw_nils | exact lw_slo_nils | exact zy7 | exact zy8 | exact zy9 | refine lw_tup ?_ | refine lw_agg ?_ | assumption)⟩
  rw [if_neg p6]
  have g1 := h12 (.inr (by omega))
  have g2 : s.at' < ss.length := by omega
  rw [getD_i g2, getD_l g1]
  simp only [wd_nat, wd_asV, wd_isV, wd_ix, wd_add, wd_mul, wd_ln, Nat.zero_add, Nat.mul_one, wd_isI, wd_asI, wd_isB, wd_asB, wd_nn, cI_tlen, cB_tlen, cII_tlen, decide_true, cond_true, wd_not_t, wd_not_f, wd_and_t, wd_and_f, Nat.add_assoc, Nat.reduceAdd, encIi64_nth g2, encIi64_len, lk_0 g1, lk_1 g1, lk_2 g1, lk_n, z]
  (with_reducible repeat first | refine zq1 ?_ | refine zq2 ?_ | refine zq3 ?_ | refine zq4 ?_ | refine zq5 ?_ | refine zq6 ?_ | refine zq7 ?_ | refine zq8 ?_ | refine zq9 ?_ | refine zqa ?_ | refine zqb ?_ | refine zqc ?_ | refine zqd ?_ | refine zqe ?_ | refine zqf ?_ | refine zqg ?_ | refine zqh ?_ | refine zqi ?_ | refine zqj ?_ | refine zqk ?_ | refine zql ?_ | refine zqm ?_ | refine zqn ?_ | refine zqo ?_ | refine zqp ?_)
  exact ⟨rfl, _, _, [.id 0, .id 1, .id 2, .id 3, .id 4, .id 5], ⟨rfl, rfl⟩, by (refine ⟨by kernel_rfl, ?_, ?_⟩ <;> repeat first | exact okTms_nil | refine okTms_cons ?_ ?_ | exact okBlks_nil | refine okBlks_cons ?_ ?_ | exact lws_nil | refine lws_cons ?_ ?_ | exact lb_dead | exact zy1 | exact zy2 | exact lb_none | refine zy3 ?_ | exact zy4 | exact lw_any | exact lw_int | exact lw_bool | exact zy5 | exact zy6 | exact lw_nils | exact lw_slo_nils | exact zy7 | exact zy8 | exact zy9 | refine lw_tup ?_ | refine lw_agg ?_ | assumption)⟩
end
end Go.Lev
