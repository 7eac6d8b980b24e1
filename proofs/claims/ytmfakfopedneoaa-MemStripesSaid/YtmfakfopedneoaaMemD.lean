/- The reference's memory: 'Do' of a lock's operation. -/


import Derived.Test.YtmfakfopedneoaaMemS
namespace Go.Proofs.Ytmfakfopedneoaa
open Go.ChangeShapes Go.WideShapes Go.ChangeAt Go.RowKit
open Go.ChangeMaps (open_string shut_string)
set_option linter.unusedVariables false
set_option maxHeartbeats 1000000 in
theorem do_out (B : Bl) (M : Ms) (k a old wd : Int) (was l : Lk) (w : World) (q : MemAt w B M) (hk : k = 3 ∨ k = 4 ∨ k = 5) (hr : inR B.nL a = false) : Calls Try.prog 42 #[ptr B.m, opV k a old wd was l] w (MemPost w B M (ansV 0 .zero false 2)) := by
  obtain ⟨lm, lW, lL, lS⟩ := q.lts
  obtain ⟨nm1, nm2, nm3, nm4, nm5, nm6⟩ := q.ne
  have c9 := q.c9
  have f9 := q.fm 9 (by decide)
  have n1 : ¬ w.heap.size = B.m := by omega
  have n2 : ¬ B.m = w.heap.size := by omega
  have n3 : ¬ w.heap.size = B.bL := by omega
  have n4 : ¬ B.bL = w.heap.size := by omega
  have n5 : ¬ w.heap.size + 1 = B.m := by omega
  have n6 : ¬ B.m = w.heap.size + 1 := by omega
  have n7 : ¬ w.heap.size + 1 = B.bL := by omega
  have n8 : ¬ B.bL = w.heap.size + 1 := by omega
  have n9 : ¬ B.bL = B.m := fun e => nm2 e.symm
  have n10 : ¬ w.heap.size + 1 + 1 = B.m := by omega
  have n11 : ¬ B.m = w.heap.size + 1 + 1 := by omega
  have n12 : ¬ w.heap.size + 1 + 1 = B.bL := by omega
  have n13 : ¬ B.bL = w.heap.size + 1 + 1 := by omega
  have l1 : B.bL < w.heap.size + 1 := by omega
  have l2 : B.bL < w.heap.size + 1 + 1 := by omega
  have l3 : B.bL < w.heap.size + 1 + 1 + 1 := by omega
  have l4 : B.bL < w.heap.size + 1 + 1 + 1 + 1 := by omega
  have l5 : B.bL < w.heap.size + 1 + 1 + 1 + 1 + 1 := by omega
  have m1 : B.m < w.heap.size + 1 := by omega
  have m2 : B.m < w.heap.size + 1 + 1 := by omega
  have m3 : B.m < w.heap.size + 1 + 1 + 1 := by omega
  have m4 : B.m < w.heap.size + 1 + 1 + 1 + 1 := by omega
  have m5 : B.m < w.heap.size + 1 + 1 + 1 + 1 + 1 := by omega
  have QQ := Lib.hid q
  have QA : ∀ o1 o2 o3 : Obj, MemAt (((w.alloc o1).alloc o2).alloc o3) B M := fun o1 o2 o3 => q.below ((((Below.refl _ _).alloc (Nat.le_refl _) _).alloc (by simp) _).alloc (by simp; omega) _)
  have LK0 : ∀ o1 o2 o3 : Obj, _ := fun o1 o2 o3 => lock_out B M k a old wd was l _ (QA o1 o2 o3) hr
  simp only [lkW, Bool.false_eq_true, if_false, Lk.zero] at LK0
  have LK := Lib.hid LK0
  clear LK0 QA nm1 nm2 nm3 nm4 nm5 nm6 q
  unfold Lk.zero
  rcases hk with rfl | rfl | rfl
  all_goals go_enter Try.func42, Try.ntmps42
            go_wp2_with (first | (go_at_call 59; (with_reducible refine (LK.out _ _ _).mono ?_); rintro e w1 ⟨nq, rfl, rfl⟩))
  all_goals refine bodyPost_ret (v := ansV 0 ⟨0, false, 0⟩ false 2) (by simp [results, Try.results42, go_sem]) rfl ⟨rfl, ?_, ?_⟩
  all_goals first | refine QQ.out.below ?_ | refine Only.of_below ?_
  all_goals repeat (first | (with_reducible assumption) | (with_reducible exact Below.refl _ _) | (with_reducible refine below_drewN ?_ _) | (with_reducible refine Below.setCell ?_ (by first | (simp; done) | (simp; omega)) _) | (with_reducible refine Below.alloc ?_ (by first | (simp; done) | (simp; omega)) _) | (with_reducible refine Below.drew ?_))
set_option maxHeartbeats 1000000 in
theorem do_bad (B : Bl) (M : Ms) (k a old wd : Int) (was l : Lk) (w : World) (q : MemAt w B M) (hk : k = 4 ∨ k = 5) (hr : inR B.nL a = true) (hl : isL l = false) : Calls Try.prog 42 #[ptr B.m, opV k a old wd was l] w (MemPost w B M (ansV 0 .zero false 1)) := by
  obtain ⟨lm, lW, lL, lS⟩ := q.lts
  obtain ⟨nm1, nm2, nm3, nm4, nm5, nm6⟩ := q.ne
  have c9 := q.c9
  have f9 := q.fm 9 (by decide)
  have n1 : ¬ w.heap.size = B.m := by omega
  have n2 : ¬ B.m = w.heap.size := by omega
  have n3 : ¬ w.heap.size = B.bL := by omega
  have n4 : ¬ B.bL = w.heap.size := by omega
  have n5 : ¬ w.heap.size + 1 = B.m := by omega
  have n6 : ¬ B.m = w.heap.size + 1 := by omega
  have n7 : ¬ w.heap.size + 1 = B.bL := by omega
  have n8 : ¬ B.bL = w.heap.size + 1 := by omega
  have n9 : ¬ B.bL = B.m := fun e => nm2 e.symm
  have n10 : ¬ w.heap.size + 1 + 1 = B.m := by omega
  have n11 : ¬ B.m = w.heap.size + 1 + 1 := by omega
  have n12 : ¬ w.heap.size + 1 + 1 = B.bL := by omega
  have n13 : ¬ B.bL = w.heap.size + 1 + 1 := by omega
  have l1 : B.bL < w.heap.size + 1 := by omega
  have l2 : B.bL < w.heap.size + 1 + 1 := by omega
  have l3 : B.bL < w.heap.size + 1 + 1 + 1 := by omega
  have l4 : B.bL < w.heap.size + 1 + 1 + 1 + 1 := by omega
  have l5 : B.bL < w.heap.size + 1 + 1 + 1 + 1 + 1 := by omega
  have m1 : B.m < w.heap.size + 1 := by omega
  have m2 : B.m < w.heap.size + 1 + 1 := by omega
  have m3 : B.m < w.heap.size + 1 + 1 + 1 := by omega
  have m4 : B.m < w.heap.size + 1 + 1 + 1 + 1 := by omega
  have m5 : B.m < w.heap.size + 1 + 1 + 1 + 1 + 1 := by omega
  have QQ := Lib.hid q
  have QA : ∀ o1 o2 o3 : Obj, MemAt (((w.alloc o1).alloc o2).alloc o3) B M := fun o1 o2 o3 => q.below ((((Below.refl _ _).alloc (Nat.le_refl _) _).alloc (by simp) _).alloc (by simp; omega) _)
  have LK0 : ∀ o1 o2 o3 : Obj, _ := fun o1 o2 o3 => lock_bad B M k a old wd was l _ (QA o1 o2 o3) hr (by rcases hk with rfl | rfl <;> rfl) hl
  simp only [lkW, if_true, Lk.zero] at LK0
  have LK := Lib.hid LK0
  clear LK0 QA nm1 nm2 nm3 nm4 nm5 nm6 q
  unfold Lk.zero
  rcases hk with rfl | rfl
  all_goals go_enter Try.func42, Try.ntmps42
            go_wp2_with (first | (go_at_call 59; (with_reducible refine (LK.out _ _ _).mono ?_); rintro e w1 ⟨nq, rfl, rfl⟩))
  all_goals refine bodyPost_ret (v := ansV 0 ⟨0, false, 0⟩ false 1) (by simp [results, Try.results42, go_sem]) rfl ⟨rfl, ?_, ?_⟩
  all_goals first | refine QQ.out.below ?_ | refine Only.of_below ?_
  all_goals repeat (first | (with_reducible assumption) | (with_reducible exact Below.refl _ _) | (with_reducible refine below_drewN ?_ _) | (with_reducible refine Below.setCell ?_ (by first | (simp; done) | (simp; omega)) _) | (with_reducible refine Below.alloc ?_ (by first | (simp; done) | (simp; omega)) _) | (with_reducible refine Below.drew ?_))
set_option maxHeartbeats 1000000 in
theorem do_load (B : Bl) (M : Ms) (a old wd : Int) (was l : Lk) (w : World) (q : MemAt w B M) (hr : inR B.nL a = true) : Calls Try.prog 42 #[ptr B.m, opV 3 a old wd was l] w (MemPost w B { M with C := wrap64 (M.C + 1) } (ansV 0 (M.L.getD a.toNat .zero) false 0)) := by
  obtain ⟨lm, lW, lL, lS⟩ := q.lts
  obtain ⟨nm1, nm2, nm3, nm4, nm5, nm6⟩ := q.ne
  have c9 := q.c9
  have f9 := q.fm 9 (by decide)
  have n1 : ¬ w.heap.size = B.m := by omega
  have n2 : ¬ B.m = w.heap.size := by omega
  have n3 : ¬ w.heap.size = B.bL := by omega
  have n4 : ¬ B.bL = w.heap.size := by omega
  have n5 : ¬ w.heap.size + 1 = B.m := by omega
  have n6 : ¬ B.m = w.heap.size + 1 := by omega
  have n7 : ¬ w.heap.size + 1 = B.bL := by omega
  have n8 : ¬ B.bL = w.heap.size + 1 := by omega
  have n9 : ¬ B.bL = B.m := fun e => nm2 e.symm
  have n10 : ¬ w.heap.size + 1 + 1 = B.m := by omega
  have n11 : ¬ B.m = w.heap.size + 1 + 1 := by omega
  have n12 : ¬ w.heap.size + 1 + 1 = B.bL := by omega
  have n13 : ¬ B.bL = w.heap.size + 1 + 1 := by omega
  have l1 : B.bL < w.heap.size + 1 := by omega
  have l2 : B.bL < w.heap.size + 1 + 1 := by omega
  have l3 : B.bL < w.heap.size + 1 + 1 + 1 := by omega
  have l4 : B.bL < w.heap.size + 1 + 1 + 1 + 1 := by omega
  have l5 : B.bL < w.heap.size + 1 + 1 + 1 + 1 + 1 := by omega
  have m1 : B.m < w.heap.size + 1 := by omega
  have m2 : B.m < w.heap.size + 1 + 1 := by omega
  have m3 : B.m < w.heap.size + 1 + 1 + 1 := by omega
  have m4 : B.m < w.heap.size + 1 + 1 + 1 + 1 := by omega
  have m5 : B.m < w.heap.size + 1 + 1 + 1 + 1 + 1 := by omega
  have QQ := Lib.hid q
  have QA : ∀ o1 o2 o3 : Obj, MemAt (((w.alloc o1).alloc o2).alloc o3) B M := fun o1 o2 o3 => q.below ((((Below.refl _ _).alloc (Nat.le_refl _) _).alloc (by simp) _).alloc (by simp; omega) _)
  have LK0 : ∀ o1 o2 o3 : Obj, _ := fun o1 o2 o3 => lock_load B M a old wd was l _ (QA o1 o2 o3) hr
  simp only [lkW, Bool.false_eq_true, if_false, Lk.zero] at LK0
  unfold Lk.zero
  generalize M.L.getD a.toNat _ = x at *
  have LK := Lib.hid LK0
  clear LK0 QA nm1 nm2 nm3 nm4 nm5 nm6 q
  go_enter Try.func42, Try.ntmps42
  go_wp2_with (first | (go_at_call 59; (with_reducible refine (LK.out _ _ _).mono ?_); rintro e w1 ⟨nq, rfl, rfl⟩))
  refine bodyPost_ret (v := ansV 0 x false 0) (by simp [results, Try.results42, go_sem]) rfl ⟨rfl, ?_, ?_⟩
  · refine (QQ.out.count _).below ?_
    repeat (first | (with_reducible assumption) | (with_reducible exact Below.refl _ _) | (with_reducible refine below_drewN ?_ _) | (with_reducible refine Below.setCell ?_ (by first | (simp; done) | (simp; omega)) _) | (with_reducible refine Below.alloc ?_ (by first | (simp; done) | (simp; omega)) _) | (with_reducible refine Below.drew ?_))
  · repeat (first | (with_reducible assumption) | (with_reducible exact Only.refl _ _) | (with_reducible refine Only.drewN ?_ _) | (with_reducible refine Only.drew ?_) | (with_reducible refine Only.alloc ?_ _) | (with_reducible refine Only.set ?_ _ _ (by first | (simp; done) | (simp [*]; done)) _) | (with_reducible refine Only.setNew ?_ _ (by first | (simp; done) | (simp; omega)) _))
set_option maxHeartbeats 1000000 in
theorem do_store (B : Bl) (M : Ms) (a old wd : Int) (was l : Lk) (w : World) (q : MemAt w B M) (hr : inR B.nL a = true) (hl : isL l = true) : Calls Try.prog 42 #[ptr B.m, opV 5 a old wd was l] w (MemPost w B { M with L := M.L.set a.toNat l, C := wrap64 (M.C + 1) } (ansV 0 .zero false 0)) := by
  obtain ⟨lm, lW, lL, lS⟩ := q.lts
  obtain ⟨nm1, nm2, nm3, nm4, nm5, nm6⟩ := q.ne
  have c9 := q.c9
  have f9 := q.fm 9 (by decide)
  have n1 : ¬ w.heap.size = B.m := by omega
  have n2 : ¬ B.m = w.heap.size := by omega
  have n3 : ¬ w.heap.size = B.bL := by omega
  have n4 : ¬ B.bL = w.heap.size := by omega
  have n5 : ¬ w.heap.size + 1 = B.m := by omega
  have n6 : ¬ B.m = w.heap.size + 1 := by omega
  have n7 : ¬ w.heap.size + 1 = B.bL := by omega
  have n8 : ¬ B.bL = w.heap.size + 1 := by omega
  have n9 : ¬ B.bL = B.m := fun e => nm2 e.symm
  have n10 : ¬ w.heap.size + 1 + 1 = B.m := by omega
  have n11 : ¬ B.m = w.heap.size + 1 + 1 := by omega
  have n12 : ¬ w.heap.size + 1 + 1 = B.bL := by omega
  have n13 : ¬ B.bL = w.heap.size + 1 + 1 := by omega
  have l1 : B.bL < w.heap.size + 1 := by omega
  have l2 : B.bL < w.heap.size + 1 + 1 := by omega
  have l3 : B.bL < w.heap.size + 1 + 1 + 1 := by omega
  have l4 : B.bL < w.heap.size + 1 + 1 + 1 + 1 := by omega
  have l5 : B.bL < w.heap.size + 1 + 1 + 1 + 1 + 1 := by omega
  have m1 : B.m < w.heap.size + 1 := by omega
  have m2 : B.m < w.heap.size + 1 + 1 := by omega
  have m3 : B.m < w.heap.size + 1 + 1 + 1 := by omega
  have m4 : B.m < w.heap.size + 1 + 1 + 1 + 1 := by omega
  have m5 : B.m < w.heap.size + 1 + 1 + 1 + 1 + 1 := by omega
  have QQ := Lib.hid q
  have QA : ∀ o1 o2 o3 : Obj, MemAt (((w.alloc o1).alloc o2).alloc o3) B M := fun o1 o2 o3 => q.below ((((Below.refl _ _).alloc (Nat.le_refl _) _).alloc (by simp) _).alloc (by simp; omega) _)
  obtain ⟨j, rfl⟩ := Int.eq_ofNat_of_zero_le (show 0 ≤ a by simp [inR] at hr; omega)
  have HJ : Hid (j < B.nL) := by show j < B.nL; simp [inR] at hr; omega
  have LK0 : ∀ o1 o2 o3 : Obj, _ := fun o1 o2 o3 => lock_store B M j old wd was l _ (QA o1 o2 o3) hr hl
  simp only [lkW, putL, if_true, Lk.zero, Int.toNat_natCast] at LK0
  rw [Int.toNat_natCast]
  unfold Lk.zero
  have LK := Lib.hid LK0
  clear LK0 QA nm1 nm2 nm3 nm4 nm5 nm6 q hr hl
  go_enter Try.func42, Try.ntmps42
  go_wp2_with (first | (go_at_call 59; (with_reducible refine (LK.out _ _ _).mono ?_); rintro e w1 ⟨nq, rfl, rfl⟩))
  refine bodyPost_ret (v := ansV 0 ⟨0, false, 0⟩ false 0) (by simp [results, Try.results42, go_sem]) rfl ⟨rfl, ?_, ?_⟩
  · have P := (QQ.out.putL j HJ.out l).count (wrap64 (M.C + 1))
    unfold putL at P
    refine P.below ?_
    repeat (first | (with_reducible assumption) | (with_reducible exact Below.refl _ _) | (with_reducible refine below_drewN ?_ _) | (with_reducible refine Below.setCell ?_ (by first | (simp; done) | (simp; omega)) _) | (with_reducible refine Below.alloc ?_ (by first | (simp; done) | (simp; omega)) _) | (with_reducible refine Below.drew ?_))
  · repeat (first | (with_reducible assumption) | (with_reducible exact Only.refl _ _) | (with_reducible refine Only.drewN ?_ _) | (with_reducible refine Only.drew ?_) | (with_reducible refine Only.alloc ?_ _) | (with_reducible refine Only.set ?_ _ _ (by first | (simp; done) | (simp [*]; done)) _) | (with_reducible refine Only.setNew ?_ _ (by first | (simp; done) | (simp; omega)) _))
set_option maxHeartbeats 1000000 in
theorem do_cas_yes (B : Bl) (M : Ms) (a old wd : Int) (l : Lk) (w : World) (q : MemAt w B M) (hr : inR B.nL a = true) (hl : isL l = true) : Calls Try.prog 42 #[ptr B.m, opV 4 a old wd (M.L.getD a.toNat .zero) l] w (MemPost w B { M with L := M.L.set a.toNat l, C := wrap64 (M.C + 1) } (ansV 0 .zero true 0)) := by
  obtain ⟨lm, lW, lL, lS⟩ := q.lts
  obtain ⟨nm1, nm2, nm3, nm4, nm5, nm6⟩ := q.ne
  have c9 := q.c9
  have f9 := q.fm 9 (by decide)
  have n1 : ¬ w.heap.size = B.m := by omega
  have n2 : ¬ B.m = w.heap.size := by omega
  have n3 : ¬ w.heap.size = B.bL := by omega
  have n4 : ¬ B.bL = w.heap.size := by omega
  have n5 : ¬ w.heap.size + 1 = B.m := by omega
  have n6 : ¬ B.m = w.heap.size + 1 := by omega
  have n7 : ¬ w.heap.size + 1 = B.bL := by omega
  have n8 : ¬ B.bL = w.heap.size + 1 := by omega
  have n9 : ¬ B.bL = B.m := fun e => nm2 e.symm
  have n10 : ¬ w.heap.size + 1 + 1 = B.m := by omega
  have n11 : ¬ B.m = w.heap.size + 1 + 1 := by omega
  have n12 : ¬ w.heap.size + 1 + 1 = B.bL := by omega
  have n13 : ¬ B.bL = w.heap.size + 1 + 1 := by omega
  have l1 : B.bL < w.heap.size + 1 := by omega
  have l2 : B.bL < w.heap.size + 1 + 1 := by omega
  have l3 : B.bL < w.heap.size + 1 + 1 + 1 := by omega
  have l4 : B.bL < w.heap.size + 1 + 1 + 1 + 1 := by omega
  have l5 : B.bL < w.heap.size + 1 + 1 + 1 + 1 + 1 := by omega
  have m1 : B.m < w.heap.size + 1 := by omega
  have m2 : B.m < w.heap.size + 1 + 1 := by omega
  have m3 : B.m < w.heap.size + 1 + 1 + 1 := by omega
  have m4 : B.m < w.heap.size + 1 + 1 + 1 + 1 := by omega
  have m5 : B.m < w.heap.size + 1 + 1 + 1 + 1 + 1 := by omega
  have QQ := Lib.hid q
  have QA : ∀ o1 o2 o3 : Obj, MemAt (((w.alloc o1).alloc o2).alloc o3) B M := fun o1 o2 o3 => q.below ((((Below.refl _ _).alloc (Nat.le_refl _) _).alloc (by simp) _).alloc (by simp; omega) _)
  obtain ⟨j, rfl⟩ := Int.eq_ofNat_of_zero_le (show 0 ≤ a by simp [inR] at hr; omega)
  have HJ : Hid (j < B.nL) := by show j < B.nL; simp [inR] at hr; omega
  have LK0 : ∀ o1 o2 o3 : Obj, _ := fun o1 o2 o3 => lock_cas_yes B M j old wd l _ (QA o1 o2 o3) hr hl
  simp only [lkW, putL, if_true, Lk.zero, Int.toNat_natCast] at LK0
  rw [Int.toNat_natCast]
  unfold Lk.zero
  generalize M.L.getD j _ = x at *
  have LK := Lib.hid LK0
  clear LK0 QA nm1 nm2 nm3 nm4 nm5 nm6 q hr hl
  go_enter Try.func42, Try.ntmps42
  go_wp2_with (first | (go_at_call 59; (with_reducible refine (LK.out _ _ _).mono ?_); rintro e w1 ⟨nq, rfl, rfl⟩))
  refine bodyPost_ret (v := ansV 0 ⟨0, false, 0⟩ true 0) (by simp [results, Try.results42, go_sem]) rfl ⟨rfl, ?_, ?_⟩
  · have P := (QQ.out.putL j HJ.out l).count (wrap64 (M.C + 1))
    unfold putL at P
    refine P.below ?_
    repeat (first | (with_reducible assumption) | (with_reducible exact Below.refl _ _) | (with_reducible refine below_drewN ?_ _) | (with_reducible refine Below.setCell ?_ (by first | (simp; done) | (simp; omega)) _) | (with_reducible refine Below.alloc ?_ (by first | (simp; done) | (simp; omega)) _) | (with_reducible refine Below.drew ?_))
  · repeat (first | (with_reducible assumption) | (with_reducible exact Only.refl _ _) | (with_reducible refine Only.drewN ?_ _) | (with_reducible refine Only.drew ?_) | (with_reducible refine Only.alloc ?_ _) | (with_reducible refine Only.set ?_ _ _ (by first | (simp; done) | (simp [*]; done)) _) | (with_reducible refine Only.setNew ?_ _ (by first | (simp; done) | (simp; omega)) _))
set_option maxHeartbeats 1000000 in
theorem do_cas_no (B : Bl) (M : Ms) (a old wd : Int) (was l : Lk) (w : World) (q : MemAt w B M) (hr : inR B.nL a = true) (hl : isL l = true) (hw : M.L.getD a.toNat .zero ≠ was) : Calls Try.prog 42 #[ptr B.m, opV 4 a old wd was l] w (MemPost w B { M with C := wrap64 (M.C + 1) } (ansV 0 .zero false 0)) := by
  obtain ⟨lm, lW, lL, lS⟩ := q.lts
  obtain ⟨nm1, nm2, nm3, nm4, nm5, nm6⟩ := q.ne
  have c9 := q.c9
  have f9 := q.fm 9 (by decide)
  have n1 : ¬ w.heap.size = B.m := by omega
  have n2 : ¬ B.m = w.heap.size := by omega
  have n3 : ¬ w.heap.size = B.bL := by omega
  have n4 : ¬ B.bL = w.heap.size := by omega
  have n5 : ¬ w.heap.size + 1 = B.m := by omega
  have n6 : ¬ B.m = w.heap.size + 1 := by omega
  have n7 : ¬ w.heap.size + 1 = B.bL := by omega
  have n8 : ¬ B.bL = w.heap.size + 1 := by omega
  have n9 : ¬ B.bL = B.m := fun e => nm2 e.symm
  have n10 : ¬ w.heap.size + 1 + 1 = B.m := by omega
  have n11 : ¬ B.m = w.heap.size + 1 + 1 := by omega
  have n12 : ¬ w.heap.size + 1 + 1 = B.bL := by omega
  have n13 : ¬ B.bL = w.heap.size + 1 + 1 := by omega
  have l1 : B.bL < w.heap.size + 1 := by omega
  have l2 : B.bL < w.heap.size + 1 + 1 := by omega
  have l3 : B.bL < w.heap.size + 1 + 1 + 1 := by omega
  have l4 : B.bL < w.heap.size + 1 + 1 + 1 + 1 := by omega
  have l5 : B.bL < w.heap.size + 1 + 1 + 1 + 1 + 1 := by omega
  have m1 : B.m < w.heap.size + 1 := by omega
  have m2 : B.m < w.heap.size + 1 + 1 := by omega
  have m3 : B.m < w.heap.size + 1 + 1 + 1 := by omega
  have m4 : B.m < w.heap.size + 1 + 1 + 1 + 1 := by omega
  have m5 : B.m < w.heap.size + 1 + 1 + 1 + 1 + 1 := by omega
  have QQ := Lib.hid q
  have QA : ∀ o1 o2 o3 : Obj, MemAt (((w.alloc o1).alloc o2).alloc o3) B M := fun o1 o2 o3 => q.below ((((Below.refl _ _).alloc (Nat.le_refl _) _).alloc (by simp) _).alloc (by simp; omega) _)
  have LK0 : ∀ o1 o2 o3 : Obj, _ := fun o1 o2 o3 => lock_cas_no B M a old wd was l _ (QA o1 o2 o3) hr hl hw
  simp only [lkW, if_true, Lk.zero] at LK0
  unfold Lk.zero
  have LK := Lib.hid LK0
  clear LK0 QA nm1 nm2 nm3 nm4 nm5 nm6 q hw hr hl
  go_enter Try.func42, Try.ntmps42
  go_wp2_with (first | (go_at_call 59; (with_reducible refine (LK.out _ _ _).mono ?_); rintro e w1 ⟨nq, rfl, rfl⟩))
  refine bodyPost_ret (v := ansV 0 ⟨0, false, 0⟩ false 0) (by simp [results, Try.results42, go_sem]) rfl ⟨rfl, ?_, ?_⟩
  · refine (QQ.out.count _).below ?_
    repeat (first | (with_reducible assumption) | (with_reducible exact Below.refl _ _) | (with_reducible refine below_drewN ?_ _) | (with_reducible refine Below.setCell ?_ (by first | (simp; done) | (simp; omega)) _) | (with_reducible refine Below.alloc ?_ (by first | (simp; done) | (simp; omega)) _) | (with_reducible refine Below.drew ?_))
  · repeat (first | (with_reducible assumption) | (with_reducible exact Only.refl _ _) | (with_reducible refine Only.drewN ?_ _) | (with_reducible refine Only.drew ?_) | (with_reducible refine Only.alloc ?_ _) | (with_reducible refine Only.set ?_ _ _ (by first | (simp; done) | (simp [*]; done)) _) | (with_reducible refine Only.setNew ?_ _ (by first | (simp; done) | (simp; omega)) _))
end Go.Proofs.Ytmfakfopedneoaa
