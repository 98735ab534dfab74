import Derived.Test.YtoogdidgcclmnaaGreatDoorAlive
import Derived.Test.YtoogdidgcclmnaaGreatDoorKeyc
namespace Go.Proofs.YtoogdidgcclmnaaGreatDoor.alv
open Go.ChangeShapes Go.WideShapes Go.ChangeAt Go.RowKit
set_option linter.unusedVariables false
attribute [local go_sem] x_frombits x_bits x_nan

theorem cmp_lt {a b : Nat} (h : keyN a < keyN b) : cmpN a b = -1 := by simp [cmpN, h]
theorem cmp_gt {a b : Nat} (h : keyN b < keyN a) : cmpN a b = 1 := by
  have h' : ¬ keyN a < keyN b := by omega
  simp [cmpN, h, h']
theorem cmp_eq {a b : Nat} (h : keyN a = keyN b) : cmpN a b = 0 := by simp [cmpN, h]
theorem top_lt {a b : Nat} (h : keyN a < keyN b) : topN a b = b := by simp [topN, h]
theorem top_ge {a b : Nat} (h : keyN b ≤ keyN a) : topN a b = a := by
  have h' : ¬ keyN a < keyN b := by omega
  simp [topN, h']
theorem key_inf_le (a : Nat) (ha : a < 18446744073709551616) : keyN 18442240474082181120 ≤ keyN a := by
  rw [show keyN 18442240474082181120 = 4503599627370495 from by decide +kernel]
  unfold keyN nanB negB
  simp only [decide_eq_true_eq]
  repeat' split
  all_goals omega
theorem key_nan_ge (a : Nat) (ha : a < 18446744073709551616) : keyN a ≤ keyN 9221120237041090561 := by
  rw [show keyN 9221120237041090561 = 18446744073709551615 from by decide +kernel]
  have := keyN_lt a ha
  omega
theorem cmp_low (a : Nat) (w : World) (ha : a < 18446744073709551616) : ∃ c : Int, c ≤ 0 ∧ -1 ≤ c ∧ ∀ w, Calls Tryz.prog 11 #[.float .f64 18442240474082181120, .float .f64 a] w fun e w' => e = .returned (.int .i64 c) ∧ w = w' := by
  refine ⟨cmpN 18442240474082181120 a, ?_, ?_, fun w => cmp_any _ _ w (by decide) ha⟩
  · have := key_inf_le a ha
    unfold cmpN; split
    · omega
    · split
      · omega
      · omega
  · unfold cmpN; split
    · omega
    · split <;> omega
theorem cmp_high (a : Nat) (w : World) (ha : a < 18446744073709551616) : ∃ c : Int, c ≤ 0 ∧ -1 ≤ c ∧ ∀ w, Calls Tryz.prog 11 #[.float .f64 a, .float .f64 9221120237041090561] w fun e w' => e = .returned (.int .i64 c) ∧ w = w' := by
  refine ⟨cmpN a 9221120237041090561, ?_, ?_, fun w => cmp_any _ _ w ha (by decide)⟩
  · have := key_nan_ge a ha
    unfold cmpN; split
    · omega
    · split
      · omega
      · omega
  · unfold cmpN; split
    · omega
    · split <;> omega
theorem an_0 : bits .andNot .u64 0 9223372036854775808 = 0 := by decide +kernel
theorem an_1 : bits .and .u64 13830554455654793216 9223372036854775808 = 9223372036854775808 := by decide +kernel
theorem an_2 : bits .or .u64 0 9223372036854775808 = 9223372036854775808 := by decide +kernel
attribute [local go_sem] an_0 an_1 an_2
set_option maxRecDepth 100000 in
theorem f_inf (w : World) : Calls Tryz.prog 22 #[.int .i64 (-1)] w fun e w' => e = .returned (.float .f64 18442240474082181120) ∧ w = w' := by
  go_enter Tryz.func22, Tryz.ntmps22
  go_wp2
  go_ret
  exact ⟨rfl, rfl⟩
set_option maxRecDepth 100000 in
theorem f_nan (w : World) : Calls Tryz.prog 23 #[] w fun e w' => e = .returned (.float .f64 9221120237041090561) ∧ w = w' := by
  go_enter Tryz.func23, Tryz.ntmps23
  go_wp2
  go_ret
  exact ⟨rfl, rfl⟩
set_option maxRecDepth 100000 in
theorem f_cs (w : World) : Calls Tryz.prog 24 #[.float .f64 0, .float .f64 13830554455654793216] w fun e w' => e = .returned (.float .f64 9223372036854775808) ∧ w = w' := by
  go_enter Tryz.func24, Tryz.ntmps24
  go_wp2
  go_ret
  exact ⟨rfl, rfl⟩
set_option maxRecDepth 100000 in
set_option maxHeartbeats 8000000 in
theorem line_core (a b c p t q r : Nat) (x1 x2 x3 x4 c1 c2 y1 y2 y3 : Int) (w : World) (g off : Nat) (hv : Vars w g off)
    (l1 : (∀ w, Calls Tryz.prog 11 #[.float .f64 a, .float .f64 a] w fun e w' => e = .returned (.int .i64 0) ∧ w = w')) (l2 : (∀ w, Calls Tryz.prog 11 #[.float .f64 a, .float .f64 b] w fun e w' => e = .returned (.int .i64 x1) ∧ w = w')) (l3 : (∀ w, Calls Tryz.prog 11 #[.float .f64 b, .float .f64 a] w fun e w' => e = .returned (.int .i64 x2) ∧ w = w')) (l4 : (∀ w, Calls Tryz.prog 11 #[.float .f64 b, .float .f64 c] w fun e w' => e = .returned (.int .i64 x3) ∧ w = w')) (l5 : (∀ w, Calls Tryz.prog 11 #[.float .f64 a, .float .f64 c] w fun e w' => e = .returned (.int .i64 x4) ∧ w = w')) (m1 : (∀ w, Calls Tryz.prog 11 #[.float .f64 18442240474082181120, .float .f64 a] w fun e w' => e = .returned (.int .i64 c1) ∧ w = w')) (m2 : (∀ w, Calls Tryz.prog 11 #[.float .f64 a, .float .f64 9221120237041090561] w fun e w' => e = .returned (.int .i64 c2) ∧ w = w')) (t1 : (∀ w, Calls Tryz.prog 14 #[.float .f64 a, .float .f64 b] w fun e w' => e = .returned (.float .f64 p) ∧ w = w')) (t2 : (∀ w, Calls Tryz.prog 14 #[.float .f64 p, .float .f64 c] w fun e w' => e = .returned (.float .f64 t) ∧ w = w')) (t3 : (∀ w, Calls Tryz.prog 14 #[.float .f64 b, .float .f64 c] w fun e w' => e = .returned (.float .f64 q) ∧ w = w')) (t4 : (∀ w, Calls Tryz.prog 14 #[.float .f64 a, .float .f64 q] w fun e w' => e = .returned (.float .f64 r) ∧ w = w')) (s1 : (∀ w, Calls Tryz.prog 12 #[.float .f64 t, .float .f64 r] w fun e w' => e = .returned (.bool true) ∧ w = w')) (r1 : (∀ w, Calls Tryz.prog 11 #[.float .f64 a, .float .f64 t] w fun e w' => e = .returned (.int .i64 y1) ∧ w = w')) (r2 : (∀ w, Calls Tryz.prog 11 #[.float .f64 b, .float .f64 t] w fun e w' => e = .returned (.int .i64 y2) ∧ w = w')) (r3 : (∀ w, Calls Tryz.prog 11 #[.float .f64 c, .float .f64 t] w fun e w' => e = .returned (.int .i64 y3) ∧ w = w'))
    (u1 : c1 ≤ 0) (u2 : -1 ≤ c1) (u3 : c2 ≤ 0) (u4 : -1 ≤ c2) (b1 : -1 ≤ x1) (b1' : x1 ≤ 1) (b2 : -1 ≤ x2) (b2' : x2 ≤ 1) (b3 : -1 ≤ x3) (b3' : x3 ≤ 1) (b4 : -1 ≤ x4) (b4' : x4 ≤ 1)
    (v1 : -1 ≤ y1) (v1' : y1 ≤ 0) (v2 : -1 ≤ y2) (v2' : y2 ≤ 0) (v3 : -1 ≤ y3) (v3' : y3 ≤ 0) (hs1 : x1 + x2 ≤ 0) (hs2 : 0 ≤ x1 + x2) (htr : x1 ≤ 0 → x3 ≤ 0 → x4 ≤ 0) (hfl : (FloatKind.f64.format.order a b == some .lt) = true → x1 = -1) :
    Calls Tryz.prog 6 #[.int .u64 a, .int .u64 b, .int .u64 c] w fun e w' => e = .returned (.bool true) ∧ Below w.heap.size w w' := by
  have L1 := Lib.hid l1
  have L2 := Lib.hid l2
  have L3 := Lib.hid l3
  have L4 := Lib.hid l4
  have L5 := Lib.hid l5
  have M1 := Lib.hid m1
  have M2 := Lib.hid m2
  have T1 := Lib.hid t1
  have T2 := Lib.hid t2
  have T3 := Lib.hid t3
  have T4 := Lib.hid t4
  have S1 := Lib.hid s1
  have R1 := Lib.hid r1
  have R2 := Lib.hid r2
  have R3 := Lib.hid r3
  clear l1 l2 l3 l4 l5 m1 m2 t1 t2 t3 t4 s1 r1 r2 r3
  have Z1 := Lib.hid c_1
  by_cases g1 : x1 ≤ 0
  · by_cases g2 : x3 ≤ 0
    · have g3 := htr g1 g2
      clear htr
      cases hq : (FloatKind.f64.format.order a b == some .lt)
      · clear hfl
        go_enter Tryz.func6, Tryz.ntmps6
        go_wp2_with fail
        refine (alive_any w g off hv).mono ?_
        rintro e w1 ⟨rfl, hb1⟩
        go_wp2_with fail
        refine (L1.out _).mono ?_
        rintro e w2 ⟨rfl, rfl⟩
        go_wp2_with fail
        refine (L2.out _).mono ?_
        rintro e w2 ⟨rfl, rfl⟩
        go_wp2_with fail
        refine (L3.out _).mono ?_
        rintro e w2 ⟨rfl, rfl⟩
        go_wp2_with fail
        refine (L2.out _).mono ?_
        rintro e w2 ⟨rfl, rfl⟩
        go_wp2_with fail
        refine (L4.out _).mono ?_
        rintro e w2 ⟨rfl, rfl⟩
        go_wp2_with fail
        refine (L5.out _).mono ?_
        rintro e w2 ⟨rfl, rfl⟩
        go_wp2_with fail
        refine (f_inf _).mono ?_
        rintro e w2 ⟨rfl, rfl⟩
        go_wp2_with fail
        refine (M1.out _).mono ?_
        rintro e w2 ⟨rfl, rfl⟩
        go_wp2_with fail
        refine (f_nan _).mono ?_
        rintro e w2 ⟨rfl, rfl⟩
        go_wp2_with fail
        refine (M2.out _).mono ?_
        rintro e w2 ⟨rfl, rfl⟩
        go_wp2_with fail
        refine (T1.out _).mono ?_
        rintro e w2 ⟨rfl, rfl⟩
        go_wp2_with fail
        refine (T2.out _).mono ?_
        rintro e w2 ⟨rfl, rfl⟩
        go_wp2_with fail
        refine (R1.out _).mono ?_
        rintro e w2 ⟨rfl, rfl⟩
        go_wp2_with fail
        refine (R2.out _).mono ?_
        rintro e w2 ⟨rfl, rfl⟩
        go_wp2_with fail
        refine (R3.out _).mono ?_
        rintro e w2 ⟨rfl, rfl⟩
        go_wp2_with fail
        refine (T3.out _).mono ?_
        rintro e w2 ⟨rfl, rfl⟩
        go_wp2_with fail
        refine (T4.out _).mono ?_
        rintro e w2 ⟨rfl, rfl⟩
        go_wp2_with fail
        refine (S1.out _).mono ?_
        rintro e w2 ⟨rfl, rfl⟩
        go_wp2_with fail
        refine (f_cs _).mono ?_
        rintro e w2 ⟨rfl, rfl⟩
        go_wp2_with fail
        refine (Z1.out _).mono ?_
        rintro e w2 ⟨rfl, rfl⟩
        go_wp2_with fail
        go_ret
        exact ⟨rfl, hb1⟩
      · have hx := hfl hq
        clear hfl
        subst hx
        go_enter Tryz.func6, Tryz.ntmps6
        go_wp2_with fail
        refine (alive_any w g off hv).mono ?_
        rintro e w1 ⟨rfl, hb1⟩
        go_wp2_with fail
        refine (L1.out _).mono ?_
        rintro e w2 ⟨rfl, rfl⟩
        go_wp2_with fail
        refine (L2.out _).mono ?_
        rintro e w2 ⟨rfl, rfl⟩
        go_wp2_with fail
        refine (L3.out _).mono ?_
        rintro e w2 ⟨rfl, rfl⟩
        go_wp2_with fail
        refine (L2.out _).mono ?_
        rintro e w2 ⟨rfl, rfl⟩
        go_wp2_with fail
        refine (L4.out _).mono ?_
        rintro e w2 ⟨rfl, rfl⟩
        go_wp2_with fail
        refine (L5.out _).mono ?_
        rintro e w2 ⟨rfl, rfl⟩
        go_wp2_with fail
        refine (f_inf _).mono ?_
        rintro e w2 ⟨rfl, rfl⟩
        go_wp2_with fail
        refine (M1.out _).mono ?_
        rintro e w2 ⟨rfl, rfl⟩
        go_wp2_with fail
        refine (f_nan _).mono ?_
        rintro e w2 ⟨rfl, rfl⟩
        go_wp2_with fail
        refine (M2.out _).mono ?_
        rintro e w2 ⟨rfl, rfl⟩
        go_wp2_with fail
        refine (L2.out _).mono ?_
        rintro e w2 ⟨rfl, rfl⟩
        go_wp2_with fail
        refine (T1.out _).mono ?_
        rintro e w2 ⟨rfl, rfl⟩
        go_wp2_with fail
        refine (T2.out _).mono ?_
        rintro e w2 ⟨rfl, rfl⟩
        go_wp2_with fail
        refine (R1.out _).mono ?_
        rintro e w2 ⟨rfl, rfl⟩
        go_wp2_with fail
        refine (R2.out _).mono ?_
        rintro e w2 ⟨rfl, rfl⟩
        go_wp2_with fail
        refine (R3.out _).mono ?_
        rintro e w2 ⟨rfl, rfl⟩
        go_wp2_with fail
        refine (T3.out _).mono ?_
        rintro e w2 ⟨rfl, rfl⟩
        go_wp2_with fail
        refine (T4.out _).mono ?_
        rintro e w2 ⟨rfl, rfl⟩
        go_wp2_with fail
        refine (S1.out _).mono ?_
        rintro e w2 ⟨rfl, rfl⟩
        go_wp2_with fail
        refine (f_cs _).mono ?_
        rintro e w2 ⟨rfl, rfl⟩
        go_wp2_with fail
        refine (Z1.out _).mono ?_
        rintro e w2 ⟨rfl, rfl⟩
        go_wp2_with fail
        go_ret
        exact ⟨rfl, hb1⟩
    · clear htr
      cases hq : (FloatKind.f64.format.order a b == some .lt)
      · clear hfl
        go_enter Tryz.func6, Tryz.ntmps6
        go_wp2_with fail
        refine (alive_any w g off hv).mono ?_
        rintro e w1 ⟨rfl, hb1⟩
        go_wp2_with fail
        refine (L1.out _).mono ?_
        rintro e w2 ⟨rfl, rfl⟩
        go_wp2_with fail
        refine (L2.out _).mono ?_
        rintro e w2 ⟨rfl, rfl⟩
        go_wp2_with fail
        refine (L3.out _).mono ?_
        rintro e w2 ⟨rfl, rfl⟩
        go_wp2_with fail
        refine (L2.out _).mono ?_
        rintro e w2 ⟨rfl, rfl⟩
        go_wp2_with fail
        refine (L4.out _).mono ?_
        rintro e w2 ⟨rfl, rfl⟩
        go_wp2_with fail
        refine (f_inf _).mono ?_
        rintro e w2 ⟨rfl, rfl⟩
        go_wp2_with fail
        refine (M1.out _).mono ?_
        rintro e w2 ⟨rfl, rfl⟩
        go_wp2_with fail
        refine (f_nan _).mono ?_
        rintro e w2 ⟨rfl, rfl⟩
        go_wp2_with fail
        refine (M2.out _).mono ?_
        rintro e w2 ⟨rfl, rfl⟩
        go_wp2_with fail
        refine (T1.out _).mono ?_
        rintro e w2 ⟨rfl, rfl⟩
        go_wp2_with fail
        refine (T2.out _).mono ?_
        rintro e w2 ⟨rfl, rfl⟩
        go_wp2_with fail
        refine (R1.out _).mono ?_
        rintro e w2 ⟨rfl, rfl⟩
        go_wp2_with fail
        refine (R2.out _).mono ?_
        rintro e w2 ⟨rfl, rfl⟩
        go_wp2_with fail
        refine (R3.out _).mono ?_
        rintro e w2 ⟨rfl, rfl⟩
        go_wp2_with fail
        refine (T3.out _).mono ?_
        rintro e w2 ⟨rfl, rfl⟩
        go_wp2_with fail
        refine (T4.out _).mono ?_
        rintro e w2 ⟨rfl, rfl⟩
        go_wp2_with fail
        refine (S1.out _).mono ?_
        rintro e w2 ⟨rfl, rfl⟩
        go_wp2_with fail
        refine (f_cs _).mono ?_
        rintro e w2 ⟨rfl, rfl⟩
        go_wp2_with fail
        refine (Z1.out _).mono ?_
        rintro e w2 ⟨rfl, rfl⟩
        go_wp2_with fail
        go_ret
        exact ⟨rfl, hb1⟩
      · have hx := hfl hq
        clear hfl
        subst hx
        go_enter Tryz.func6, Tryz.ntmps6
        go_wp2_with fail
        refine (alive_any w g off hv).mono ?_
        rintro e w1 ⟨rfl, hb1⟩
        go_wp2_with fail
        refine (L1.out _).mono ?_
        rintro e w2 ⟨rfl, rfl⟩
        go_wp2_with fail
        refine (L2.out _).mono ?_
        rintro e w2 ⟨rfl, rfl⟩
        go_wp2_with fail
        refine (L3.out _).mono ?_
        rintro e w2 ⟨rfl, rfl⟩
        go_wp2_with fail
        refine (L2.out _).mono ?_
        rintro e w2 ⟨rfl, rfl⟩
        go_wp2_with fail
        refine (L4.out _).mono ?_
        rintro e w2 ⟨rfl, rfl⟩
        go_wp2_with fail
        refine (f_inf _).mono ?_
        rintro e w2 ⟨rfl, rfl⟩
        go_wp2_with fail
        refine (M1.out _).mono ?_
        rintro e w2 ⟨rfl, rfl⟩
        go_wp2_with fail
        refine (f_nan _).mono ?_
        rintro e w2 ⟨rfl, rfl⟩
        go_wp2_with fail
        refine (M2.out _).mono ?_
        rintro e w2 ⟨rfl, rfl⟩
        go_wp2_with fail
        refine (L2.out _).mono ?_
        rintro e w2 ⟨rfl, rfl⟩
        go_wp2_with fail
        refine (T1.out _).mono ?_
        rintro e w2 ⟨rfl, rfl⟩
        go_wp2_with fail
        refine (T2.out _).mono ?_
        rintro e w2 ⟨rfl, rfl⟩
        go_wp2_with fail
        refine (R1.out _).mono ?_
        rintro e w2 ⟨rfl, rfl⟩
        go_wp2_with fail
        refine (R2.out _).mono ?_
        rintro e w2 ⟨rfl, rfl⟩
        go_wp2_with fail
        refine (R3.out _).mono ?_
        rintro e w2 ⟨rfl, rfl⟩
        go_wp2_with fail
        refine (T3.out _).mono ?_
        rintro e w2 ⟨rfl, rfl⟩
        go_wp2_with fail
        refine (T4.out _).mono ?_
        rintro e w2 ⟨rfl, rfl⟩
        go_wp2_with fail
        refine (S1.out _).mono ?_
        rintro e w2 ⟨rfl, rfl⟩
        go_wp2_with fail
        refine (f_cs _).mono ?_
        rintro e w2 ⟨rfl, rfl⟩
        go_wp2_with fail
        refine (Z1.out _).mono ?_
        rintro e w2 ⟨rfl, rfl⟩
        go_wp2_with fail
        go_ret
        exact ⟨rfl, hb1⟩
  · clear htr
    have hq : (FloatKind.f64.format.order a b == some .lt) = false := by
      cases h : (FloatKind.f64.format.order a b == some .lt)
      · rfl
      · have := hfl h; omega
    clear hfl
    go_enter Tryz.func6, Tryz.ntmps6
    go_wp2_with fail
    refine (alive_any w g off hv).mono ?_
    rintro e w1 ⟨rfl, hb1⟩
    go_wp2_with fail
    refine (L1.out _).mono ?_
    rintro e w2 ⟨rfl, rfl⟩
    go_wp2_with fail
    refine (L2.out _).mono ?_
    rintro e w2 ⟨rfl, rfl⟩
    go_wp2_with fail
    refine (L3.out _).mono ?_
    rintro e w2 ⟨rfl, rfl⟩
    go_wp2_with fail
    refine (L2.out _).mono ?_
    rintro e w2 ⟨rfl, rfl⟩
    go_wp2_with fail
    refine (f_inf _).mono ?_
    rintro e w2 ⟨rfl, rfl⟩
    go_wp2_with fail
    refine (M1.out _).mono ?_
    rintro e w2 ⟨rfl, rfl⟩
    go_wp2_with fail
    refine (f_nan _).mono ?_
    rintro e w2 ⟨rfl, rfl⟩
    go_wp2_with fail
    refine (M2.out _).mono ?_
    rintro e w2 ⟨rfl, rfl⟩
    go_wp2_with fail
    refine (T1.out _).mono ?_
    rintro e w2 ⟨rfl, rfl⟩
    go_wp2_with fail
    refine (T2.out _).mono ?_
    rintro e w2 ⟨rfl, rfl⟩
    go_wp2_with fail
    refine (R1.out _).mono ?_
    rintro e w2 ⟨rfl, rfl⟩
    go_wp2_with fail
    refine (R2.out _).mono ?_
    rintro e w2 ⟨rfl, rfl⟩
    go_wp2_with fail
    refine (R3.out _).mono ?_
    rintro e w2 ⟨rfl, rfl⟩
    go_wp2_with fail
    refine (T3.out _).mono ?_
    rintro e w2 ⟨rfl, rfl⟩
    go_wp2_with fail
    refine (T4.out _).mono ?_
    rintro e w2 ⟨rfl, rfl⟩
    go_wp2_with fail
    refine (S1.out _).mono ?_
    rintro e w2 ⟨rfl, rfl⟩
    go_wp2_with fail
    refine (f_cs _).mono ?_
    rintro e w2 ⟨rfl, rfl⟩
    go_wp2_with fail
    refine (Z1.out _).mono ?_
    rintro e w2 ⟨rfl, rfl⟩
    go_wp2_with fail
    go_ret
    exact ⟨rfl, hb1⟩
theorem cmp_bd (a b : Nat) : -1 ≤ cmpN a b ∧ cmpN a b ≤ 1 := by
  unfold cmpN
  split
  · omega
  · split <;> omega
theorem cmp_neg (a b : Nat) : cmpN a b + cmpN b a = 0 := by
  rcases Nat.lt_trichotomy (keyN a) (keyN b) with h | h | h
  · rw [cmp_lt h, cmp_gt h]; rfl
  · rw [cmp_eq h, cmp_eq h.symm]; rfl
  · rw [cmp_gt h, cmp_lt h]; rfl
theorem cmp_le_iff (a b : Nat) : cmpN a b ≤ 0 ↔ keyN a ≤ keyN b := by
  rcases Nat.lt_trichotomy (keyN a) (keyN b) with h | h | h
  · rw [cmp_lt h]; omega
  · rw [cmp_eq h]; omega
  · rw [cmp_gt h]; omega
theorem key_top (a b : Nat) : keyN (topN a b) = max (keyN a) (keyN b) := by
  unfold topN; split <;> omega
theorem line_any (a b c : Nat) (w : World) (g off : Nat) (ha : a < 18446744073709551616) (hb : b < 18446744073709551616) (hc : c < 18446744073709551616) (hv : Vars w g off) : Calls Tryz.prog 6 #[.int .u64 a, .int .u64 b, .int .u64 c] w fun e w' => e = .returned (.bool true) ∧ Below w.heap.size w w' := by
  obtain ⟨c1, u1, u2, m1⟩ := cmp_low a w ha
  obtain ⟨c2, u3, u4, m2⟩ := cmp_high a w ha
  have k1 := topN_lt ha hb
  have k2 := topN_lt k1 hc
  have k3 := topN_lt hb hc
  have k4 := topN_lt ha k3
  have l1 := fun w => cmp_any a a w ha ha
  rw [cmp_eq rfl] at l1
  have s1 := fun w => same_any (topN (topN a b) c) (topN a (topN b c)) w k2 k4
  have hk : keyN (topN (topN a b) c) = keyN (topN a (topN b c)) := by simp only [key_top]; omega
  rw [show decide (keyN (topN (topN a b) c) = keyN (topN a (topN b c))) = true from by simp [hk]] at s1
  have e1 := cmp_bd a b
  have e2 := cmp_bd b a
  have e3 := cmp_bd b c
  have e4 := cmp_bd a c
  have e5 := cmp_neg a b
  have y1 : cmpN a (topN (topN a b) c) ≤ 0 := (cmp_le_iff _ _).2 (by simp only [key_top]; omega)
  have y2 : cmpN b (topN (topN a b) c) ≤ 0 := (cmp_le_iff _ _).2 (by simp only [key_top]; omega)
  have y3 : cmpN c (topN (topN a b) c) ≤ 0 := (cmp_le_iff _ _).2 (by simp only [key_top]; omega)
  exact line_core a b c (topN a b) (topN (topN a b) c) (topN b c) (topN a (topN b c)) (cmpN a b) (cmpN b a) (cmpN b c) (cmpN a c) c1 c2 (cmpN a (topN (topN a b) c)) (cmpN b (topN (topN a b) c)) (cmpN c (topN (topN a b) c)) w g off hv
    l1 (fun w => cmp_any a b w ha hb) (fun w => cmp_any b a w hb ha) (fun w => cmp_any b c w hb hc) (fun w => cmp_any a c w ha hc) m1 m2
    (fun w => top_any a b w ha hb) (fun w => top_any _ c w k1 hc) (fun w => top_any b c w hb hc) (fun w => top_any a _ w ha k3) s1
    (fun w => cmp_any a _ w ha k2) (fun w => cmp_any b _ w hb k2) (fun w => cmp_any c _ w hc k2)
    u1 u2 u3 u4 e1.1 e1.2 e2.1 e2.2 e3.1 e3.2 e4.1 e4.2 (cmp_bd _ _).1 y1 (cmp_bd _ _).1 y2 (cmp_bd _ _).1 y3 (by omega) (by omega)
    (fun h1 h2 => (cmp_le_iff _ _).2 (Nat.le_trans ((cmp_le_iff _ _).1 h1) ((cmp_le_iff _ _).1 h2)))
    (fun h => cmp_lt (order_key a b ha hb (by simpa using h)))
end Go.Proofs.YtoogdidgcclmnaaGreatDoor.alv
