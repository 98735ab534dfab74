import Derived.Test.YtomikgkoegkofaaDwc
namespace Go.Proofs.Ytomikgkoegkofaa.dv
open Go.ChangeShapes Go.WideShapes Go.ChangeAt Go.RowKit Go.Maps Go.WideMaps Go.WideElems
set_option linter.unusedVariables false
set_option linter.unusedSimpArgs false
/-! weights that are the same -/
attribute [local go_sem] x_frombits x_bits
theorem keyN_lt (n : Nat) (hn : n < 18446744073709551616) : keyN n < 18446744073709551616 := by
  unfold keyN nanB negB; split
  · omega
  · split <;> simp_all <;> omega
theorem bits_and_u64_l (x y : Int) : bits .and .u64 x y = (((x % 18446744073709551616).toNat &&& (y % 18446744073709551616).toNat : Nat) : Int) := by
  have h : (x % 18446744073709551616).toNat &&& (y % 18446744073709551616).toNat < 18446744073709551616 := by
    have := @Nat.and_le_left (x % 18446744073709551616).toNat (y % 18446744073709551616).toNat
    omega
  rw [← bv_and] at h ⊢
  show IntKind.u64.wrap ((BitVec.ofInt 64 x &&& BitVec.ofInt 64 y).toNat : Int) = _
  rw [IntKind.wrap_u64]; omega
theorem and_2047 (n : Nat) : bits .and .u64 ((n : Int)) 2047 = ((n % 2048 : Nat) : Int) % 18446744073709551616 := by
  rw [bits_and_u64_l]
  have e : (2047 % 18446744073709551616 : Int).toNat = 2 ^ 11 - 1 := by decide
  rw [e, Nat.and_two_pow_sub_one_eq_mod]
  omega
theorem nan_yes {n : Nat} (hn : n < 18446744073709551616) (h : bits .and .u64 ((n : Int) / 4503599627370496) 2047 = 2047) : (IntKind.u64.wrap ((n : Int) * 4096) != 0) = nanB n := by
  have h1 := and_2047 (n / 4503599627370496)
  rw [show ((n / 4503599627370496 : Nat) : Int) = (n : Int) / 4503599627370496 from by omega, h] at h1
  rw [IntKind.wrap_u64, Bool.eq_iff_iff]
  unfold nanB
  simp only [bne_iff_ne, ne_eq, decide_eq_true_eq]
  omega
theorem nan_no {n : Nat} (hn : n < 18446744073709551616) (h : ¬ bits .and .u64 ((n : Int) / 4503599627370496) 2047 = 2047) : false = nanB n := by
  have h1 := and_2047 (n / 4503599627370496)
  rw [show ((n / 4503599627370496 : Nat) : Int) = (n : Int) / 4503599627370496 from by omega] at h1
  rw [h1] at h
  unfold nanB
  symm
  rw [decide_eq_false_iff_not]
  omega
set_option maxRecDepth 100000 in
theorem fnan_any (n : Nat) (w : World) (hn : n < 18446744073709551616) : Calls Try.prog 76 #[.float .f64 n] w fun e w' => e = .returned (.bool (nanB n)) ∧ w = w' := by
  go_enter Try.func76, Try.ntmps76
  go_wp2
  · go_ret
    exact ⟨ret_bool (nan_yes hn (by assumption)), rfl⟩
  · go_ret
    exact ⟨ret_bool (nan_no hn (by assumption)), rfl⟩
set_option maxRecDepth 100000 in
theorem fbelow_any (n : Nat) (w : World) (hn : n < 18446744073709551616) : Calls Try.prog 77 #[.float .f64 n] w fun e w' => e = .returned (.bool (negB n)) ∧ w = w' := by
  go_enter Try.func77, Try.ntmps77
  go_wp2
  go_ret
  refine ⟨ret_bool ?_, rfl⟩
  unfold negB
  show (((n : Int) / 9223372036854775808 == 1) : Bool) = _
  rw [Bool.eq_iff_iff]
  simp only [beq_iff_eq, decide_eq_true_eq]
  omega
theorem less_nan {a b : Nat} (ha : a < 18446744073709551616) (hb : b < 18446744073709551616) (h : nanB a = true ∨ nanB b = true) : decide (keyN a < keyN b) = (!nanB a && nanB b) := by
  have la := keyN_lt a ha
  have lb := keyN_lt b hb
  rw [Bool.eq_iff_iff]
  unfold keyN nanB negB at *
  simp only [decide_eq_true_eq, Bool.and_eq_true, Bool.not_eq_true', decide_eq_false_iff_not] at *
  repeat' split
  all_goals omega
theorem less_sign {a b : Nat} (ha : a < 18446744073709551616) (hb : b < 18446744073709551616) (h : nanB a = false) (h' : nanB b = false) (hs : negB a ≠ negB b) : decide (keyN a < keyN b) = negB a := by
  cases h1 : negB a <;> cases h2 : negB b <;> simp_all [keyN] <;> (unfold negB nanB at *; simp at *; omega)
theorem less_neg {a b : Nat} (ha : a < 18446744073709551616) (hb : b < 18446744073709551616) (h : nanB a = false) (h' : nanB b = false) (h1 : negB a = true) (h2 : negB b = true) : decide (keyN a < keyN b) = decide (b < a) := by
  rw [keyN_neg h h1, keyN_neg h' h2, decide_eq_decide]; omega
theorem less_pos {a b : Nat} (ha : a < 18446744073709551616) (hb : b < 18446744073709551616) (h : nanB a = false) (h' : nanB b = false) (h1 : negB a = false) (h2 : negB b = false) : decide (keyN a < keyN b) = decide (a < b) := by
  rw [keyN_pos h h1, keyN_pos h' h2, decide_eq_decide]; omega
set_option maxRecDepth 100000 in
theorem fless_any (a b : Nat) (w : World) (ha : a < 18446744073709551616) (hb : b < 18446744073709551616) : Calls Try.prog 56 #[.float .f64 a, .float .f64 b] w fun e w' => e = .returned (.bool (decide (keyN a < keyN b))) ∧ w = w' := by
  have e : decide (keyN a < keyN b) = if nanB a = true ∨ nanB b = true then (!nanB a && nanB b) else if negB a ≠ negB b then negB a else if negB a = true then decide (b < a) else decide (a < b) := by
    by_cases h : nanB a = true ∨ nanB b = true
    · rw [if_pos h]; exact less_nan ha hb h
    · rw [if_neg h]
      have h1 : nanB a = false := by cases hh : nanB a <;> simp_all
      have h2 : nanB b = false := by cases hh : nanB b <;> simp_all
      by_cases hs : negB a ≠ negB b
      · rw [if_pos hs]; exact less_sign ha hb h1 h2 hs
      · rw [if_neg hs]
        have hs' : negB a = negB b := by simpa using hs
        cases h3 : negB a
        · rw [less_pos ha hb h1 h2 h3 (hs' ▸ h3)]; simp
        · rw [less_neg ha hb h1 h2 h3 (hs' ▸ h3)]; simp
  rw [e]; clear e
  cases h1 : nanB a <;> cases h2 : nanB b <;> cases h3 : negB a <;> cases h4 : negB b
  all_goals
    try simp only [Bool.false_eq_true, Bool.true_eq_false, or_false, or_true, if_false, if_true, ne_eq, not_true_eq_false, not_false_eq_true, Bool.not_true, Bool.not_false, Bool.and_true, Bool.and_false]
    go_enter Try.func56, Try.ntmps56
    go_wp2_with (first | (go_at_call 76; refine (fnan_any _ _ (by assumption)).mono ?_; rintro e w' ⟨rfl, rfl⟩) | (go_at_call 77; refine (fbelow_any _ _ (by assumption)).mono ?_; rintro e w' ⟨rfl, rfl⟩))
    go_ret
    exact ⟨rfl, rfl⟩
theorem fsame_eq (a b : Nat) : (!decide (keyN a < keyN b) && !decide (keyN b < keyN a)) = decide (keyN a = keyN b) := by
  rw [Bool.eq_iff_iff]; simp; omega
set_option maxRecDepth 100000 in
theorem fsame_any (a b : Nat) (w : World) (ha : a < 18446744073709551616) (hb : b < 18446744073709551616) : Calls Try.prog 25 #[.float .f64 a, .float .f64 b] w fun e w' => e = .returned (.bool (decide (keyN a = keyN b))) ∧ w = w' := by
  rw [← fsame_eq]
  have r1 := fless_any a b
  have r2 := fless_any b a
  generalize decide (keyN a < keyN b) = p at *
  generalize decide (keyN b < keyN a) = q at *
  have R1 := Lib.hid r1
  have R2 := Lib.hid r2
  clear r1 r2
  cases p <;> cases q
  all_goals
    go_enter Try.func25, Try.ntmps25
    go_wp2_with fail
    refine (R1.out _ ha hb).mono ?_
    rintro e w' ⟨rfl, rfl⟩
    go_wp2_with (go_at_call 56; refine (R2.out _ hb ha).mono ?_; rintro e w' ⟨rfl, rfl⟩)
    go_ret
    exact ⟨rfl, rfl⟩
end Go.Proofs.Ytomikgkoegkofaa.dv
