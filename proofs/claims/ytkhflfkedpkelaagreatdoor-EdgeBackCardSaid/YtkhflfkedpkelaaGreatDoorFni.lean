import Derived.Test.YtkhflfkedpkelaaGreatDoorFnh
import Derived.Test.YtkhflfkedpkelaaGreatDoorFnk
namespace Go.Proofs.YtkhflfkedpkelaaGreatDoor.lx
open Go.ChangeShapes Go.WideShapes Go.ChangeAt Go.RowKit Go.Proofs.YtkhflfkedpkelaaGreatDoor.ky
set_option linter.unusedVariables false
/-! a weight's text -/
set_option maxRecDepth 100000 in
theorem isnan_any (n : Nat) (w : World) : Calls Tryz.prog 25 #[.float .f64 n] w fun e w' => e = .returned (.bool (nanB n)) ∧ w = w' := by
  have h1 := isNaN_bool n
  go_enter Tryz.func25, Tryz.ntmps25
  go_wp2
  go_ret
  exact ⟨rfl, rfl⟩
theorem cmp_le (a b : Int) (h : a ≤ b) : (compare a b == Ordering.gt) = false := by
  rcases Int.lt_or_eq_of_le h with h | h
  · rw [Int.compare_eq_lt.2 h]; rfl
  · rw [h, cmp_self]; rfl
theorem max_read : FloatKind.f64.format.read 9218868437227405311 = .number false 9007199254740991 971 := by decide +kernel
/-- nothing that is a number stands above the greatest one -/
theorem gt_max (n : Nat) (hn : n < 18446744073709551616) : (FloatKind.f64.format.order n 9218868437227405311 == some Ordering.gt) = decide (n = 9218868437227405312) := by
  have e1 : FloatKind.f64.format.signWeight = 9223372036854775808 := by decide
  have e2 : FloatKind.f64.format.infRung = 9218868437227405312 := by decide
  have e3 : FloatKind.f64.format.binade = 4503599627370496 := by decide
  have e4 : FloatKind.f64.format.leastPlace = -1074 := by decide
  unfold Ieee.Format.order
  rw [max_read]
  -- a number: its digits and its place
  have num : ∀ (s : Bool) (m : Nat) (i : Int), m ≤ 9007199254740991 → i ≤ 971 → (Ieee.Datum.order (.number s m i) (.number false 9007199254740991 971) == some Ordering.gt) = false := fun s m i hm hi => by
    show (some (compare (Ieee.signed s m (i - min i 971).toNat) (Ieee.signed false 9007199254740991 (971 - min i 971).toNat)) == some Ordering.gt) = false
    rw [show min i 971 = i from by omega, show (i - i).toNat = 0 from by omega]
    have h1 : (1 : Nat) ≤ 2 ^ (971 - i).toNat := Nat.one_le_two_pow
    have h2 : 9007199254740991 * 1 ≤ 9007199254740991 * 2 ^ (971 - i).toNat := Nat.mul_le_mul_left _ h1
    have h3 : Ieee.signed s m 0 ≤ Ieee.signed false 9007199254740991 (971 - i).toNat := by
      unfold Ieee.signed
      rw [Nat.shiftLeft_eq, Nat.shiftLeft_eq, Nat.pow_zero, Nat.mul_one]
      cases s
      · simp only [Bool.false_eq_true, if_false]
        omega
      · simp only [if_true, Bool.false_eq_true, if_false]
        omega
    exact cmp_le _ _ h3
  unfold Ieee.Format.read
  simp only [e1, e2, e3, e4]
  by_cases h1 : n % 9223372036854775808 < 4503599627370496
  · rw [if_pos h1, num _ _ _ (by omega) (by omega), decide_eq_false (by omega)]
  · by_cases h2 : n % 9223372036854775808 < 9218868437227405312
    · rw [if_neg h1, if_pos h2, num _ _ _ (by omega) (by omega), decide_eq_false (by omega)]
    · by_cases h3 : n % 9223372036854775808 = 9218868437227405312
      · rw [if_neg h1, if_neg h2, if_pos h3]
        by_cases h4 : n = 9218868437227405312
        · subst h4; decide
        · have h5 : n = 18442240474082181120 := by omega
          subst h5; decide
      · rw [if_neg h1, if_neg h2, if_neg h3, decide_eq_false (by omega)]
        rfl
set_option maxRecDepth 100000 in
theorem isinf_up (n : Nat) (hn : n < 18446744073709551616) (w : World) : Calls Tryz.prog 26 #[.float .f64 n, .int .i64 1] w fun e w' => e = .returned (.bool (decide (n = 9218868437227405312))) ∧ w = w' := by
  have h := gt_max n hn
  go_enter Tryz.func26, Tryz.ntmps26
  go_wp2
  go_ret
  exact ⟨by rw [← h]; rfl, rfl⟩
def negN (n : Nat) : Nat := if n < 9223372036854775808 then 9223372036854775808 + n else n - 9223372036854775808
theorem negN_lt (n : Nat) (hn : n < 18446744073709551616) : negN n < 18446744073709551616 := by unfold negN; split <;> omega
theorem run_negf (n : Nat) (hn : n < 18446744073709551616) (w : World) : (Go.Op.unary .neg (.float .f64 n)).run Tryz.prog w = .ok (.float .f64 (negN n)) w := by
  have e : Go.Op.negFloat .f64 n = negN n := by
    have p63 : (2 : Nat) ^ 63 = 9223372036854775808 := by decide +kernel
    show n ^^^ 2 ^ 63 = _
    rw [p63]
    unfold negN
    by_cases h : n < 9223372036854775808
    · rw [if_pos h, xor_top n h]
    · rw [if_neg h]
      obtain ⟨m, hm, hm2⟩ : ∃ m, m < 9223372036854775808 ∧ n = 9223372036854775808 + m := ⟨n - 9223372036854775808, by omega, by omega⟩
      have hx := xor_top m hm
      rw [hm2, ← hx, Nat.xor_assoc, Nat.xor_self, Nat.xor_zero, hx]
      omega
  rw [← e]
  rfl
set_option maxRecDepth 100000 in
theorem isinf_dn (n : Nat) (hn : n < 18446744073709551616) (w : World) : Calls Tryz.prog 26 #[.float .f64 n, .int .i64 (-1)] w fun e w' => e = .returned (.bool (decide (n = 18442240474082181120))) ∧ w = w' := by
  have h := gt_max (negN n) (negN_lt n hn)
  have hd : decide (negN n = 9218868437227405312) = decide (n = 18442240474082181120) := decide_eq_decide.2 (by unfold negN; split <;> omega)
  rw [hd] at h
  have hr := run_negf n hn
  clear hd
  generalize negN n = k at *
  go_enter Tryz.func26, Tryz.ntmps26
  go_wp2
  go_ret
  exact ⟨by rw [← h]; rfl, rfl⟩
end Go.Proofs.YtkhflfkedpkelaaGreatDoor.lx
