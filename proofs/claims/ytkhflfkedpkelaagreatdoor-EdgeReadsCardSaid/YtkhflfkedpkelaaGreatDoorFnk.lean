import Derived.Test.YtkhflfkedpkelaaGreatDoorLxd
import Derived.Laws.BitsAllLaws
import Derived.Laws.Bits64b
namespace Go.Proofs.YtkhflfkedpkelaaGreatDoor.ky
open Go.ChangeShapes Go.WideShapes Go.ChangeAt Go.RowKit Go.Proofs.YtkhflfkedpkelaaGreatDoor.lx
set_option linter.unusedVariables false
attribute [local go_sem] x_frombits x_bits
theorem bv_and (x y : Int) : (BitVec.ofInt 64 x &&& BitVec.ofInt 64 y).toNat = (x % 18446744073709551616).toNat &&& (y % 18446744073709551616).toNat := by
  rw [BitVec.toNat_and, BitVec.toNat_ofInt, BitVec.toNat_ofInt]; rfl
theorem bits_and_u64_l (x y : Int) : bits .and .u64 x y = (((x % 18446744073709551616).toNat &&& (y % 18446744073709551616).toNat : Nat) : Int) := by
  have h : (x % 18446744073709551616).toNat &&& (y % 18446744073709551616).toNat < 18446744073709551616 := by
    have := @Nat.and_le_left (x % 18446744073709551616).toNat (y % 18446744073709551616).toNat
    omega
  rw [← bv_and] at h ⊢
  show IntKind.u64.wrap ((BitVec.ofInt 64 x &&& BitVec.ofInt 64 y).toNat : Int) = _
  rw [IntKind.wrap_u64]; omega

/-! bits of a weight -/
def nanB (n : Nat) : Bool := decide (9218868437227405312 < n % 9223372036854775808)
def negB (n : Nat) : Bool := decide (9223372036854775808 ≤ n)
def keyN (n : Nat) : Nat := if nanB n = true then 18446744073709551615 else if negB n = true then 18446744073709551615 - n else n + 9223372036854775808
theorem keyN_nan {n : Nat} (h : nanB n = true) : keyN n = 18446744073709551615 := by simp [keyN, h]
theorem keyN_neg {n : Nat} (h : nanB n = false) (h' : negB n = true) : keyN n = 18446744073709551615 - n := by simp [keyN, h, h']
theorem keyN_pos {n : Nat} (h : nanB n = false) (h' : negB n = false) : keyN n = n + 9223372036854775808 := by simp [keyN, h, h']

theorem cmp_self (i : Int) : compare i i = .eq := by simp
theorem order_self (n : Nat) : FloatKind.f64.format.order n n = if nanB n = true then none else some .eq := by
  have e1 : FloatKind.f64.format.signWeight = 9223372036854775808 := by decide
  have e2 : FloatKind.f64.format.infRung = 9218868437227405312 := by decide
  have e3 : FloatKind.f64.format.binade = 4503599627370496 := by decide
  unfold Ieee.Format.order Ieee.Format.read nanB
  simp only [e1, e2, e3]
  by_cases h1 : n % 9223372036854775808 < 4503599627370496
  · simp [h1, Ieee.Datum.order]; omega
  · by_cases h2 : n % 9223372036854775808 < 9218868437227405312
    · simp [h1, h2, Ieee.Datum.order]; omega
    · by_cases h3 : n % 9223372036854775808 = 9218868437227405312
      · simp [h3, Ieee.Datum.order]
      · simp [h1, h2, h3, Ieee.Datum.order]; omega
theorem isNaN_bool (n : Nat) : (FloatKind.f64.format.order n n != some .eq) = nanB n := by
  rw [order_self]; cases h : nanB n <;> simp
theorem and_top (n : Nat) (hn : n < 18446744073709551616) : bits .and .u64 (n : Int) 9223372036854775808 = if negB n = true then 9223372036854775808 else 0 := by
  have h := bits_and_u64_nat n 9223372036854775808 hn (by omega)
  have e : n &&& 9223372036854775808 = if negB n = true then 9223372036854775808 else 0 := by
    rw [nat_bit63]
    unfold negB
    by_cases hh : 9223372036854775808 ≤ n
    · simp [hh]; omega
    · simp [hh]; omega
  rw [show (9223372036854775808 : Int) = ((9223372036854775808 : Nat) : Int) from rfl, h, e]
  cases negB n <;> simp
theorem or_top (n : Nat) (hn : n < 9223372036854775808) : bits .or .u64 (n : Int) 9223372036854775808 = ((n + 9223372036854775808 : Nat) : Int) := by
  have h := bits_or_u64_nat n 9223372036854775808 (by omega) (by omega)
  have e : n ||| 9223372036854775808 = n + 9223372036854775808 := by
    have := Nat.two_pow_add_eq_or_of_lt (i := 63) hn 1
    rw [show (2 : Nat) ^ 63 = 9223372036854775808 from rfl, Nat.mul_one] at this
    rw [Nat.or_comm, ← this, Nat.add_comm]
  rw [show (9223372036854775808 : Int) = ((9223372036854775808 : Nat) : Int) from rfl, h, e]
theorem xor_all (n : Nat) (hn : n < 18446744073709551616) : bits .xor .u64 IntKind.u64.max (n : Int) = 18446744073709551615 - n := by
  have e : (BitVec.ofInt 64 IntKind.u64.max ^^^ BitVec.ofInt 64 (n : Int)).toNat = 18446744073709551615 - n := by
    have e1 : BitVec.ofInt 64 IntKind.u64.max = BitVec.allOnes 64 := by decide
    rw [e1, BitVec.allOnes_xor, BitVec.toNat_not, BitVec.toNat_ofInt]
    omega
  show IntKind.u64.wrap ((BitVec.ofInt 64 IntKind.u64.max ^^^ BitVec.ofInt 64 (n : Int)).toNat : Int) = _
  rw [e, IntKind.wrap_u64]; omega
set_option maxRecDepth 100000 in
theorem key_nan (n : Nat) (w : World) (hn : n < 18446744073709551616) (h : nanB n = true) : Calls Tryz.prog 16 #[.float .f64 n] w fun e w' => e = .returned (.int .u64 (keyN n)) ∧ w = w' := by
  rw [keyN_nan h]
  have h1 := isNaN_bool n
  rw [h] at h1
  clear h hn
  go_enter Tryz.func16, Tryz.ntmps16
  go_wp2
  go_ret
  exact ⟨rfl, rfl⟩
set_option maxRecDepth 100000 in
theorem key_neg (n : Nat) (w : World) (hn : n < 18446744073709551616) (h : nanB n = false) (h' : negB n = true) : Calls Tryz.prog 16 #[.float .f64 n] w fun e w' => e = .returned (.int .u64 (keyN n)) ∧ w = w' := by
  have e1 : ((keyN n : Nat) : Int) = 18446744073709551615 - n := by rw [keyN_neg h h']; omega
  rw [e1]
  have h1 := isNaN_bool n
  have h2 := and_top n hn
  rw [h] at h1
  rw [if_pos h'] at h2
  clear h h' e1 
  go_enter Tryz.func16, Tryz.ntmps16
  have h4 := xor_all n hn
  go_wp2
  go_ret
  exact ⟨rfl, rfl⟩
set_option maxRecDepth 100000 in
theorem key_pos (n : Nat) (w : World) (hn : n < 18446744073709551616) (h : nanB n = false) (h' : negB n = false) : Calls Tryz.prog 16 #[.float .f64 n] w fun e w' => e = .returned (.int .u64 (keyN n)) ∧ w = w' := by
  rw [keyN_pos h h']
  have h1 := isNaN_bool n
  have h2 := and_top n hn
  have h3 := or_top n (by simp [negB] at h'; omega)
  rw [h] at h1
  rw [if_neg (by rw [h']; simp)] at h2
  clear h h'
  go_enter Tryz.func16, Tryz.ntmps16
  go_wp2
  go_ret
  exact ⟨rfl, rfl⟩

theorem keyN_lt (n : Nat) (hn : n < 18446744073709551616) : keyN n < 18446744073709551616 := by
  unfold keyN nanB negB; split
  · omega
  · split <;> simp_all <;> omega
theorem key_any (n : Nat) (w : World) (hn : n < 18446744073709551616) : Calls Tryz.prog 16 #[.float .f64 n] w fun e w' => e = .returned (.int .u64 (keyN n)) ∧ w = w' := by
  cases h : nanB n
  · cases h' : negB n
    · exact key_pos n w hn h h'
    · exact key_neg n w hn h h'
  · exact key_nan n w hn h
def cmpN (a b : Nat) : Int := if keyN a < keyN b then -1 else if keyN b < keyN a then 1 else 0
set_option maxRecDepth 100000 in
theorem cmp_any (a b : Nat) (w : World) (ha : a < 18446744073709551616) (hb : b < 18446744073709551616) : Calls Tryz.prog 13 #[.float .f64 a, .float .f64 b] w fun e w' => e = .returned (.int .i64 (cmpN a b)) ∧ w = w' := by
  have e : ((keyN a < keyN b) ∧ cmpN a b = -1) ∨ (¬ (keyN a < keyN b) ∧ keyN b < keyN a ∧ cmpN a b = 1) ∨ (¬ (keyN a < keyN b) ∧ ¬ keyN b < keyN a ∧ cmpN a b = 0) := by
    unfold cmpN; by_cases h1 : keyN a < keyN b
    · simp [h1]
    · by_cases h2 : keyN b < keyN a <;> simp [h1, h2]
  rcases e with ⟨h1, e⟩ | ⟨h1, h2, e⟩ | ⟨h1, h2, e⟩ <;> rw [e] <;> clear e
  all_goals
    go_enter Tryz.func13, Tryz.ntmps13
    go_wp2_with (go_at_call 16; refine (key_any _ _ (by assumption)).mono ?_; rintro e w' ⟨rfl, rfl⟩)
    go_ret
    exact ⟨rfl, rfl⟩
set_option maxRecDepth 100000 in
theorem same_any (a b : Nat) (w : World) (ha : a < 18446744073709551616) (hb : b < 18446744073709551616) : Calls Tryz.prog 12 #[.float .f64 a, .float .f64 b] w fun e w' => e = .returned (.bool (decide (keyN a = keyN b))) ∧ w = w' := by
  go_enter Tryz.func12, Tryz.ntmps12
  go_wp2_with (go_at_call 16; refine (key_any _ _ (by assumption)).mono ?_; rintro e w' ⟨rfl, rfl⟩)
  go_ret
  refine ⟨?_, rfl⟩
  show Ending.returned (.bool _) = _
  congr 2
  rw [Bool.eq_iff_iff]; simp; omega
def topN (a b : Nat) : Nat := if keyN a < keyN b then b else a
set_option maxRecDepth 100000 in
theorem top_any (a b : Nat) (w : World) (ha : a < 18446744073709551616) (hb : b < 18446744073709551616) : Calls Tryz.prog 17 #[.float .f64 a, .float .f64 b] w fun e w' => e = .returned (.float .f64 (topN a b)) ∧ w = w' := by
  have e : ((keyN a < keyN b) ∧ topN a b = b) ∨ (¬ (keyN a < keyN b) ∧ topN a b = a) := by
    unfold topN; by_cases h1 : keyN a < keyN b <;> simp [h1]
  rcases e with ⟨h1, e⟩ | ⟨h1, e⟩ <;> rw [e] <;> clear e
  all_goals
    go_enter Tryz.func17, Tryz.ntmps17
    go_wp2_with (go_at_call 16; refine (key_any _ _ (by assumption)).mono ?_; rintro e w' ⟨rfl, rfl⟩)
    go_ret
    exact ⟨rfl, rfl⟩
theorem topN_lt {a b : Nat} (ha : a < 18446744073709551616) (hb : b < 18446744073709551616) : topN a b < 18446744073709551616 := by
  unfold topN; split <;> assumption
theorem and_2047 (n : Nat) : bits .and .u64 ((n : Int)) 2047 = ((n % 2048 : Nat) : Int) % 18446744073709551616 := by
  rw [bits_and_u64_l]
  have e : (2047 % 18446744073709551616 : Int).toNat = 2 ^ 11 - 1 := by decide
  rw [e, Nat.and_two_pow_sub_one_eq_mod]
  omega
theorem ret_bool {a b : Bool} (h : a = b) : Ending.returned (.bool a) = .returned (.bool b) := by rw [h]
theorem nan_yes {n : Nat} (hn : n < 18446744073709551616) (h : bits .and .u64 ((n : Int) / 4503599627370496) 2047 = 2047) : (IntKind.u64.wrap ((n : Int) * 4096) != 0) = nanB n := by
  have h1 := and_2047 (n / 4503599627370496)
  rw [show ((n / 4503599627370496 : Nat) : Int) = (n : Int) / 4503599627370496 from by omega, h] at h1
  rw [IntKind.wrap_u64, Bool.eq_iff_iff]
  unfold nanB
  simp only [bne_iff_ne, ne_eq, decide_eq_true_eq]
  omega
theorem nan_no {n : Nat} (hn : n < 18446744073709551616) (h : ¬ bits .and .u64 ((n : Int) / 4503599627370496) 2047 = 2047) : false = nanB n := by
  have h1 := and_2047 (n / 4503599627370496)
  rw [show ((n / 4503599627370496 : Nat) : Int) = (n : Int) / 4503599627370496 from by omega] at h1
  rw [h1] at h
  unfold nanB
  symm
  rw [decide_eq_false_iff_not]
  omega
set_option maxRecDepth 100000 in
theorem rnan_any (n : Nat) (w : World) (hn : n < 18446744073709551616) : Calls Tryz.prog 33 #[.float .f64 n] w fun e w' => e = .returned (.bool (nanB n)) ∧ w = w' := by
  go_enter Tryz.func33, Tryz.ntmps33
  go_wp2
  · go_ret
    exact ⟨ret_bool (nan_yes hn (by assumption)), rfl⟩
  · go_ret
    exact ⟨ret_bool (nan_no hn (by assumption)), rfl⟩
set_option maxRecDepth 100000 in
theorem rbelow_any (n : Nat) (w : World) (hn : n < 18446744073709551616) : Calls Tryz.prog 34 #[.float .f64 n] w fun e w' => e = .returned (.bool (negB n)) ∧ w = w' := by
  go_enter Tryz.func34, Tryz.ntmps34
  go_wp2
  go_ret
  refine ⟨ret_bool ?_, rfl⟩
  unfold negB
  show (((n : Int) / 9223372036854775808 == 1) : Bool) = _
  rw [Bool.eq_iff_iff]
  simp only [beq_iff_eq, decide_eq_true_eq]
  omega
theorem less_nan {a b : Nat} (ha : a < 18446744073709551616) (hb : b < 18446744073709551616) (h : nanB a = true ∨ nanB b = true) : decide (keyN a < keyN b) = (!nanB a && nanB b) := by
  have la := keyN_lt a ha
  have lb := keyN_lt b hb
  rw [Bool.eq_iff_iff]
  unfold keyN nanB negB at *
  simp only [decide_eq_true_eq, Bool.and_eq_true, Bool.not_eq_true', decide_eq_false_iff_not] at *
  repeat' split
  all_goals omega
theorem less_sign {a b : Nat} (ha : a < 18446744073709551616) (hb : b < 18446744073709551616) (h : nanB a = false) (h' : nanB b = false) (hs : negB a ≠ negB b) : decide (keyN a < keyN b) = negB a := by
  cases h1 : negB a <;> cases h2 : negB b <;> simp_all [keyN] <;> (unfold negB nanB at *; simp at *; omega)
theorem less_neg {a b : Nat} (ha : a < 18446744073709551616) (hb : b < 18446744073709551616) (h : nanB a = false) (h' : nanB b = false) (h1 : negB a = true) (h2 : negB b = true) : decide (keyN a < keyN b) = decide (b < a) := by
  rw [keyN_neg h h1, keyN_neg h' h2, decide_eq_decide]; omega
theorem less_pos {a b : Nat} (ha : a < 18446744073709551616) (hb : b < 18446744073709551616) (h : nanB a = false) (h' : nanB b = false) (h1 : negB a = false) (h2 : negB b = false) : decide (keyN a < keyN b) = decide (a < b) := by
  rw [keyN_pos h h1, keyN_pos h' h2, decide_eq_decide]; omega
set_option maxRecDepth 100000 in
theorem rless_any (a b : Nat) (w : World) (ha : a < 18446744073709551616) (hb : b < 18446744073709551616) : Calls Tryz.prog 24 #[.float .f64 a, .float .f64 b] w fun e w' => e = .returned (.bool (decide (keyN a < keyN b))) ∧ w = w' := by
  have e : decide (keyN a < keyN b) = if nanB a = true ∨ nanB b = true then (!nanB a && nanB b) else if negB a ≠ negB b then negB a else if negB a = true then decide (b < a) else decide (a < b) := by
    by_cases h : nanB a = true ∨ nanB b = true
    · rw [if_pos h]; exact less_nan ha hb h
    · rw [if_neg h]
      have h1 : nanB a = false := by cases hh : nanB a <;> simp_all
      have h2 : nanB b = false := by cases hh : nanB b <;> simp_all
      by_cases hs : negB a ≠ negB b
      · rw [if_pos hs]; exact less_sign ha hb h1 h2 hs
      · rw [if_neg hs]
        have hs' : negB a = negB b := by simpa using hs
        cases h3 : negB a
        · rw [less_pos ha hb h1 h2 h3 (hs' ▸ h3)]; simp
        · rw [less_neg ha hb h1 h2 h3 (hs' ▸ h3)]; simp
  rw [e]; clear e
  cases h1 : nanB a <;> cases h2 : nanB b <;> cases h3 : negB a <;> cases h4 : negB b
  all_goals
    try simp only [Bool.false_eq_true, Bool.true_eq_false, or_false, or_true, if_false, if_true, ne_eq, not_true_eq_false, not_false_eq_true, Bool.not_true, Bool.not_false, Bool.and_true, Bool.and_false]
    go_enter Tryz.func24, Tryz.ntmps24
    go_wp2_with (first | (go_at_call 33; refine (rnan_any _ _ (by assumption)).mono ?_; rintro e w' ⟨rfl, rfl⟩) | (go_at_call 34; refine (rbelow_any _ _ (by assumption)).mono ?_; rintro e w' ⟨rfl, rfl⟩))
    go_ret
    exact ⟨rfl, rfl⟩
theorem rsame_eq (a b : Nat) : (!decide (keyN a < keyN b) && !decide (keyN b < keyN a)) = decide (keyN a = keyN b) := by
  rw [Bool.eq_iff_iff]; simp; omega
set_option maxRecDepth 100000 in
theorem rsame_any (a b : Nat) (w : World) (ha : a < 18446744073709551616) (hb : b < 18446744073709551616) : Calls Tryz.prog 8 #[.float .f64 a, .float .f64 b] w fun e w' => e = .returned (.bool (decide (keyN a = keyN b))) ∧ w = w' := by
  rw [← rsame_eq]
  have r1 := rless_any a b
  have r2 := rless_any b a
  generalize decide (keyN a < keyN b) = p at *
  generalize decide (keyN b < keyN a) = q at *
  have R1 := Lib.hid r1
  have R2 := Lib.hid r2
  clear r1 r2
  cases p <;> cases q
  all_goals
    go_enter Tryz.func8, Tryz.ntmps8
    go_wp2_with fail
    refine (R1.out _ ha hb).mono ?_
    rintro e w' ⟨rfl, rfl⟩
    go_wp2_with (go_at_call 24; refine (R2.out _ hb ha).mono ?_; rintro e w' ⟨rfl, rfl⟩)
    go_ret
    exact ⟨rfl, rfl⟩
end Go.Proofs.YtkhflfkedpkelaaGreatDoor.ky
