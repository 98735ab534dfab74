import Derived.Test.YtoogdidgcclmnaaGreatDoorAlva
import Derived.Laws.BitsAllLaws
namespace Go.Proofs.YtoogdidgcclmnaaGreatDoor.alv
open Go.ChangeShapes Go.WideShapes Go.ChangeAt Go.RowKit
set_option linter.unusedVariables false
attribute [local go_sem] x_frombits x_bits

/-! bits of a weight -/
def nanB (n : Nat) : Bool := decide (9218868437227405312 < n % 9223372036854775808)
def negB (n : Nat) : Bool := decide (9223372036854775808 ≤ n)
def keyN (n : Nat) : Nat := if nanB n = true then 18446744073709551615 else if negB n = true then 18446744073709551615 - n else n + 9223372036854775808
theorem keyN_nan {n : Nat} (h : nanB n = true) : keyN n = 18446744073709551615 := by simp [keyN, h]
theorem keyN_neg {n : Nat} (h : nanB n = false) (h' : negB n = true) : keyN n = 18446744073709551615 - n := by simp [keyN, h, h']
theorem keyN_pos {n : Nat} (h : nanB n = false) (h' : negB n = false) : keyN n = n + 9223372036854775808 := by simp [keyN, h, h']

theorem cmp_self (i : Int) : compare i i = .eq := by simp
theorem order_self (n : Nat) : FloatKind.f64.format.order n n = if nanB n = true then none else some .eq := by
  have e1 : FloatKind.f64.format.signWeight = 9223372036854775808 := by decide
  have e2 : FloatKind.f64.format.infRung = 9218868437227405312 := by decide
  have e3 : FloatKind.f64.format.binade = 4503599627370496 := by decide
  unfold Ieee.Format.order Ieee.Format.read nanB
  simp only [e1, e2, e3]
  by_cases h1 : n % 9223372036854775808 < 4503599627370496
  · simp [h1, Ieee.Datum.order]; omega
  · by_cases h2 : n % 9223372036854775808 < 9218868437227405312
    · simp [h1, h2, Ieee.Datum.order]; omega
    · by_cases h3 : n % 9223372036854775808 = 9218868437227405312
      · simp [h3, Ieee.Datum.order]
      · simp [h1, h2, h3, Ieee.Datum.order]; omega
theorem isNaN_bool (n : Nat) : (FloatKind.f64.format.order n n != some .eq) = nanB n := by
  rw [order_self]; cases h : nanB n <;> simp
theorem and_top (n : Nat) (hn : n < 18446744073709551616) : bits .and .u64 (n : Int) 9223372036854775808 = if negB n = true then 9223372036854775808 else 0 := by
  have h := bits_and_u64_nat n 9223372036854775808 hn (by omega)
  have e : n &&& 9223372036854775808 = if negB n = true then 9223372036854775808 else 0 := by
    rw [nat_bit63]
    unfold negB
    by_cases hh : 9223372036854775808 ≤ n
    · simp [hh]; omega
    · simp [hh]; omega
  rw [show (9223372036854775808 : Int) = ((9223372036854775808 : Nat) : Int) from rfl, h, e]
  cases negB n <;> simp
theorem or_top (n : Nat) (hn : n < 9223372036854775808) : bits .or .u64 (n : Int) 9223372036854775808 = ((n + 9223372036854775808 : Nat) : Int) := by
  have h := bits_or_u64_nat n 9223372036854775808 (by omega) (by omega)
  have e : n ||| 9223372036854775808 = n + 9223372036854775808 := by
    have := Nat.two_pow_add_eq_or_of_lt (i := 63) hn 1
    rw [show (2 : Nat) ^ 63 = 9223372036854775808 from rfl, Nat.mul_one] at this
    rw [Nat.or_comm, ← this, Nat.add_comm]
  rw [show (9223372036854775808 : Int) = ((9223372036854775808 : Nat) : Int) from rfl, h, e]
theorem xor_all (n : Nat) (hn : n < 18446744073709551616) : bits .xor .u64 IntKind.u64.max (n : Int) = 18446744073709551615 - n := by
  have e : (BitVec.ofInt 64 IntKind.u64.max ^^^ BitVec.ofInt 64 (n : Int)).toNat = 18446744073709551615 - n := by
    have e1 : BitVec.ofInt 64 IntKind.u64.max = BitVec.allOnes 64 := by decide
    rw [e1, BitVec.allOnes_xor, BitVec.toNat_not, BitVec.toNat_ofInt]
    omega
  show IntKind.u64.wrap ((BitVec.ofInt 64 IntKind.u64.max ^^^ BitVec.ofInt 64 (n : Int)).toNat : Int) = _
  rw [e, IntKind.wrap_u64]; omega
set_option maxRecDepth 100000 in
theorem key_nan (n : Nat) (w : World) (hn : n < 18446744073709551616) (h : nanB n = true) : Calls Tryz.prog 15 #[.float .f64 n] w fun e w' => e = .returned (.int .u64 (keyN n)) ∧ w = w' := by
  rw [keyN_nan h]
  have h1 := isNaN_bool n
  rw [h] at h1
  clear h hn
  go_enter Tryz.func15, Tryz.ntmps15
  go_wp2
  go_ret
  exact ⟨rfl, rfl⟩
set_option maxRecDepth 100000 in
theorem key_neg (n : Nat) (w : World) (hn : n < 18446744073709551616) (h : nanB n = false) (h' : negB n = true) : Calls Tryz.prog 15 #[.float .f64 n] w fun e w' => e = .returned (.int .u64 (keyN n)) ∧ w = w' := by
  have e1 : ((keyN n : Nat) : Int) = 18446744073709551615 - n := by rw [keyN_neg h h']; omega
  rw [e1]
  have h1 := isNaN_bool n
  have h2 := and_top n hn
  rw [h] at h1
  rw [if_pos h'] at h2
  clear h h' e1 
  go_enter Tryz.func15, Tryz.ntmps15
  have h4 := xor_all n hn
  go_wp2
  go_ret
  exact ⟨rfl, rfl⟩
set_option maxRecDepth 100000 in
theorem key_pos (n : Nat) (w : World) (hn : n < 18446744073709551616) (h : nanB n = false) (h' : negB n = false) : Calls Tryz.prog 15 #[.float .f64 n] w fun e w' => e = .returned (.int .u64 (keyN n)) ∧ w = w' := by
  rw [keyN_pos h h']
  have h1 := isNaN_bool n
  have h2 := and_top n hn
  have h3 := or_top n (by simp [negB] at h'; omega)
  rw [h] at h1
  rw [if_neg (by rw [h']; simp)] at h2
  clear h h'
  go_enter Tryz.func15, Tryz.ntmps15
  go_wp2
  go_ret
  exact ⟨rfl, rfl⟩
end Go.Proofs.YtoogdidgcclmnaaGreatDoor.alv
