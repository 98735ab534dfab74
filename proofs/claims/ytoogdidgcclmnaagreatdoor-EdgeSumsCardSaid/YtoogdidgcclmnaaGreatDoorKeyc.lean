import Derived.Test.YtoogdidgcclmnaaGreatDoorKeya
import Derived.Laws.FloatArith
namespace Go.Proofs.YtoogdidgcclmnaaGreatDoor.alv
open Go.ChangeShapes Go.WideShapes Go.ChangeAt Go.RowKit
set_option linter.unusedVariables false
/-! the value of a rung, in units of the least place -/
def rungVal (B r : Nat) : Nat := if r < B then r else (B + r % B) * 2 ^ (r / B - 1)
theorem rungVal_mono (B r r' : Nat) (hB : 0 < B) (h : r' ≤ r) : rungVal B r' ≤ rungVal B r := by
  unfold rungVal
  by_cases h1 : r < B
  · rw [if_pos h1, if_pos (by omega)]; exact h
  · rw [if_neg h1]
    by_cases h2 : r' < B
    · rw [if_pos h2]
      have : 1 ≤ 2 ^ (r / B - 1) := Nat.one_le_two_pow
      have h3 := Nat.le_mul_of_pos_right (B + r % B) this
      omega
    · rw [if_neg h2]
      have hq : r' / B ≤ r / B := Nat.div_le_div_right h
      have hq1 : 1 ≤ r' / B := (Nat.one_le_div_iff hB).2 (by omega)
      rcases Nat.lt_or_eq_of_le hq with hlt | heq
      · have e1 : r' % B < B := Nat.mod_lt _ hB
        have e2 : (B + r' % B) * 2 ^ (r' / B - 1) ≤ (2 * B) * 2 ^ (r' / B - 1) := Nat.mul_le_mul_right _ (by omega)
        have e3 : (2 * B) * 2 ^ (r' / B - 1) = B * 2 ^ (r' / B) := by
          conv => rhs; rw [show r' / B = (r' / B - 1) + 1 from by omega, Nat.pow_succ]
          rw [Nat.mul_comm 2 B, Nat.mul_assoc, Nat.mul_comm 2]
        have e4 : B * 2 ^ (r' / B) ≤ B * 2 ^ (r / B - 1) := Nat.mul_le_mul_left _ (Nat.pow_le_pow_right (by omega) (by omega))
        have e5 : B * 2 ^ (r / B - 1) ≤ (B + r % B) * 2 ^ (r / B - 1) := Nat.mul_le_mul_right _ (by omega)
        omega
      · rw [heq]
        have d1 := Nat.div_add_mod r B
        have d2 := Nat.div_add_mod r' B
        rw [heq] at d2
        exact Nat.mul_le_mul_right _ (by omega)
/-- what a number's word reads as: a sign, a magnitude, a place above the least one -/
theorem signed_lt {s t : Bool} {m n e f : Nat} (L : Int) (h : compare (Ieee.signed s m ((L + e) - min (L + e) (L + f)).toNat) (Ieee.signed t n ((L + f) - min (L + e) (L + f)).toNat) = Ordering.lt) :
    (if s then -((m * 2 ^ e : Nat) : Int) else ((m * 2 ^ e : Nat) : Int)) < (if t then -((n * 2 ^ f : Nat) : Int) else ((n * 2 ^ f : Nat) : Int)) := by
  have e1 : ((L + e) - min (L + e) (L + f)).toNat = e - min e f := by omega
  have e2 : ((L + f) - min (L + e) (L + f)).toNat = f - min e f := by omega
  rw [e1, e2] at h
  have h' := Int.compare_eq_lt.1 h
  unfold Ieee.signed at h'
  simp only [Nat.shiftLeft_eq] at h'
  have p1 : m * 2 ^ e = m * 2 ^ (e - min e f) * 2 ^ (min e f) := by rw [Nat.mul_assoc, ← Nat.pow_add]; congr 2; omega
  have p2 : n * 2 ^ f = n * 2 ^ (f - min e f) * 2 ^ (min e f) := by rw [Nat.mul_assoc, ← Nat.pow_add]; congr 2; omega
  rw [p1, p2]
  have hp : (0 : Int) < ((2 ^ (min e f) : Nat) : Int) := by have := Nat.two_pow_pos (min e f); omega
  generalize m * 2 ^ (e - min e f) = X at *
  generalize n * 2 ^ (f - min e f) = Y at *
  generalize 2 ^ (min e f) = Z at *
  have := Int.mul_lt_mul_of_pos_right h' hp
  cases s <;> cases t <;> simp [Int.neg_mul] at this ⊢ <;> omega
theorem read_num (x : Nat) (h : x % 9223372036854775808 < 9218868437227405312) : ∃ m e : Nat, FloatKind.f64.format.read x = .number (x / 9223372036854775808 % 2 == 1) m (FloatKind.f64.format.leastPlace + e) ∧ m * 2 ^ e = rungVal 4503599627370496 (x % 9223372036854775808) := by
  have e1 : FloatKind.f64.format.signWeight = 9223372036854775808 := by decide
  have e2 : FloatKind.f64.format.infRung = 9218868437227405312 := by decide
  have e3 : FloatKind.f64.format.binade = 4503599627370496 := by decide
  unfold Ieee.Format.read rungVal
  simp only [e1, e2, e3]
  by_cases h1 : x % 9223372036854775808 < 4503599627370496
  · exact ⟨x % 9223372036854775808, 0, by rw [if_pos h1]; simp, by rw [if_pos h1]; simp⟩
  · exact ⟨_, _, by rw [if_neg h1, if_pos h], by rw [if_neg h1]⟩
theorem read_inf (x : Nat) (h : x % 9223372036854775808 = 9218868437227405312) : FloatKind.f64.format.read x = .infinity (x / 9223372036854775808 % 2 == 1) := by
  have e1 : FloatKind.f64.format.signWeight = 9223372036854775808 := by decide
  have e2 : FloatKind.f64.format.infRung = 9218868437227405312 := by decide
  have e3 : FloatKind.f64.format.binade = 4503599627370496 := by decide
  unfold Ieee.Format.read
  simp only [e1, e2, e3, h]
  simp
theorem read_nan' (x : Nat) (h : 9218868437227405312 < x % 9223372036854775808) : ∃ f, FloatKind.f64.format.read x = .nan (x / 9223372036854775808 % 2 == 1) f := by
  have e1 : FloatKind.f64.format.signWeight = 9223372036854775808 := by decide
  have e2 : FloatKind.f64.format.infRung = 9218868437227405312 := by decide
  have e3 : FloatKind.f64.format.binade = 4503599627370496 := by decide
  unfold Ieee.Format.read
  simp only [e1, e2, e3]
  rw [if_neg (by omega), if_neg (by omega), if_neg (by omega)]
  exact ⟨_, rfl⟩
theorem neg_is (x : Nat) (hx : x < 18446744073709551616) : (x / 9223372036854775808 % 2 == 1) = negB x := by
  unfold negB; rw [Bool.eq_iff_iff]; simp; omega
theorem order_key (a b : Nat) (ha : a < 18446744073709551616) (hb : b < 18446744073709551616) (h : FloatKind.f64.format.order a b = some .lt) : keyN a < keyN b := by
  have ra := Nat.lt_trichotomy (a % 9223372036854775808) 9218868437227405312
  have rb := Nat.lt_trichotomy (b % 9223372036854775808) 9218868437227405312
  unfold Ieee.Format.order at h
  rcases ra with ra | ra | ra
  · obtain ⟨m, e, h1, h2⟩ := read_num a ra
    rw [h1, neg_is a ha] at h
    have na : nanB a = false := by unfold nanB; simp; omega
    rcases rb with rb | rb | rb
    · obtain ⟨n, f, k1, k2⟩ := read_num b rb
      rw [k1, neg_is b hb] at h
      have nb : nanB b = false := by unfold nanB; simp; omega
      simp only [Ieee.Datum.order, Option.some.injEq] at h
      have h3 := signed_lt _ h
      rw [h2, k2] at h3
      have mono1 := rungVal_mono 4503599627370496 (a % 9223372036854775808) (b % 9223372036854775808) (by omega)
      have mono2 := rungVal_mono 4503599627370496 (b % 9223372036854775808) (a % 9223372036854775808) (by omega)
      unfold keyN
      rw [na, nb]
      generalize rungVal 4503599627370496 (a % 9223372036854775808) = va at *
      generalize rungVal 4503599627370496 (b % 9223372036854775808) = vb at *
      cases sa : negB a <;> cases sb : negB b <;> simp [sa, sb] at h3 ⊢ <;> simp [negB] at sa sb <;> omega
    · rw [read_inf b rb, neg_is b hb] at h
      have nb : nanB b = false := by unfold nanB; simp; omega
      unfold keyN; rw [na, nb]
      cases sb : negB b <;> simp [Ieee.Datum.order, sb] at h
      cases sa : negB a <;> simp <;> simp [negB] at sa sb <;> omega
    · obtain ⟨f, k1⟩ := read_nan' b rb
      rw [k1] at h
      simp [Ieee.Datum.order] at h
  · rw [read_inf a ra, neg_is a ha] at h
    have na : nanB a = false := by unfold nanB; simp; omega
    rcases rb with rb | rb | rb
    · obtain ⟨n, f, k1, k2⟩ := read_num b rb
      rw [k1, neg_is b hb] at h
      have nb : nanB b = false := by unfold nanB; simp; omega
      unfold keyN; rw [na, nb]
      cases sa : negB a <;> simp [Ieee.Datum.order, sa] at h
      cases sb : negB b <;> simp <;> simp [negB] at sa sb <;> omega
    · rw [read_inf b rb, neg_is b hb] at h
      have nb : nanB b = false := by unfold nanB; simp; omega
      unfold keyN; rw [na, nb]
      cases sa : negB a <;> cases sb : negB b <;> simp [Ieee.Datum.order, sa, sb] at h
      · exact absurd h (by decide)
      · simp
        simp [negB] at sa sb
        omega
    · obtain ⟨f, k1⟩ := read_nan' b rb
      rw [k1] at h
      simp [Ieee.Datum.order] at h
  · obtain ⟨f, h1⟩ := read_nan' a ra
    rw [h1] at h
    simp [Ieee.Datum.order] at h
end Go.Proofs.YtoogdidgcclmnaaGreatDoor.alv
