import Derived.Test.YtkhflfkedpkelaaGreatDoorFnl
namespace Go.Proofs.YtkhflfkedpkelaaGreatDoor.lx
open Ieee Go.Proofs.YtkhflfkedpkelaaGreatDoor.flo Go.Proofs.YtkhflfkedpkelaaGreatDoor.fm Go.Proofs.YtkhflfkedpkelaaGreatDoor.ky
set_option linter.unusedVariables false
/-! a weight is read of its own text as the same -/
/-- which digits by two a number has is told by how near they are -/
theorem near_one (y t M F M' F' : Nat) (ht : 0 < t) (hF : F ≤ F') (h1 : 4503599627370496 ≤ M) (h2 : M < 9007199254740992) (h1' : 4503599627370496 ≤ M') (h2' : M' < 9007199254740992)
    (lo : (2 * M - 1) * t ≤ 2 * y * 2 ^ F) (hi : 2 * y * 2 ^ F ≤ (2 * M + 1) * t) (ev : M % 2 = 1 → (2 * M - 1) * t < 2 * y * 2 ^ F) (ev2 : M % 2 = 1 → 2 * y * 2 ^ F < (2 * M + 1) * t) (sk : M = 4503599627370496 → (4 * M - 1) * t ≤ 4 * y * 2 ^ F)
    (lo' : (2 * M' - 1) * t ≤ 2 * y * 2 ^ F') (hi' : 2 * y * 2 ^ F' ≤ (2 * M' + 1) * t) (ev' : M' % 2 = 1 → (2 * M' - 1) * t < 2 * y * 2 ^ F') (ev2' : M' % 2 = 1 → 2 * y * 2 ^ F' < (2 * M' + 1) * t) : M = M' ∧ F = F' := by
  obtain ⟨d, rfl⟩ : ∃ d, F' = F + d := ⟨F' - F, by omega⟩
  rw [Nat.pow_add] at lo' hi' ev' ev2'
  obtain ⟨Y, hY⟩ : ∃ Y, Y = 2 * y * 2 ^ F := ⟨_, rfl⟩
  have e1 : 2 * y * (2 ^ F * 2 ^ d) = Y * 2 ^ d := by rw [hY, Nat.mul_assoc (2 * y)]
  have e2 : 4 * y * 2 ^ F = 2 * Y := by rw [hY, show 4 * y = 2 * (2 * y) from by omega, Nat.mul_assoc 2 (2 * y)]
  rw [e1] at lo' hi' ev' ev2'
  rw [e2] at sk
  rw [← hY] at lo hi ev ev2
  clear hY e1 e2
  have dlt : ∀ a b : Nat, a * t ≤ b * t → a ≤ b := fun a b h => Nat.le_of_mul_le_mul_right h ht
  have llt : ∀ a b : Nat, a * t < b * t → a < b := fun a b h => Nat.lt_of_mul_lt_mul_right h
  -- M is no less than what it is by its place
  have big : (4 * 4503599627370496 - 1) * t ≤ 2 * Y := by
    by_cases h : M = 4503599627370496
    · have := sk h
      rwa [h] at this
    · have h3 : (2 * 4503599627370496 + 1) * t ≤ (2 * M - 1) * t := Nat.mul_le_mul_right _ (by omega)
      have h4 : (4 * 4503599627370496 - 1) * t ≤ (2 * (2 * 4503599627370496 + 1)) * t := Nat.mul_le_mul_right _ (by omega)
      rw [Nat.mul_assoc 2] at h4
      omega
  rcases Nat.eq_zero_or_pos d with rfl | hd
  · rw [Nat.pow_zero, Nat.mul_one] at lo' hi' ev' ev2'
    refine ⟨?_, rfl⟩
    have a1 := dlt _ _ (Nat.le_trans lo hi')
    have a2 := dlt _ _ (Nat.le_trans lo' hi)
    rcases Nat.lt_trichotomy M M' with h | h | h
    · exfalso
      have hm : M' = M + 1 := by omega
      rcases Nat.mod_two_eq_zero_or_one M with h0 | h0
      · have h3 := llt _ _ (Nat.lt_of_lt_of_le (ev' (by omega)) hi)
        omega
      · have h3 := llt _ _ (Nat.lt_of_le_of_lt lo' (ev2 h0))
        omega
    · exact h
    · exfalso
      have hm : M = M' + 1 := by omega
      rcases Nat.mod_two_eq_zero_or_one M' with h0 | h0
      · have h3 := llt _ _ (Nat.lt_of_lt_of_le (ev (by omega)) hi')
        omega
      · have h3 := llt _ _ (Nat.lt_of_le_of_lt lo (ev2' h0))
        omega
  · exfalso
    have hp : 2 ≤ 2 ^ d := by
      have := Nat.pow_le_pow_right (n := 2) (by decide) hd
      exact this
    have h3 : Y * 2 ≤ Y * 2 ^ d := Nat.mul_le_mul_left _ hp
    have h4 : (2 * M' + 1) * t ≤ (2 * 9007199254740991 + 1) * t := Nat.mul_le_mul_right _ (by omega)
    have h5 : (4 * 4503599627370496 - 1) * t = (2 * 9007199254740991 + 1) * t := rfl
    by_cases hM : M' = 9007199254740991
    · have h6 := ev2' (by rw [hM])
      omega
    · have h6 : (2 * M' + 1) * t ≤ (2 * 9007199254740990 + 1) * t := Nat.mul_le_mul_right _ (by omega)
      have h7 : (2 * 9007199254740990 + 1) * t < (2 * 9007199254740991 + 1) * t := Nat.mul_lt_mul_of_pos_right (by decide) ht
      omega
theorem wt_scale (s : Bool) (n k z : Nat) (h0 : 0 < n) (hn : n * 10 ^ z < 1000000000000000) (hk : k + z ≤ 6) (hv : n < 1000000000 * 10 ^ k) : wt s (n * 10 ^ z) (k + z) = wt s n k := by
  have hz : 0 < 10 ^ z := Nat.pow_pos (by decide)
  have hk0 : 0 < 10 ^ k := Nat.pow_pos (by decide)
  have hn1 : n ≤ n * 10 ^ z := Nat.le_mul_of_pos_right _ hz
  obtain ⟨M, F, m1, m2, f1, f2, hw, a1, a2, a3, a4, a5⟩ := wt_near n k h0 (by omega) (by omega) hv
  obtain ⟨M', F', m1', m2', f1', f2', hw', a1', a2', a3', a4', a5'⟩ := wt_near (n * 10 ^ z) (k + z) (Nat.mul_pos h0 hz) hn hk (by rw [Nat.pow_add, ← Nat.mul_assoc]; exact Nat.mul_lt_mul_of_pos_right hv hz)
  have p1 : ∀ c, c * 10 ^ (k + z) = c * 10 ^ k * 10 ^ z := fun c => by rw [Nat.pow_add, Nat.mul_assoc]
  have p2 : ∀ c f, c * (n * 10 ^ z) * f = c * n * f * 10 ^ z := fun c f => by
    rw [← Nat.mul_assoc c, Nat.mul_assoc (c * n), Nat.mul_comm (10 ^ z), ← Nat.mul_assoc]
  simp only [p1, p2] at a1' a2' a3' a4' a5'
  have b1 := Nat.le_of_mul_le_mul_right a1' hz
  have b2 := Nat.le_of_mul_le_mul_right a2' hz
  have b3 := fun h => Nat.lt_of_mul_lt_mul_right (a3' h)
  have b4 := fun h => Nat.lt_of_mul_lt_mul_right (a4' h)
  have b5 := fun h => Nat.le_of_mul_le_mul_right (a5' h) hz
  have e : M = M' ∧ F = F' := by
    rcases Nat.le_total F F' with h | h
    · exact near_one n (10 ^ k) M F M' F' hk0 h m1 m2 m1' m2' a1 a2 a3 a4 a5 b1 b2 b3 b4
    · have := near_one n (10 ^ k) M' F' M F hk0 h m1' m2' m1 m2 b1 b2 b3 b4 b5 a1 a2 a3 a4
      exact ⟨this.1.symm, this.2.symm⟩
  rw [hw s, hw' s, e.1, e.2]
end Go.Proofs.YtkhflfkedpkelaaGreatDoor.lx
