import Derived.Test.YtkhflfkedpkelaaGreatDoorFlo
import Derived.Test.YtkhflfkedpkelaaGreatDoorFma
namespace Go.Proofs.YtkhflfkedpkelaaGreatDoor.fm
open Ieee Go.Proofs.YtkhflfkedpkelaaGreatDoor.flo
set_option linter.unusedVariables false
/-- a number of steps is cut to the nearest -/
theorem cut_core (A D t Q K low : Nat) (hD : 0 < D) (ht : t = 4 ∨ t = 8) (hQ : Q = 2 * (A / D) + (A % D != 0).toNat) (hlow : low = Q / t) (hK : K = low + (decide (t < 2 * (Q % t)) || (t == 2 * (Q % t) && low % 2 == 1)).toNat) :
    (2 * K - 1) * t * D ≤ 4 * A ∧ 4 * A ≤ (2 * K + 1) * t * D ∧ (K % 2 = 1 → (2 * K - 1) * t * D < 4 * A ∧ 4 * A < (2 * K + 1) * t * D) ∧ 2 * low * t * D ≤ 4 * A := by
  have hd := Nat.div_add_mod A D
  have hm := Nat.mod_lt A hD
  generalize A / D = q at *
  generalize A % D = r at *
  have e1 : ∀ c : Nat, c ≤ 4 * q → c * D ≤ 4 * A := fun c h => by
    have := Nat.mul_le_mul_right D h
    rw [Nat.mul_assoc, Nat.mul_comm q] at this
    omega
  have e2 : ∀ c : Nat, 4 * q + 4 ≤ c → 4 * A < c * D := fun c h => by
    have := Nat.mul_le_mul_right D h
    rw [Nat.add_mul, Nat.mul_assoc, Nat.mul_comm q] at this
    omega
  have e3 : ∀ c : Nat, r = 0 → 4 * q ≤ c → 4 * A ≤ c * D := fun c h0 h => by
    have := Nat.mul_le_mul_right D h
    rw [Nat.mul_assoc, Nat.mul_comm q] at this
    omega
  have e4 : ∀ c : Nat, r = 0 → 4 * q < c → 4 * A < c * D := fun c h0 h => by
    have := Nat.mul_lt_mul_of_pos_right h hD
    rw [Nat.mul_assoc, Nat.mul_comm q] at this
    omega
  have e5 : ∀ c : Nat, c < 4 * q → c * D < 4 * A := fun c h => by
    have := Nat.mul_lt_mul_of_pos_right h hD
    rw [Nat.mul_assoc, Nat.mul_comm q] at this
    omega
  have e6 : ∀ c : Nat, r ≠ 0 → c ≤ 4 * q → c * D < 4 * A := fun c h0 h => by
    have := Nat.mul_le_mul_right D h
    rw [Nat.mul_assoc, Nat.mul_comm q] at this
    omega
  by_cases hr : r = 0
  · have hb : (r != 0).toNat = 0 := by simp [hr]
    rw [hb] at hQ
    by_cases c1 : t < 2 * (Q % t)
    · rw [decide_eq_true c1] at hK
      simp only [Bool.true_or, Bool.toNat_true] at hK
      rcases ht with rfl | rfl
      · exact ⟨e1 _ (by omega), e3 _ hr (by omega), fun h => ⟨e5 _ (by omega), e4 _ hr (by omega)⟩, e1 _ (by omega)⟩
      · exact ⟨e1 _ (by omega), e3 _ hr (by omega), fun h => ⟨e5 _ (by omega), e4 _ hr (by omega)⟩, e1 _ (by omega)⟩
    · rw [decide_eq_false c1, Bool.false_or] at hK
      by_cases c2 : (t == 2 * (Q % t) && low % 2 == 1) = true
      · rw [c2, Bool.toNat_true] at hK
        simp only [Bool.and_eq_true, beq_iff_eq] at c2
        rcases ht with rfl | rfl
        · exact ⟨e1 _ (by omega), e3 _ hr (by omega), fun h => by omega, e1 _ (by omega)⟩
        · exact ⟨e1 _ (by omega), e3 _ hr (by omega), fun h => by omega, e1 _ (by omega)⟩
      · rw [Bool.eq_false_iff.2 c2, Bool.toNat_false] at hK
        simp only [Bool.and_eq_true, beq_iff_eq, not_and] at c2
        rcases ht with rfl | rfl
        · exact ⟨e1 _ (by omega), e3 _ hr (by omega), fun h => ⟨e5 _ (by omega), e4 _ hr (by omega)⟩, e1 _ (by omega)⟩
        · exact ⟨e1 _ (by omega), e3 _ hr (by omega), fun h => ⟨e5 _ (by omega), e4 _ hr (by omega)⟩, e1 _ (by omega)⟩
  · have hb : (r != 0).toNat = 1 := by simp [hr]
    rw [hb] at hQ
    by_cases c1 : t < 2 * (Q % t)
    · rw [decide_eq_true c1] at hK
      simp only [Bool.true_or, Bool.toNat_true] at hK
      rcases ht with rfl | rfl
      · exact ⟨e1 _ (by omega), Nat.le_of_lt (e2 _ (by omega)), fun h => ⟨e6 _ hr (by omega), e2 _ (by omega)⟩, e1 _ (by omega)⟩
      · exact ⟨e1 _ (by omega), Nat.le_of_lt (e2 _ (by omega)), fun h => ⟨e6 _ hr (by omega), e2 _ (by omega)⟩, e1 _ (by omega)⟩
    · rw [decide_eq_false c1, Bool.false_or] at hK
      have c2 : (t == 2 * (Q % t) && low % 2 == 1) = false := by
        rw [Bool.and_eq_false_iff]
        left
        rw [beq_eq_false_iff_ne]
        rcases ht with rfl | rfl <;> omega
      rw [c2, Bool.toNat_false] at hK
      rcases ht with rfl | rfl
      · exact ⟨e1 _ (by omega), Nat.le_of_lt (e2 _ (by omega)), fun h => ⟨e6 _ hr (by omega), e2 _ (by omega)⟩, e1 _ (by omega)⟩
      · exact ⟨e1 _ (by omega), Nat.le_of_lt (e2 _ (by omega)), fun h => ⟨e6 _ hr (by omega), e2 _ (by omega)⟩, e1 _ (by omega)⟩

theorem whole2 (m : Nat) (h0 : 0 < m) (h : m < 9007199254740992) : ∃ j M : Nat, j ≤ 52 ∧ M = m * 2 ^ j ∧ j + m.log2 = 52 ∧ 4503599627370496 ≤ M ∧ M < 9007199254740992 ∧ ∀ s, double.read (double.nearest s m 0) = .number s M (-j) := by
  have hne : m ≠ 0 := by omega
  have hl : m.log2 ≤ 52 := by
    have := (Nat.log2_lt hne (k := 53)).2 (by rw [p53]; exact h)
    omega
  have h1 : 4503599627370496 ≤ m * 2 ^ (52 - m.log2) := by
    have := Nat.mul_le_mul_right (2 ^ (52 - m.log2)) (Nat.log2_self_le hne)
    rwa [← Nat.pow_add, show m.log2 + (52 - m.log2) = 52 from by omega, p52] at this
  have h2 : m * 2 ^ (52 - m.log2) < 9007199254740992 := by
    have := Nat.mul_lt_mul_of_pos_right (Nat.lt_log2_self (n := m)) (Nat.two_pow_pos (52 - m.log2))
    rwa [← Nat.pow_add, show m.log2 + 1 + (52 - m.log2) = 53 from by omega, p53] at this
  refine ⟨52 - m.log2, m * 2 ^ (52 - m.log2), by omega, rfl, by omega, h1, h2, fun s => ?_⟩
  rw [near' s m (52 - m.log2) 0 h1 h2 (by omega) (by omega), show (0 - ((52 - m.log2 : Nat) : Int) + 1074).toNat = 1074 - (52 - m.log2) from by omega, rd s _ _ h1 h2 (by omega)]
  congr 1
  omega
theorem p54 : (2 : Nat) ^ 54 = 18014398509481984 := by decide +kernel
theorem p55 : (2 : Nat) ^ 55 = 36028797018963968 := by decide +kernel
theorem p56 : (2 : Nat) ^ 56 = 72057594037927936 := by decide +kernel
theorem last_b (n u v : Nat) (h : (2 * 9007199254740992 - 1) * u ≤ 2 * (2 * n * v)) : (4 * 4503599627370496 - 1) * u ≤ 4 * n * v := by
  have e : 4 * n * v = 2 * (2 * n * v) := by rw [show 4 * n = 2 * (2 * n) from by omega, Nat.mul_assoc 2 (2 * n)]
  rw [e]
  exact h
/-- a weight of a decimal: its digits by two, and how near they are -/
theorem wt_near (n k : Nat) (h0 : 0 < n) (hn : n < 1000000000000000) (hk : k ≤ 6) (hv : n < 1000000000 * 10 ^ k) :
    ∃ M F : Nat, 4503599627370496 ≤ M ∧ M < 9007199254740992 ∧ 23 ≤ F ∧ F ≤ 72 ∧ (∀ s, wt s n k = double.word s ((1074 - F) * 4503599627370496 + M)) ∧
      (2 * M - 1) * 10 ^ k ≤ 2 * n * 2 ^ F ∧ 2 * n * 2 ^ F ≤ (2 * M + 1) * 10 ^ k ∧ (M % 2 = 1 → (2 * M - 1) * 10 ^ k < 2 * n * 2 ^ F) ∧ (M % 2 = 1 → 2 * n * 2 ^ F < (2 * M + 1) * 10 ^ k) ∧ (M = 4503599627370496 → (4 * M - 1) * 10 ^ k ≤ 4 * n * 2 ^ F) := by
  obtain ⟨k0, k1⟩ := pow_lt k hk
  obtain ⟨jm, A0, hjm, hA0, hjl, m1, m2, rdm⟩ := whole2 n h0 (by omega)
  obtain ⟨jd, D, hjd, hD, hjdl, d1, d2, rdd⟩ := whole2 (10 ^ k) k0 k1
  have hD0 : D ≠ 0 := by omega
  have hl : A0.log2 = 52 := log2_52 m1 m2
  have hl2 : D.log2 = 52 := log2_52 d1 d2
  have hjm3 : 3 ≤ jm := by
    have : n.log2 < 50 := (Nat.log2_lt (by omega)).2 (Nat.lt_of_lt_of_le hn (by decide))
    omega
  -- the quotient
  obtain ⟨A, hA⟩ : ∃ A, A = A0 * 2 ^ 54 := ⟨_, rfl⟩
  obtain ⟨Q, hQ⟩ : ∃ Q, Q = 2 * (A / D) + (A % D != 0).toNat := ⟨_, rfl⟩
  have hfb : double.fractionBits = 52 := rfl
  have hwt : ∀ s, wt s n k = double.nearest s Q (-(jm : Int) + jd - 55) := fun s => by
    unfold wt
    unfold Format.div
    rw [rdm, rdd, quot_num _ _ _ _ _ _ hD0, hfb]
    have q1 : qm (52 + 2) A0 D = Q := by
      unfold qm
      rw [hl, hl2, Nat.shiftLeft_eq, show 52 + 2 + 52 - 52 = 54 from rfl, ← hA, ← hQ]
    have q2 : qe (52 + 2) A0 D (-(jm : Int)) (-(jd : Int)) = -(jm : Int) + jd - 55 := by
      unfold qe
      rw [hl, hl2]
      omega
    rw [q1, q2]
    rfl
  have q53 : 9007199254740992 ≤ A / D := by
    refine (Nat.le_div_iff_mul_le (by omega)).2 ?_
    rw [hA, p54]
    omega
  have q55 : A / D < 36028797018963968 := by
    refine (Nat.div_lt_iff_lt_mul (by omega)).2 ?_
    rw [hA, p54]
    omega
  have hst : (A % D != 0).toNat ≤ 1 := by cases (A % D != 0) <;> decide
  have hQ0 : Q ≠ 0 := by omega
  obtain ⟨t, ht, hlog⟩ : ∃ t, (t = 2 ∨ t = 3) ∧ Q.log2 = 52 + t := by
    by_cases hc : Q < 36028797018963968
    · exact ⟨2, Or.inl rfl, log2_at (by rw [show 52 + 2 = 54 from rfl, p54]; omega) (by rw [show 52 + 2 + 1 = 55 from rfl, p55]; exact hc)⟩
    · exact ⟨3, Or.inr rfl, log2_at (by rw [show 52 + 3 = 55 from rfl, p55]; omega) (by rw [show 52 + 3 + 1 = 56 from rfl, p56]; omega)⟩
  have hQl : 2 ^ (52 + t) ≤ Q := hlog ▸ Nat.log2_self_le hQ0
  have hQu : Q < 2 ^ (52 + t + 1) := hlog ▸ Nat.lt_log2_self
  have ht48 : 2 ^ t = 4 ∨ 2 ^ t = 8 := by rcases ht with rfl | rfl <;> decide
  obtain ⟨low, hlow⟩ : ∃ low, low = Q / 2 ^ t := ⟨_, rfl⟩
  obtain ⟨K, hK⟩ : ∃ K, K = low + (decide (2 ^ t < 2 * (Q % 2 ^ t)) || (2 ^ t == 2 * (Q % 2 ^ t) && low % 2 == 1)).toNat := ⟨_, rfl⟩
  obtain ⟨c1, c2, c3, c4⟩ := cut_core A D (2 ^ t) Q K low (by omega) ht48 hQ hlow hK
  have hlo : 4503599627370496 ≤ low := by
    rw [hlow]
    refine (Nat.le_div_iff_mul_le (Nat.two_pow_pos t)).2 ?_
    rw [← p52, ← Nat.pow_add]
    exact hQl
  have hlu : low < 9007199254740992 := by
    rw [hlow]
    refine (Nat.div_lt_iff_lt_mul (Nat.two_pow_pos t)).2 ?_
    rw [← p53, ← Nat.pow_add]
    rw [show 53 + t = 52 + t + 1 from by omega]
    exact hQu
  have hKb : low ≤ K ∧ K ≤ low + 1 := by
    generalize (decide (2 ^ t < 2 * (Q % 2 ^ t)) || (2 ^ t == 2 * (Q % 2 ^ t) && low % 2 == 1)) = b at hK
    cases b <;> simp at hK <;> omega
  -- where the last digit stands
  obtain ⟨G, hG⟩ : ∃ G : Nat, jm + 55 = G + jd + t := ⟨jm + 55 - jd - t, by omega⟩
  have hnear : ∀ s, wt s n k = double.word s (min ((1074 - G) * 4503599627370496 + K) 9218868437227405312) := fun s => by
    rw [hwt s]
    unfold Format.nearest
    rw [if_neg hQ0, hlog, e1, e3, e4, e5]
    have h3 : max (-(jm : Int) + jd - 55 + ((52 + t : Nat) : Int) - 52) (-1074) = -(G : Int) := by omega
    simp only [h3]
    rw [show (-(jm : Int) + jd - 55 - -(G : Int)).toNat = 0 from by omega, show (-(G : Int) - (-(jm : Int) + jd - 55)).toNat = t from by omega, Nat.shiftLeft_zero, show (-(G : Int) - -1074).toNat = 1074 - G from by omega]
    have hcut : Toward.even.cut s Q t = K := by
      have hle : min t (Q.log2 + 2) = t := by rw [hlog]; omega
      unfold Toward.cut
      simp only [hle, Nat.shiftLeft_eq, Nat.one_mul]
      rw [← hlow, hK]
    rw [hcut]
  have hS : 0 < 2 ^ jd * 2 ^ t := Nat.mul_pos (Nat.two_pow_pos _) (Nat.two_pow_pos _)
  have hA4 : 4 * A = 2 * n * 2 ^ G * (2 ^ jd * 2 ^ t) := by
    rw [hA, hA0, Nat.mul_assoc n, ← Nat.pow_add, show jm + 54 = G + jd + t - 1 from by omega, ← Nat.pow_add, Nat.mul_assoc (2 * n), ← Nat.pow_add, show G + (jd + t) = (G + jd + t - 1) + 1 from by omega, Nat.pow_succ]
    generalize 2 ^ (G + jd + t - 1) = z
    rw [Nat.mul_assoc 2, ← Nat.mul_assoc n]
    omega
  have hx : ∀ c, c * 2 ^ t * D = c * 10 ^ k * (2 ^ jd * 2 ^ t) := fun c => by
    rw [hD]
    simp only [Nat.mul_assoc, Nat.mul_left_comm, Nat.mul_comm]
  rw [hA4] at c1 c2 c3 c4
  simp only [hx] at c1 c2 c3 c4
  have b1 := Nat.le_of_mul_le_mul_right c1 hS
  have b2 := Nat.le_of_mul_le_mul_right c2 hS
  have b3 := fun h => Nat.lt_of_mul_lt_mul_right (c3 h).1
  have b4 := fun h => Nat.lt_of_mul_lt_mul_right (c3 h).2
  have b5 := Nat.le_of_mul_le_mul_right c4 hS
  clear c1 c2 c3 c4 hA4 hx hS hwt
  -- the size
  have hten : 10 ^ k ≤ 1000000 := by
    have h1 : 10 ^ k ≤ 10 ^ 6 := Nat.pow_le_pow_right (by decide) hk
    exact Nat.le_trans h1 (by decide)
  have size : ∀ M F : Nat, 4503599627370496 ≤ M → M < 9007199254740992 → (2 * M - 1) * 10 ^ k ≤ 2 * n * 2 ^ F → 2 * n * 2 ^ F ≤ (2 * M + 1) * 10 ^ k → 23 ≤ F ∧ F ≤ 72 := fun M F hM1 hM2 h1 h2 => by
    constructor
    · rcases Nat.lt_or_ge F 23 with hf | hf
      · exfalso
        have f1 : 2 ^ F ≤ 4194304 := by
          have := Nat.pow_le_pow_right (n := 2) (by decide) (show F ≤ 22 from by omega)
          exact Nat.le_trans this (by decide)
        have f2 : 2 * n * 2 ^ F ≤ 2 * n * 4194304 := Nat.mul_le_mul_left _ f1
        have f3 : 9007199254740991 * 10 ^ k ≤ (2 * M - 1) * 10 ^ k := Nat.mul_le_mul_right _ (by omega)
        generalize 10 ^ k = u at *
        omega
      · exact hf
    · rcases Nat.lt_or_ge 72 F with hf | hf
      · exfalso
        have f1 : 2 ^ 73 ≤ 2 ^ F := Nat.pow_le_pow_right (by decide) (by omega)
        have f2 : 2 * 2 ^ 73 ≤ 2 * n * 2 ^ F := Nat.mul_le_mul (by omega) f1
        have f3 : (2 * M + 1) * 10 ^ k ≤ 18014398509481983 * 1000000 := Nat.mul_le_mul (by omega) hten
        have f4 : 18014398509481983 * 1000000 < 2 * 2 ^ 73 := by decide +kernel
        omega
      · exact hf
  rcases Nat.lt_or_ge K 9007199254740992 with hKK | hKK
  · obtain ⟨z1, z2⟩ := size K G (by omega) hKK b1 b2
    refine ⟨K, G, by omega, hKK, z1, z2, fun s => ?_, b1, b2, b3, b4, fun h => ?_⟩
    · rw [hnear s, Nat.min_eq_left (by omega)]
    · have e : low = K := by omega
      rw [e, Nat.mul_assoc 2] at b5
      have b6 : (4 * K - 1) * 10 ^ k ≤ 2 * (2 * n * 2 ^ G) := by
        have : (4 * K - 1) * 10 ^ k ≤ 2 * (2 * (K * 10 ^ k)) := by
          rw [Nat.sub_mul, Nat.mul_assoc]
          omega
        exact Nat.le_trans this (by omega)
      rw [show 4 * n = 2 * (2 * n) from by omega, Nat.mul_assoc 2 (2 * n)]
      exact b6
  · have hK2 : K = 9007199254740992 := by omega
    subst hK2
    have hG1 : 1 ≤ G := by omega
    obtain ⟨G1, rfl⟩ : ∃ G1, G = G1 + 1 := ⟨G - 1, by omega⟩
    have e : 2 * n * 2 ^ (G1 + 1) = 2 * (2 * n * 2 ^ G1) := by
      rw [Nat.pow_succ, Nat.mul_comm (2 ^ G1), Nat.mul_left_comm]
    rw [e] at b1 b2
    have y1 : (2 * 4503599627370496 - 1) * 10 ^ k ≤ 2 * n * 2 ^ G1 := by
      generalize 10 ^ k = u at *
      omega
    have y2 : 2 * n * 2 ^ G1 ≤ (2 * 4503599627370496 + 1) * 10 ^ k := by
      generalize 10 ^ k = u at *
      omega
    obtain ⟨z1, z2⟩ := size 4503599627370496 G1 (by omega) (by omega) y1 y2
    refine ⟨4503599627370496, G1, by omega, by omega, z1, z2, fun s => ?_, y1, y2, fun h => by omega, fun h => by omega, fun _ => ?_⟩
    · rw [hnear s, Nat.min_eq_left (by omega), show (1074 - (G1 + 1)) * 4503599627370496 + 9007199254740992 = (1074 - G1) * 4503599627370496 + 4503599627370496 from by omega]
    · exact last_b n (10 ^ k) (2 ^ G1) b1
end Go.Proofs.YtkhflfkedpkelaaGreatDoor.fm
