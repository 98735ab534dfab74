import Derived.Laws.FloatArith
namespace Go.Proofs.YtkhflfkedpkelaaGreatDoor.flo
open Ieee
set_option linter.unusedVariables false
/-! weights of decimals: a whole number divided by a power of ten -/
theorem p52 : (2 : Nat) ^ 52 = 4503599627370496 := by decide +kernel
theorem p53 : (2 : Nat) ^ 53 = 9007199254740992 := by decide +kernel
theorem e1 : double.leastPlace = -1074 := by decide +kernel
theorem e3 : ((double.fractionBits : Nat) : Int) = 52 := by decide +kernel
theorem e4 : double.binade = 4503599627370496 := by decide +kernel
theorem e5 : double.infRung = 9218868437227405312 := by decide +kernel
theorem e6 : double.signWeight = 9223372036854775808 := by decide +kernel
theorem word_f (r : Nat) : double.word false r = r := by
  unfold Format.word
  rw [if_neg (by decide)]
theorem word_t (r : Nat) : double.word true r = 9223372036854775808 + r := by
  unfold Format.word
  rw [if_pos rfl, e6]
theorem log2_at {n k : Nat} (h1 : 2 ^ k ≤ n) (h2 : n < 2 ^ (k + 1)) : n.log2 = k := by
  have h0 : n ≠ 0 := by have := Nat.two_pow_pos k; omega
  exact (Nat.log2_eq_iff h0).2 ⟨h1, h2⟩
theorem log2_52 {M : Nat} (h1 : 4503599627370496 ≤ M) (h2 : M < 9007199254740992) : M.log2 = 52 := log2_at (by rw [p52]; exact h1) (by rw [show 52 + 1 = 53 from rfl, p53]; exact h2)
theorem log2_scaled {M t : Nat} (h1 : 4503599627370496 ≤ M) (h2 : M < 9007199254740992) : (M * 2 ^ t).log2 = 52 + t := by
  refine log2_at ?_ ?_
  · rw [Nat.pow_add, p52]
    exact Nat.mul_le_mul_right _ h1
  · rw [show 52 + t + 1 = 53 + t from by omega, Nat.pow_add, p53]
    exact Nat.mul_lt_mul_of_pos_right h2 (Nat.two_pow_pos t)
theorem cut_exact (s : Bool) (M t : Nat) (h0 : 0 < M) : Toward.even.cut s (M * 2 ^ t) t = M := by
  have hp := Nat.two_pow_pos t
  have hne : M * 2 ^ t ≠ 0 := by
    have := Nat.mul_pos h0 hp
    omega
  have hle : t ≤ (M * 2 ^ t).log2 := (Nat.le_log2 hne).2 (Nat.le_mul_of_pos_left _ h0)
  have hg : 1 <<< min t ((M * 2 ^ t).log2 + 2) = 2 ^ t := by
    rw [Nat.min_eq_left (by omega), Nat.shiftLeft_eq, Nat.one_mul]
  unfold Toward.cut
  simp only [hg]
  rw [Nat.mul_div_cancel _ hp, Nat.mul_mod_left]
  have h2 : (2 ^ t == 2 * 0) = false := by
    rw [beq_eq_false_iff_ne]
    omega
  simp [h2]
theorem near (s : Bool) (M t : Nat) (p : Int) (h1 : 4503599627370496 ≤ M) (h2 : M < 9007199254740992) (hlo : -1074 ≤ p + t) (hhi : p + t ≤ 971) : double.nearest s (M * 2 ^ t) p = double.word s ((p + t + 1074).toNat * 4503599627370496 + M) := by
  have hl := log2_scaled (t := t) h1 h2
  have h0 : 0 < M := by omega
  have hne : M * 2 ^ t ≠ 0 := by
    have := Nat.mul_pos h0 (Nat.two_pow_pos t)
    omega
  have hc := cut_exact s M t h0
  unfold Format.nearest
  rw [if_neg hne, hl, e1, e3, e4, e5]
  generalize M * 2 ^ t = N at *
  have h3 : max (p + ((52 + t : Nat) : Int) - 52) (-1074) = p + t := by omega
  simp only [h3]
  rw [show (p - (p + (t : Int))).toNat = 0 from by omega, show (p + (t : Int) - p).toNat = t from by omega, Nat.shiftLeft_zero, hc, show (p + (t : Int) - -1074).toNat = (p + t + 1074).toNat from by omega, Nat.min_eq_left ?_]
  have h4 : (p + t + 1074).toNat ≤ 2045 := by omega
  omega
theorem near' (s : Bool) (m j : Nat) (p : Int) (h1 : 4503599627370496 ≤ m * 2 ^ j) (h2 : m * 2 ^ j < 9007199254740992) (hlo : -1074 ≤ p - j) (hhi : p - j ≤ 971) : double.nearest s m p = double.word s ((p - j + 1074).toNat * 4503599627370496 + m * 2 ^ j) := by
  have h0 : m ≠ 0 := by
    rintro rfl
    simp at h1
  have hl : m.log2 + j = 52 := by
    have h3 : (m * 2 ^ j).log2 = m.log2 + j := by
      refine log2_at ?_ ?_
      · rw [Nat.pow_add]
        exact Nat.mul_le_mul_right _ (Nat.log2_self_le h0)
      · rw [show m.log2 + j + 1 = (m.log2 + 1) + j from by omega, Nat.pow_add]
        exact Nat.mul_lt_mul_of_pos_right Nat.lt_log2_self (Nat.two_pow_pos j)
    have h4 : (m * 2 ^ j).log2 = 52 := log2_52 h1 h2
    omega
  have hc := cut_exact s (m * 2 ^ j) 0 (by omega)
  rw [Nat.pow_zero, Nat.mul_one] at hc
  unfold Format.nearest
  rw [if_neg h0, e1, e3, e4, e5]
  have h3 : max (p + (m.log2 : Int) - 52) (-1074) = p - j := by omega
  simp only [h3]
  rw [show (p - (p - (j : Int))).toNat = j from by omega, show (p - (j : Int) - p).toNat = 0 from by omega, Nat.shiftLeft_eq, hc, show (p - (j : Int) - -1074).toNat = (p - j + 1074).toNat from by omega, Nat.min_eq_left ?_]
  have h4 : (p - j + 1074).toNat ≤ 2045 := by omega
  omega
theorem rd (s : Bool) (E M : Nat) (h1 : 4503599627370496 ≤ M) (h2 : M < 9007199254740992) (hE : E ≤ 2045) : double.read (double.word s (E * 4503599627370496 + M)) = .number s M (-1074 + E) := by
  have hR : ∃ R, R = E * 4503599627370496 + M := ⟨_, rfl⟩
  obtain ⟨R, hR⟩ := hR
  have hr : R < 9218868437227405312 := by omega
  have d1 : R / 4503599627370496 = E + 1 := by omega
  have d2 : R % 4503599627370496 = M - 4503599627370496 := by omega
  have hlo : ¬ R < 4503599627370496 := by omega
  rw [← hR]
  have d3 : double.word s R % 9223372036854775808 = R := by
    cases s
    · rw [word_f]; omega
    · rw [word_t]; omega
  have d4 : (double.word s R / 9223372036854775808 % 2 == 1) = s := by
    cases s
    · rw [word_f, show R / 9223372036854775808 = 0 from by omega]; rfl
    · rw [word_t, show (9223372036854775808 + R) / 9223372036854775808 = 1 from by omega]; rfl
  unfold Format.read
  rw [e6, e4, e5, e1]
  simp only [d3, d4]
  rw [if_neg hlo, if_pos hr, d1, d2, show 4503599627370496 + (M - 4503599627370496) = M from by omega, show E + 1 - 1 = E from by omega]
/-- a whole number as a weight -/
theorem whole (m : Nat) (h0 : 0 < m) (h : m < 9007199254740992) : ∃ j M : Nat, j ≤ 52 ∧ 4503599627370496 ≤ M ∧ M < 9007199254740992 ∧ (∀ s, double.nearest s m 0 = double.word s ((1074 - j) * 4503599627370496 + M)) ∧ ∀ s, double.read (double.nearest s m 0) = .number s M (-j) := by
  have hne : m ≠ 0 := by omega
  have hl : m.log2 ≤ 52 := by
    have := (Nat.log2_lt hne (k := 53)).2 (by rw [p53]; exact h)
    omega
  have h1 : 4503599627370496 ≤ m * 2 ^ (52 - m.log2) := by
    have := Nat.mul_le_mul_right (2 ^ (52 - m.log2)) (Nat.log2_self_le hne)
    rwa [← Nat.pow_add, show m.log2 + (52 - m.log2) = 52 from by omega, p52] at this
  have h2 : m * 2 ^ (52 - m.log2) < 9007199254740992 := by
    have := Nat.mul_lt_mul_of_pos_right (Nat.lt_log2_self (n := m)) (Nat.two_pow_pos (52 - m.log2))
    rwa [← Nat.pow_add, show m.log2 + 1 + (52 - m.log2) = 53 from by omega, p53] at this
  have hw : ∀ s, double.nearest s m 0 = double.word s ((1074 - (52 - m.log2)) * 4503599627370496 + m * 2 ^ (52 - m.log2)) := fun s => by
    rw [near' s m (52 - m.log2) 0 h1 h2 (by omega) (by omega), show (0 - ((52 - m.log2 : Nat) : Int) + 1074).toNat = 1074 - (52 - m.log2) from by omega]
  refine ⟨52 - m.log2, m * 2 ^ (52 - m.log2), by omega, h1, h2, hw, fun s => ?_⟩
  rw [hw s, rd s _ _ h1 h2 (by omega)]
  congr 1
  omega
theorem neg_bits (Q : Nat) (E : Int) : double.nearest true Q E = 9223372036854775808 + double.nearest false Q E := by
  unfold Format.nearest
  split
  · rw [word_t, word_f]
  · simp only [word_t, word_f]
    rfl
theorem bits_lt (Q : Nat) (E : Int) : double.nearest false Q E < 9223372036854775808 := by
  unfold Format.nearest
  split
  · rw [word_f]; decide
  · simp only [word_f]
    rw [e5]
    exact Nat.lt_of_le_of_lt (Nat.min_le_right _ _) (by decide)
def qm (g m n : Nat) : Nat := 2 * ((m <<< (g + n.log2 - m.log2)) / n) + ((m <<< (g + n.log2 - m.log2)) % n != 0).toNat
def qe (g m n : Nat) (i j : Int) : Int := i - j - ((g + n.log2 - m.log2 : Nat) : Int) - 1
theorem quot_num (g : Nat) (s : Bool) (m n : Nat) (i j : Int) (hn : n ≠ 0) : Datum.quotient g (.number s m i) (.number false n j) = some (.number s (qm g m n) (qe g m n i j)) := by
  unfold Datum.quotient qm qe
  simp only [if_neg hn, Bool.xor_false]
theorem read0 (s : Bool) : double.read (double.nearest s 0 0) = .number s 0 (-1074) := by
  unfold Format.nearest
  rw [if_pos rfl]
  cases s
  · rw [word_f]; decide +kernel
  · rw [word_t]; decide +kernel
/-- divided: the sign goes along -/
theorem div_at (m d : Nat) (hm : m < 9007199254740992) (h0 : 0 < d) (hd : d < 9007199254740992) : ∃ (Q : Nat) (E : Int), ∀ s, double.div (double.nearest s m 0) (double.nearest false d 0) = some (double.nearest s Q E) := by
  obtain ⟨jd, D, hj, d1, d2, _, rdd⟩ := whole d h0 hd
  have hD : D ≠ 0 := by omega
  rcases Nat.eq_zero_or_pos m with rfl | hp
  · refine ⟨qm (double.fractionBits + 2) 0 D, qe (double.fractionBits + 2) 0 D (-1074) (-jd), fun s => ?_⟩
    unfold Format.div
    rw [read0, rdd, quot_num _ _ _ _ _ _ hD]
    rfl
  · obtain ⟨jm, M, hjm, m1, m2, _, rdm⟩ := whole m hp hm
    refine ⟨qm (double.fractionBits + 2) M D, qe (double.fractionBits + 2) M D (-jm) (-jd), fun s => ?_⟩
    unfold Format.div
    rw [rdm, rdd, quot_num _ _ _ _ _ _ hD]
    rfl
theorem div_nought (s : Bool) (d : Nat) (h0 : 0 < d) (hd : d < 9007199254740992) : double.div (double.nearest s 0 0) (double.nearest false d 0) = some (double.word s 0) := by
  obtain ⟨jd, D, hj, d1, d2, _, rdd⟩ := whole d h0 hd
  have hD : D ≠ 0 := by omega
  have hq : qm (double.fractionBits + 2) 0 D = 0 := by
    unfold qm
    simp
  unfold Format.div
  rw [read0, rdd, quot_num _ _ _ _ _ _ hD, hq]
  simp only [Option.map_some, Format.write]
  unfold Format.nearest
  rw [if_pos rfl]
theorem div_one (s : Bool) (m : Nat) (hm : m < 9007199254740992) : double.div (double.nearest s m 0) (double.nearest false 1 0) = some (double.nearest s m 0) := by
  rcases Nat.eq_zero_or_pos m with rfl | hp
  · rw [div_nought s 1 (by decide) (by decide)]
    unfold Format.nearest
    rw [if_pos rfl]
  · have r1 : double.nearest false 1 0 = 4607182418800017408 := by
      rw [near' false 1 52 0 (by rw [p52]; decide) (by rw [p52]; decide) (by decide) (by decide), word_f]
      decide +kernel
    have r2 : double.read 4607182418800017408 = .number false 4503599627370496 (-52) := by decide +kernel
    obtain ⟨j, M, hj, m1, m2, hw, rdm⟩ := whole m hp hm
    have hl : M.log2 = 52 := log2_52 m1 m2
    have hl2 : (4503599627370496 : Nat).log2 = 52 := log2_52 (by decide) (by decide)
    have hfb : double.fractionBits = 52 := rfl
    unfold Format.div
    rw [rdm, r1, r2, quot_num _ _ _ _ _ _ (by decide), hfb]
    have q1 : qm (52 + 2) M 4503599627370496 = M * 2 ^ 3 := by
      unfold qm
      rw [hl, hl2, Nat.shiftLeft_eq, show M * 2 ^ (52 + 2 + 52 - 52) = (M * 4) * 4503599627370496 from by rw [show 52 + 2 + 52 - 52 = 52 + 2 from rfl, Nat.pow_add, p52]; omega, Nat.mul_div_cancel _ (by decide), Nat.mul_mod_left]
      simp
      omega
    have q2 : qe (52 + 2) M 4503599627370496 (-(j : Int)) (-52) = -(j : Int) - 3 := by
      unfold qe
      rw [hl, hl2]
      omega
    rw [q1, q2]
    simp only [Option.map_some, Format.write]
    rw [near s M 3 (-(j : Int) - 3) m1 m2 (by omega) (by omega), hw s, show (-(j : Int) - 3 + ((3 : Nat) : Int) + 1074).toNat = 1074 - j from by omega]
/-- the weight of a text: its sign, its digits, how many stand behind the point -/
def wt (s : Bool) (m k : Nat) : Nat := (double.div (double.nearest s m 0) (double.nearest false (10 ^ k) 0)).getD 0
theorem pow_lt (k : Nat) (h : k ≤ 6) : 0 < 10 ^ k ∧ 10 ^ k < 9007199254740992 := by
  have h1 : 10 ^ k ≤ 10 ^ 6 := Nat.pow_le_pow_right (by omega) h
  have h2 : (10 : Nat) ^ 6 = 1000000 := by decide
  rw [h2] at h1
  exact ⟨Nat.pow_pos (by omega), by omega⟩
theorem wt_div (s : Bool) (m k : Nat) (hm : m < 9007199254740992) (hk : k ≤ 6) : double.div (double.nearest s m 0) (double.nearest false (10 ^ k) 0) = some (wt s m k) := by
  obtain ⟨Q, E, h⟩ := div_at m (10 ^ k) hm (pow_lt k hk).1 (pow_lt k hk).2
  unfold wt
  rw [h s]
  rfl
theorem wt_zero (s : Bool) (m : Nat) (hm : m < 9007199254740992) : wt s m 0 = double.nearest s m 0 := by
  unfold wt
  rw [Nat.pow_zero, div_one s m hm]
  rfl
theorem wt_nought (s : Bool) (k : Nat) (hk : k ≤ 6) : wt s 0 k = double.word s 0 := by
  unfold wt
  rw [div_nought s _ (pow_lt k hk).1 (pow_lt k hk).2]
  rfl
theorem wt_neg (m k : Nat) (hm : m < 9007199254740992) (hk : k ≤ 6) : wt true m k = 9223372036854775808 + wt false m k ∧ wt false m k < 9223372036854775808 := by
  obtain ⟨Q, E, h⟩ := div_at m (10 ^ k) hm (pow_lt k hk).1 (pow_lt k hk).2
  unfold wt
  rw [h true, h false]
  exact ⟨neg_bits Q E, bits_lt Q E⟩
end Go.Proofs.YtkhflfkedpkelaaGreatDoor.flo
