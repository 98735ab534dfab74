import Derived.Laws.FloatArith
import Derived.Test.YtldamieigigncaaGreatDoorVcaa
namespace Go.Proofs.YtldamieigigncaaGreatDoor.fm
set_option linter.unusedVariables false
def unr (X G : Nat) : Nat := if X % G = 0 then X / G else (X / G) ||| 1
theorem or_one (n : Nat) : n ||| 1 = 2 * (n / 2) + 1 := by
  have h1 : (n ||| 1) / 2 = n / 2 := by
    rw [Nat.or_div_two]; simp
  have h2 : (n ||| 1) % 2 = 1 := by
    rw [Nat.or_mod_two_eq_one]; simp
  omega
theorem unr_lo (X G c : Nat) (hG : 0 < G) (o : Nat) (ho : o ≤ 1) (h : X ≤ 4 * c * G) (hs : o = 1 → X < 4 * c * G) : (unr X G + o + 3) / 4 ≤ c := by
  unfold unr
  have hd := Nat.div_add_mod X G
  have hm := Nat.mod_lt X hG
  by_cases h0 : X % G = 0
  · rw [if_pos h0]
    rw [h0, Nat.add_zero] at hd
    have h1 : X / G ≤ 4 * c := Nat.div_le_of_le_mul (by rw [Nat.mul_comm]; exact h)
    have h2 : o = 1 → X / G < 4 * c := fun e => (Nat.div_lt_iff_lt_mul hG).2 (hs e)
    rcases (by omega : o = 0 ∨ o = 1) with rfl | rfl
    · omega
    · have := h2 rfl
      omega
  · rw [if_neg h0, or_one]
    have h1 : X / G < 4 * c := by
      refine (Nat.div_lt_iff_lt_mul hG).2 ?_
      rcases Nat.lt_or_ge X (4 * c * G) with h2 | h2
      · exact h2
      · have : X = 4 * c * G := by omega
        rw [this, Nat.mul_mod_left] at h0
        exact absurd rfl h0
    omega
theorem unr_hi (X G c : Nat) (hG : 0 < G) (o : Nat) (ho : o ≤ 1) (h : 4 * c * G ≤ X) (hs : o = 1 → 4 * c * G < X) : c ≤ (unr X G - o) / 4 ∧ o ≤ unr X G := by
  unfold unr
  have hd := Nat.div_add_mod X G
  have hm := Nat.mod_lt X hG
  have h1 : 4 * c ≤ X / G := (Nat.le_div_iff_mul_le hG).2 h
  by_cases h0 : X % G = 0
  · rw [if_pos h0]
    rw [h0, Nat.add_zero] at hd
    have h2 : o = 1 → 4 * c < X / G := fun e => by
      have := hs e
      rcases Nat.lt_or_ge (4 * c) (X / G) with h3 | h3
      · exact h3
      · have e2 : X / G = 4 * c := by omega
        rw [e2, Nat.mul_comm] at hd
        omega
    rcases (by omega : o = 0 ∨ o = 1) with rfl | rfl
    · omega
    · have := h2 rfl
      omega
  · rw [if_neg h0, or_one]
    omega
theorem unr_lt (X G c : Nat) (hG : 0 < G) (h : X < 4 * c * G) : unr X G < 4 * c := by
  unfold unr
  have h1 : X / G < 4 * c := (Nat.div_lt_iff_lt_mul hG).2 h
  split
  · exact h1
  · rw [or_one]; omega

def l2p (p : Int) : Int := (p * 108853) / 32768
def l10 (x : Int) : Int := (x * 78913) / 262144
def skw (x : Int) : Int := (x * 631305 - 261663) / 2097152
def uscN (x hi lo s : Nat) : Nat :=
  if x * hi / 18446744073709551616 / 2 ^ s * 2 ^ s = x * hi / 18446744073709551616 then
    ((x * hi / 18446744073709551616 + 18446744073709551616 - (if x * hi % 18446744073709551616 < x * lo / 18446744073709551616 then 1 else 0)) % 18446744073709551616) / 2 ^ s ||| (if 1 < (x * hi % 18446744073709551616 + 18446744073709551616 - x * lo / 18446744073709551616) % 18446744073709551616 then 1 else 0)
  else x * hi / 18446744073709551616 / 2 ^ s ||| 1
theorem usc_exact (x hi s : Nat) (hx : x < 18446744073709551616) (hh : hi < 18446744073709551616) (he : x % 2 = 0) : uscN x hi 0 s = unr (x * hi) (18446744073709551616 * 2 ^ s) := by
  have hP : x * hi < 18446744073709551616 * 18446744073709551616 := Nat.lt_of_le_of_lt (Nat.mul_le_mul_left x (Nat.le_of_lt hh)) (Nat.mul_lt_mul_of_pos_right hx (by decide))
  have hev : x * hi % 2 = 0 := by rw [Nat.mul_mod, he]; simp
  unfold uscN unr
  generalize x * hi = P at *
  have hH : P / 18446744073709551616 < 18446744073709551616 := Nat.div_lt_of_lt_mul hP
  have h2 : (18446744073709551616 : Nat) = 2 * 9223372036854775808 := rfl
  have hme : P % 18446744073709551616 % 2 = 0 := by omega
  have hmd : P % (18446744073709551616 * 2 ^ s) = P % 18446744073709551616 + 18446744073709551616 * (P / 18446744073709551616 % 2 ^ s) := Nat.mod_mul
  rw [← Nat.div_div_eq_div_mul, hmd]
  have hdm := Nat.div_add_mod (P / 18446744073709551616) (2 ^ s)
  have hz : x * 0 / 18446744073709551616 = 0 := by simp
  rw [hz]
  rw [if_neg (Nat.not_lt_zero _)]
  rw [show (P / 18446744073709551616 + 18446744073709551616 - 0) % 18446744073709551616 = P / 18446744073709551616 from by omega]
  rw [show (P % 18446744073709551616 + 18446744073709551616 - 0) % 18446744073709551616 = P % 18446744073709551616 from by omega]
  generalize hHe : P / 18446744073709551616 = H at *
  generalize hme2 : P % 18446744073709551616 = mid at *
  by_cases h1 : H % 2 ^ s = 0
  · rw [if_pos (by rw [Nat.mul_comm]; omega), h1, Nat.mul_zero, Nat.add_zero]
    by_cases h0 : mid = 0
    · rw [if_neg (by omega), if_pos h0, Nat.or_zero]
    · rw [if_pos (by omega), if_neg h0]
  · rw [if_neg (by rw [Nat.mul_comm]; omega), if_neg (by omega)]
def tailN (T : Nat → Nat × Nat) (mn mx m odd : Nat) (e p : Int) : Nat × Int :=
  let hi := (T (p + 348).toNat).1
  let lo := (T (p + 348).toNat).2
  let s := ((-(e + l2p p + 3)) % 64).toNat
  let dmin := ((uscN mn hi lo s + odd) % 18446744073709551616 + 3) % 18446744073709551616 / 4
  let dmax := (uscN mx hi lo s + 18446744073709551616 - odd) % 18446744073709551616 / 4
  let d := dmax / 10
  if dmin ≤ d * 10 then (d, -(p - 1))
  else if dmin < dmax then (((uscN m hi lo s + 1) + (uscN m hi lo s / 4 % 2)) % 18446744073709551616 / 4, -p) else (dmin, -p)
def shortN (T : Nat → Nat × Nat) (m : Nat) (e : Int) : Nat × Int :=
  if m = 9223372036854775808 ∧ -1085 < e then tailN T (m - 512) (m + 1024) m (m / 2048 % 2) e (-skw (e + 11))
  else if -1085 ≤ e then tailN T (m - 1024) (m + 1024) m (m / 2048 % 2) e (-l10 (e + 11))
  else tailN T (m - 2 ^ (11 + (-1085 - e) - 1).toNat) (m + 2 ^ (11 + (-1085 - e) - 1).toNat) m (m / 2 ^ (11 + (-1085 - e)).toNat % 2) e (-l10 (e + (11 + (-1085 - e))))
def Good (T : Nat → Nat × Nat) : Prop := ∀ p : Nat, 7 ≤ p → p ≤ 23 → (T (p + 348)).2 = 0 ∧ (T (p + 348)).1 < 18446744073709551616 ∧ (T (p + 348)).1 * 2 ^ (l2p p).toNat = 10 ^ p * 9223372036854775808
theorem tail_dec (T : Nat → Nat × Nat) (hT : Good T) (mn mx m odd F p D : Nat) (hp7 : 7 ≤ p) (hp : p ≤ 23) (hmn : mn < 18446744073709551616) (hmx : mx < 18446744073709551616) (e1 : mn % 2 = 0) (e2 : mx % 2 = 0) (ho : odd ≤ 1)
    (hs : ∃ s : Nat, 3 ≤ s ∧ s < 64 ∧ (F : Int) + 8 - l2p p = s)
    (h1 : mn * 10 ^ p ≤ 10 * D * 2 ^ (F + 11)) (h1s : odd = 1 → mn * 10 ^ p < 10 * D * 2 ^ (F + 11))
    (h2 : 10 * D * 2 ^ (F + 11) ≤ mx * 10 ^ p) (h2s : odd = 1 → 10 * D * 2 ^ (F + 11) < mx * 10 ^ p)
    (hw : (mx - mn) * 10 ^ p < 10 * 2 ^ (F + 11)) :
    D < 18446744073709551616 ∧ tailN T mn mx m odd (-(F : Int) - 11) p = (D, -((p : Int) - 1)) := by
  obtain ⟨s, s1, s2, s3⟩ := hs
  obtain ⟨t1, t2, t3⟩ := hT p hp7 hp
  unfold tailN
  rw [show ((p : Int) + 348).toNat = p + 348 from by omega, t1, show ((-(-(F : Int) - 11 + l2p p + 3)) % 64).toNat = s from by omega]
  generalize (T (p + 348)).1 = hi at *
  simp only [usc_exact _ _ _ hmn t2 e1, usc_exact _ _ _ hmx t2 e2]
  have hl0 : 0 ≤ l2p p := by unfold l2p; omega
  have hls : (l2p p).toNat + s = F + 8 := by omega
  generalize hG : 18446744073709551616 * 2 ^ s = G
  have hGp : 0 < G := by rw [← hG]; exact Nat.mul_pos (by decide) (Nat.two_pow_pos s)
  have hLp : 0 < 2 ^ (l2p p).toNat := Nat.two_pow_pos _
  -- G * 2^lp = 2^(F+11) * 2^61
  have hGL : G * 2 ^ (l2p p).toNat = 2 ^ (F + 11) * 2305843009213693952 := by
    rw [← hG, Nat.mul_assoc, ← Nat.pow_add, Nat.add_comm s, hls, Nat.pow_add, Nat.pow_add, show (2 : Nat) ^ 8 = 256 from rfl, show (2 : Nat) ^ 11 = 2048 from rfl]
    generalize 2 ^ F = y
    omega
  generalize 2 ^ (l2p p).toNat = L at *
  generalize 2 ^ (F + 11) = K at *
  generalize 10 ^ p = Tp at *
  -- any c, x: x*hi vs 4*c*G
  have key : ∀ x c : Nat, (x * hi) * L = x * Tp * 9223372036854775808 ∧ (4 * c * G) * L = c * K * 9223372036854775808 := fun x c => by
    refine ⟨by rw [Nat.mul_assoc, t3, Nat.mul_assoc], ?_⟩
    rw [Nat.mul_assoc, hGL, Nat.mul_assoc c K, Nat.mul_assoc 4 c, Nat.mul_left_comm c K]
    rw [show (4 : Nat) * (K * (c * 2305843009213693952)) = K * (c * 9223372036854775808) from by
      rw [Nat.mul_left_comm, show 4 * (c * 2305843009213693952) = c * 9223372036854775808 from by omega], Nat.mul_left_comm]
  have c63 : (0 : Nat) < 9223372036854775808 := by decide
  have le1 : ∀ x c : Nat, x * Tp ≤ c * K → x * hi ≤ 4 * c * G := fun x c h => by
    refine Nat.le_of_mul_le_mul_right ?_ hLp
    rw [(key x c).1, (key x c).2]
    exact Nat.mul_le_mul_right _ h
  have lt1 : ∀ x c : Nat, x * Tp < c * K → x * hi < 4 * c * G := fun x c h => by
    refine Nat.lt_of_mul_lt_mul_right (a := L) ?_
    rw [(key x c).1, (key x c).2]
    exact Nat.mul_lt_mul_of_pos_right h c63
  have le2 : ∀ x c : Nat, c * K ≤ x * Tp → 4 * c * G ≤ x * hi := fun x c h => by
    refine Nat.le_of_mul_le_mul_right ?_ hLp
    rw [(key x c).1, (key x c).2]
    exact Nat.mul_le_mul_right _ h
  have lt2 : ∀ x c : Nat, c * K < x * Tp → 4 * c * G < x * hi := fun x c h => by
    refine Nat.lt_of_mul_lt_mul_right (a := L) ?_
    rw [(key x c).1, (key x c).2]
    exact Nat.mul_lt_mul_of_pos_right h c63
  have a1 := unr_lo (mn * hi) G (10 * D) hGp odd ho (le1 _ _ h1) (fun e => lt1 _ _ (h1s e))
  have a2 := unr_hi (mx * hi) G (10 * D) hGp odd ho (le2 _ _ h2) (fun e => lt2 _ _ (h2s e))
  have hmx2 : mx * Tp < (10 * D + 10) * K := by
    rw [Nat.sub_mul] at hw
    rw [Nat.add_mul]
    omega
  have a3 := unr_lt (mx * hi) G (10 * D + 10) hGp (lt1 _ _ hmx2)
  have a4 := unr_lt (mn * hi) G (10 * D + 10) hGp (Nat.lt_of_le_of_lt (le1 _ _ h1) (Nat.mul_lt_mul_of_pos_right (by omega) hGp))
  have a5 : 4 * (10 * D) * 8 < 18446744073709551616 := by
    have b1 := le2 _ _ h2
    have b2 : mx * hi < 18446744073709551616 * 18446744073709551616 := Nat.lt_of_le_of_lt (Nat.mul_le_mul_left mx (Nat.le_of_lt t2)) (Nat.mul_lt_mul_of_pos_right hmx (by decide))
    have b3 : 18446744073709551616 * 8 ≤ G := by
      rw [← hG]
      exact Nat.mul_le_mul_left _ (Nat.pow_le_pow_right (by decide) s1 (n := 2))
    have b4 := Nat.mul_le_mul_left (4 * (10 * D)) b3
    generalize 4 * (10 * D) * G = q at *
    generalize mx * hi = q2 at *
    omega
  generalize unr (mn * hi) G = u1 at *
  generalize unr (mx * hi) G = u2 at *
  clear key le1 lt1 le2 lt2 h1 h1s h2 h2s hw hmx2
  refine ⟨by omega, ?_⟩
  rw [show (u1 + odd) % 18446744073709551616 = u1 + odd from by omega, show (u1 + odd + 3) % 18446744073709551616 = u1 + odd + 3 from by omega, show (u2 + 18446744073709551616 - odd) % 18446744073709551616 = u2 - odd from by omega, show (u2 - odd) / 4 / 10 = D from by omega]
  rw [if_pos (by omega)]

def okP (F p : Nat) (a b : Nat) : Bool := decide (7 ≤ p) && decide (p ≤ 23) && decide (a * 10 ^ (p - 1) < b * 2 ^ F) && decide (3 ≤ (F : Int) + 8 - l2p p) && decide ((F : Int) + 8 - l2p p < 64)
theorem ptab : ∀ F : Nat, F < 73 → 23 ≤ F → (decide (0 ≤ -l10 (-(F : Int))) && okP F (-l10 (-(F : Int))).toNat 1 1 && decide (0 ≤ -skw (-(F : Int))) && okP F (-skw (-(F : Int))).toNat 3 4) = true := by decide +kernel
theorem okP_use {F p a b : Nat} (h : okP F p a b = true) : 7 ≤ p ∧ p ≤ 23 ∧ a * 10 ^ (p - 1) < b * 2 ^ F ∧ ∃ s : Nat, 3 ≤ s ∧ s < 64 ∧ (F : Int) + 8 - l2p p = s := by
  unfold okP at h
  simp only [Bool.and_eq_true, decide_eq_true_eq] at h
  obtain ⟨⟨⟨⟨h1, h2⟩, h3⟩, h4⟩, h5⟩ := h
  exact ⟨h1, h2, h3, ((F : Int) + 8 - l2p p).toNat, by omega, by omega, by omega⟩
theorem sc_x1 (M : Nat) (h : 4503599627370496 ≤ M) : M * 2048 - 1024 = (2 * M - 1) * 1024 := by omega
theorem sc_x2 (M : Nat) : M * 2048 + 1024 = (2 * M + 1) * 1024 := by omega
theorem sc_x3 (M : Nat) (h : 4503599627370496 ≤ M) : M * 2048 - 512 = (4 * M - 1) * 512 := by omega
theorem sc_w1 (M u v : Nat) (h : 4503599627370496 ≤ M) (h3 : 1 * u < 1 * v) : (M * 2048 + 1024 - (M * 2048 - 1024)) * (10 * u) < 10 * (v * 2048) := by
  rw [show M * 2048 + 1024 - (M * 2048 - 1024) = 2048 from by omega]; omega
theorem sc_w2 (M u v : Nat) (h : 4503599627370496 ≤ M) (h3 : 3 * u < 4 * v) : (M * 2048 + 1024 - (M * 2048 - 512)) * (10 * u) < 10 * (v * 2048) := by
  rw [show M * 2048 + 1024 - (M * 2048 - 512) = 1536 from by omega]; omega
theorem sc_b (M : Nat) (h : 4503599627370496 ≤ M) (h2 : M < 9007199254740992) : M * 2048 - 1024 < 18446744073709551616 ∧ M * 2048 - 512 < 18446744073709551616 ∧ M * 2048 + 1024 < 18446744073709551616 ∧ (M * 2048 - 1024) % 2 = 0 ∧ (M * 2048 - 512) % 2 = 0 ∧ (M * 2048 + 1024) % 2 = 0 ∧ M % 2 ≤ 1 ∧ M * 2048 / 2048 % 2 = M % 2 := by omega
theorem sc_y1 (n x : Nat) : n * x * 2048 = 2 * n * x * 1024 := by
  rw [Nat.mul_assoc 2]
  generalize n * x = y
  omega
theorem sc_y2 (n x : Nat) : n * x * 2048 = 4 * n * x * 512 := by
  rw [Nat.mul_assoc 4]
  generalize n * x = y
  omega
theorem sc_e1 (x c k p : Nat) (h : k ≤ p) : x * 10 ^ k * (c * 10 ^ (p - k)) = x * c * 10 ^ p := by
  have e : (10 : Nat) ^ p = 10 ^ k * 10 ^ (p - k) := by rw [← Nat.pow_add]; congr 1; omega
  rw [e]
  simp only [Nat.mul_assoc, Nat.mul_left_comm]
theorem sc_e2 (y f c t : Nat) : y * f * (c * t) = y * t * c * f := by rw [Nat.mul_assoc, Nat.mul_assoc, Nat.mul_assoc, Nat.mul_left_comm t, Nat.mul_comm t, Nat.mul_left_comm f c, Nat.mul_comm f]
theorem sc_em (n j : Nat) : 10 * (n * 10 ^ j) = n * 10 ^ (j + 1) := by
  rw [Nat.pow_succ]
  simp only [Nat.mul_left_comm, Nat.mul_comm]
theorem short_dec (T : Nat → Nat × Nat) (hT : Good T) (M F n k : Nat) (hM : 4503599627370496 ≤ M) (hM2 : M < 9007199254740992) (hF : 23 ≤ F) (hF2 : F ≤ 72) (hk : k ≤ 6)
    (lo : (2 * M - 1) * 10 ^ k ≤ 2 * n * 2 ^ F) (hi : 2 * n * 2 ^ F ≤ (2 * M + 1) * 10 ^ k) (lo1 : M % 2 = 1 → (2 * M - 1) * 10 ^ k < 2 * n * 2 ^ F) (hi1 : M % 2 = 1 → 2 * n * 2 ^ F < (2 * M + 1) * 10 ^ k)
    (sk : M = 4503599627370496 → (4 * M - 1) * 10 ^ k ≤ 4 * n * 2 ^ F) :
    ∃ q : Nat, 6 ≤ q ∧ q ≤ 22 ∧ n * 10 ^ (q - k) < 18446744073709551616 ∧ shortN T (M * 2048) (-(F : Int) - 11) = (n * 10 ^ (q - k), -(q : Int)) := by
  have ht := ptab F (by omega) hF
  simp only [Bool.and_eq_true, decide_eq_true_eq] at ht
  obtain ⟨⟨⟨z1, t1⟩, z2⟩, t2⟩ := ht
  obtain ⟨a1, a2, a3, a4⟩ := okP_use t1
  obtain ⟨b1, b2, b3, b4⟩ := okP_use t2
  -- the two ways
  have e11 : -(F : Int) - 11 + 11 = -(F : Int) := by omega
  have scale : ∀ p x y c : Nat, k ≤ p → x * 10 ^ k ≤ y * 2 ^ F → x * c * 10 ^ p ≤ y * 10 ^ (p - k) * c * 2 ^ F := fun p x y c hp h => by
    have h2 := Nat.mul_le_mul_right (c * 10 ^ (p - k)) h
    have e1 := sc_e1 x c k p hp
    have e2 := sc_e2 y (2 ^ F) c (10 ^ (p - k))
    rwa [e1, e2] at h2
  have scale1 : ∀ p x y c : Nat, 0 < c → k ≤ p → x * 10 ^ k < y * 2 ^ F → x * c * 10 ^ p < y * 10 ^ (p - k) * c * 2 ^ F := fun p x y c hc hp h => by
    have h2 := Nat.mul_lt_mul_of_pos_right h (Nat.mul_pos hc (Nat.pow_pos (n := p - k) (by decide : 0 < 10)))
    have e1 := sc_e1 x c k p hp
    have e2 := sc_e2 y (2 ^ F) c (10 ^ (p - k))
    rwa [e1, e2] at h2
  have scale2 : ∀ p x y c : Nat, k ≤ p → y * 2 ^ F ≤ x * 10 ^ k → y * 10 ^ (p - k) * c * 2 ^ F ≤ x * c * 10 ^ p := fun p x y c hp h => by
    have h2 := Nat.mul_le_mul_right (c * 10 ^ (p - k)) h
    have e1 := sc_e1 x c k p hp
    have e2 := sc_e2 y (2 ^ F) c (10 ^ (p - k))
    rwa [e1, e2] at h2
  have scale3 : ∀ p x y c : Nat, 0 < c → k ≤ p → y * 2 ^ F < x * 10 ^ k → y * 10 ^ (p - k) * c * 2 ^ F < x * c * 10 ^ p := fun p x y c hc hp h => by
    have h2 := Nat.mul_lt_mul_of_pos_right h (Nat.mul_pos hc (Nat.pow_pos (n := p - k) (by decide : 0 < 10)))
    have e1 := sc_e1 x c k p hp
    have e2 := sc_e2 y (2 ^ F) c (10 ^ (p - k))
    rwa [e1, e2] at h2
  have em : ∀ p, 7 ≤ p → 10 * (n * 10 ^ (p - 1 - k)) = n * 10 ^ (p - k) := fun p hp => by
    rw [sc_em, show p - 1 - k + 1 = p - k from by omega]
  have e2F : ∀ x y : Nat, x * y * 2 ^ (F + 11) = x * y * 2048 * 2 ^ F := fun x y => by
    rw [Nat.pow_add, show (2 : Nat) ^ 11 = 2048 from rfl, Nat.mul_comm (2 ^ F), Nat.mul_assoc (x * y)]
  have p10 : ∀ p, 7 ≤ p → 10 ^ p = 10 * 10 ^ (p - 1) := fun p hp => by
    rw [show p = (p - 1) + 1 from by omega, Nat.pow_succ, Nat.mul_comm, Nat.add_sub_cancel]
  have x1 := sc_x1 M hM
  have x2 := sc_x2 M
  have x3 := sc_x3 M hM
  obtain ⟨g1, g2, g3, g4, g5, g6, g7, xo⟩ := sc_b M hM hM2
  unfold shortN
  rw [e11, xo]
  have y1 : ∀ p, n * 10 ^ (p - k) * 2048 * 2 ^ F = 2 * n * 10 ^ (p - k) * 1024 * 2 ^ F := fun p => by rw [sc_y1]
  have y2 : ∀ p, n * 10 ^ (p - k) * 2048 * 2 ^ F = 4 * n * 10 ^ (p - k) * 512 * 2 ^ F := fun p => by rw [sc_y2]
  have ms : M * 2048 = 9223372036854775808 ↔ M = 4503599627370496 := by omega
  by_cases hs : M = 4503599627370496
  · rw [if_pos ⟨ms.2 hs, by omega⟩]
    obtain ⟨p, hp⟩ : ∃ p : Nat, p = (-skw (-(F : Int))).toNat := ⟨_, rfl⟩
    rw [← hp] at b1 b2 b3 b4
    rw [show -skw (-(F : Int)) = (p : Int) from by omega]
    refine ⟨p - 1, by omega, by omega, ?_⟩
    rw [show -((p - 1 : Nat) : Int) = -((p : Int) - 1) from by omega]
    refine tail_dec T hT _ _ (M * 2048) (M % 2) F p (n * 10 ^ (p - 1 - k)) b1 b2 g2 g3 g5 g6 g7 b4 ?_ ?_ ?_ ?_ ?_
    · rw [em p b1, e2F, y2, x3]
      exact scale p _ _ _ (by omega) (sk hs)
    · intro h; omega
    · rw [em p b1, e2F, y1, x2]
      exact scale2 p _ _ _ (by omega) hi
    · intro h; omega
    · rw [p10 p b1, Nat.pow_add, show (2 : Nat) ^ 11 = 2048 from rfl]
      exact sc_w2 M _ _ hM b3
  · rw [if_neg (fun h => hs (ms.1 h.1)), if_pos (by omega)]
    obtain ⟨p, hp⟩ : ∃ p : Nat, p = (-l10 (-(F : Int))).toNat := ⟨_, rfl⟩
    rw [← hp] at a1 a2 a3 a4
    rw [show -l10 (-(F : Int)) = (p : Int) from by omega]
    refine ⟨p - 1, by omega, by omega, ?_⟩
    rw [show -((p - 1 : Nat) : Int) = -((p : Int) - 1) from by omega]
    refine tail_dec T hT _ _ (M * 2048) (M % 2) F p (n * 10 ^ (p - 1 - k)) a1 a2 g1 g3 g4 g6 g7 a4 ?_ ?_ ?_ ?_ ?_
    · rw [em p a1, e2F, y1, x1]
      exact scale p _ _ _ (by omega) lo
    · intro h
      rw [em p a1, e2F, y1, x1]
      exact scale1 p _ _ _ (by decide) (by omega) (lo1 h)
    · rw [em p a1, e2F, y1, x2]
      exact scale2 p _ _ _ (by omega) hi
    · intro h
      rw [em p a1, e2F, y1, x2]
      exact scale3 p _ _ _ (by decide) (by omega) (hi1 h)
    · rw [p10 p a1, Nat.pow_add, show (2 : Nat) ^ 11 = 2048 from rfl]
      exact sc_w1 M _ _ hM a3
end Go.Proofs.YtldamieigigncaaGreatDoor.fm

namespace Go.Proofs.YtldamieigigncaaGreatDoor.fm
open Ieee Go.Proofs.YtldamieigigncaaGreatDoor.flo
set_option linter.unusedVariables false
theorem cut_core (A D t Q K low : Nat) (hD : 0 < D) (ht : t = 4 ∨ t = 8) (hQ : Q = 2 * (A / D) + (A % D != 0).toNat) (hlow : low = Q / t) (hK : K = low + (decide (t < 2 * (Q % t)) || (t == 2 * (Q % t) && low % 2 == 1)).toNat) :
    (2 * K - 1) * t * D ≤ 4 * A ∧ 4 * A ≤ (2 * K + 1) * t * D ∧ (K % 2 = 1 → (2 * K - 1) * t * D < 4 * A ∧ 4 * A < (2 * K + 1) * t * D) ∧ 2 * low * t * D ≤ 4 * A := by
  have hd := Nat.div_add_mod A D
  have hm := Nat.mod_lt A hD
  generalize A / D = q at *
  generalize A % D = r at *
  have e1 : ∀ c : Nat, c ≤ 4 * q → c * D ≤ 4 * A := fun c h => by
    have := Nat.mul_le_mul_right D h
    rw [Nat.mul_assoc, Nat.mul_comm q] at this
    omega
  have e2 : ∀ c : Nat, 4 * q + 4 ≤ c → 4 * A < c * D := fun c h => by
    have := Nat.mul_le_mul_right D h
    rw [Nat.add_mul, Nat.mul_assoc, Nat.mul_comm q] at this
    omega
  have e3 : ∀ c : Nat, r = 0 → 4 * q ≤ c → 4 * A ≤ c * D := fun c h0 h => by
    have := Nat.mul_le_mul_right D h
    rw [Nat.mul_assoc, Nat.mul_comm q] at this
    omega
  have e4 : ∀ c : Nat, r = 0 → 4 * q < c → 4 * A < c * D := fun c h0 h => by
    have := Nat.mul_lt_mul_of_pos_right h hD
    rw [Nat.mul_assoc, Nat.mul_comm q] at this
    omega
  have e5 : ∀ c : Nat, c < 4 * q → c * D < 4 * A := fun c h => by
    have := Nat.mul_lt_mul_of_pos_right h hD
    rw [Nat.mul_assoc, Nat.mul_comm q] at this
    omega
  have e6 : ∀ c : Nat, r ≠ 0 → c ≤ 4 * q → c * D < 4 * A := fun c h0 h => by
    have := Nat.mul_le_mul_right D h
    rw [Nat.mul_assoc, Nat.mul_comm q] at this
    omega
  by_cases hr : r = 0
  · have hb : (r != 0).toNat = 0 := by simp [hr]
    rw [hb] at hQ
    by_cases c1 : t < 2 * (Q % t)
    · rw [decide_eq_true c1] at hK
      simp only [Bool.true_or, Bool.toNat_true] at hK
      rcases ht with rfl | rfl
      · exact ⟨e1 _ (by omega), e3 _ hr (by omega), fun h => ⟨e5 _ (by omega), e4 _ hr (by omega)⟩, e1 _ (by omega)⟩
      · exact ⟨e1 _ (by omega), e3 _ hr (by omega), fun h => ⟨e5 _ (by omega), e4 _ hr (by omega)⟩, e1 _ (by omega)⟩
    · rw [decide_eq_false c1, Bool.false_or] at hK
      by_cases c2 : (t == 2 * (Q % t) && low % 2 == 1) = true
      · rw [c2, Bool.toNat_true] at hK
        simp only [Bool.and_eq_true, beq_iff_eq] at c2
        rcases ht with rfl | rfl
        · exact ⟨e1 _ (by omega), e3 _ hr (by omega), fun h => by omega, e1 _ (by omega)⟩
        · exact ⟨e1 _ (by omega), e3 _ hr (by omega), fun h => by omega, e1 _ (by omega)⟩
      · rw [Bool.eq_false_iff.2 c2, Bool.toNat_false] at hK
        simp only [Bool.and_eq_true, beq_iff_eq, not_and] at c2
        rcases ht with rfl | rfl
        · exact ⟨e1 _ (by omega), e3 _ hr (by omega), fun h => ⟨e5 _ (by omega), e4 _ hr (by omega)⟩, e1 _ (by omega)⟩
        · exact ⟨e1 _ (by omega), e3 _ hr (by omega), fun h => ⟨e5 _ (by omega), e4 _ hr (by omega)⟩, e1 _ (by omega)⟩
  · have hb : (r != 0).toNat = 1 := by simp [hr]
    rw [hb] at hQ
    by_cases c1 : t < 2 * (Q % t)
    · rw [decide_eq_true c1] at hK
      simp only [Bool.true_or, Bool.toNat_true] at hK
      rcases ht with rfl | rfl
      · exact ⟨e1 _ (by omega), Nat.le_of_lt (e2 _ (by omega)), fun h => ⟨e6 _ hr (by omega), e2 _ (by omega)⟩, e1 _ (by omega)⟩
      · exact ⟨e1 _ (by omega), Nat.le_of_lt (e2 _ (by omega)), fun h => ⟨e6 _ hr (by omega), e2 _ (by omega)⟩, e1 _ (by omega)⟩
    · rw [decide_eq_false c1, Bool.false_or] at hK
      have c2 : (t == 2 * (Q % t) && low % 2 == 1) = false := by
        rw [Bool.and_eq_false_iff]
        left
        rw [beq_eq_false_iff_ne]
        rcases ht with rfl | rfl <;> omega
      rw [c2, Bool.toNat_false] at hK
      rcases ht with rfl | rfl
      · exact ⟨e1 _ (by omega), Nat.le_of_lt (e2 _ (by omega)), fun h => ⟨e6 _ hr (by omega), e2 _ (by omega)⟩, e1 _ (by omega)⟩
      · exact ⟨e1 _ (by omega), Nat.le_of_lt (e2 _ (by omega)), fun h => ⟨e6 _ hr (by omega), e2 _ (by omega)⟩, e1 _ (by omega)⟩

theorem whole2 (m : Nat) (h0 : 0 < m) (h : m < 9007199254740992) : ∃ j M : Nat, j ≤ 52 ∧ M = m * 2 ^ j ∧ j + m.log2 = 52 ∧ 4503599627370496 ≤ M ∧ M < 9007199254740992 ∧ ∀ s, double.read (double.nearest s m 0) = .number s M (-j) := by
  have hne : m ≠ 0 := by omega
  have hl : m.log2 ≤ 52 := by
    have := (Nat.log2_lt hne (k := 53)).2 (by rw [p53]; exact h)
    omega
  have h1 : 4503599627370496 ≤ m * 2 ^ (52 - m.log2) := by
    have := Nat.mul_le_mul_right (2 ^ (52 - m.log2)) (Nat.log2_self_le hne)
    rwa [← Nat.pow_add, show m.log2 + (52 - m.log2) = 52 from by omega, p52] at this
  have h2 : m * 2 ^ (52 - m.log2) < 9007199254740992 := by
    have := Nat.mul_lt_mul_of_pos_right (Nat.lt_log2_self (n := m)) (Nat.two_pow_pos (52 - m.log2))
    rwa [← Nat.pow_add, show m.log2 + 1 + (52 - m.log2) = 53 from by omega, p53] at this
  refine ⟨52 - m.log2, m * 2 ^ (52 - m.log2), by omega, rfl, by omega, h1, h2, fun s => ?_⟩
  rw [near' s m (52 - m.log2) 0 h1 h2 (by omega) (by omega), show (0 - ((52 - m.log2 : Nat) : Int) + 1074).toNat = 1074 - (52 - m.log2) from by omega, rd s _ _ h1 h2 (by omega)]
  congr 1
  omega
theorem p54 : (2 : Nat) ^ 54 = 18014398509481984 := by decide +kernel
theorem p55 : (2 : Nat) ^ 55 = 36028797018963968 := by decide +kernel
theorem p56 : (2 : Nat) ^ 56 = 72057594037927936 := by decide +kernel
theorem last_b (n u v : Nat) (h : (2 * 9007199254740992 - 1) * u ≤ 2 * (2 * n * v)) : (4 * 4503599627370496 - 1) * u ≤ 4 * n * v := by
  have e : 4 * n * v = 2 * (2 * n * v) := by rw [show 4 * n = 2 * (2 * n) from by omega, Nat.mul_assoc 2 (2 * n)]
  rw [e]
  exact h
theorem wt_near (n k : Nat) (h0 : 0 < n) (hn : n < 1000000000000000) (hk : k ≤ 6) (hv : n < 1000000000 * 10 ^ k) :
    ∃ M F : Nat, 4503599627370496 ≤ M ∧ M < 9007199254740992 ∧ 23 ≤ F ∧ F ≤ 72 ∧ (∀ s, wt s n k = double.word s ((1074 - F) * 4503599627370496 + M)) ∧
      (2 * M - 1) * 10 ^ k ≤ 2 * n * 2 ^ F ∧ 2 * n * 2 ^ F ≤ (2 * M + 1) * 10 ^ k ∧ (M % 2 = 1 → (2 * M - 1) * 10 ^ k < 2 * n * 2 ^ F) ∧ (M % 2 = 1 → 2 * n * 2 ^ F < (2 * M + 1) * 10 ^ k) ∧ (M = 4503599627370496 → (4 * M - 1) * 10 ^ k ≤ 4 * n * 2 ^ F) := by
  obtain ⟨k0, k1⟩ := pow_lt k hk
  obtain ⟨jm, A0, hjm, hA0, hjl, m1, m2, rdm⟩ := whole2 n h0 (by omega)
  obtain ⟨jd, D, hjd, hD, hjdl, d1, d2, rdd⟩ := whole2 (10 ^ k) k0 k1
  have hD0 : D ≠ 0 := by omega
  have hl : A0.log2 = 52 := log2_52 m1 m2
  have hl2 : D.log2 = 52 := log2_52 d1 d2
  have hjm3 : 3 ≤ jm := by
    have : n.log2 < 50 := (Nat.log2_lt (by omega)).2 (Nat.lt_of_lt_of_le hn (by decide))
    omega
  -- the quotient
  obtain ⟨A, hA⟩ : ∃ A, A = A0 * 2 ^ 54 := ⟨_, rfl⟩
  obtain ⟨Q, hQ⟩ : ∃ Q, Q = 2 * (A / D) + (A % D != 0).toNat := ⟨_, rfl⟩
  have hfb : double.fractionBits = 52 := rfl
  have hwt : ∀ s, wt s n k = double.nearest s Q (-(jm : Int) + jd - 55) := fun s => by
    unfold wt
    unfold Format.div
    rw [rdm, rdd, quot_num _ _ _ _ _ _ hD0, hfb]
    have q1 : qm (52 + 2) A0 D = Q := by
      unfold qm
      rw [hl, hl2, Nat.shiftLeft_eq, show 52 + 2 + 52 - 52 = 54 from rfl, ← hA, ← hQ]
    have q2 : qe (52 + 2) A0 D (-(jm : Int)) (-(jd : Int)) = -(jm : Int) + jd - 55 := by
      unfold qe
      rw [hl, hl2]
      omega
    rw [q1, q2]
    rfl
  have q53 : 9007199254740992 ≤ A / D := by
    refine (Nat.le_div_iff_mul_le (by omega)).2 ?_
    rw [hA, p54]
    omega
  have q55 : A / D < 36028797018963968 := by
    refine (Nat.div_lt_iff_lt_mul (by omega)).2 ?_
    rw [hA, p54]
    omega
  have hst : (A % D != 0).toNat ≤ 1 := by cases (A % D != 0) <;> decide
  have hQ0 : Q ≠ 0 := by omega
  obtain ⟨t, ht, hlog⟩ : ∃ t, (t = 2 ∨ t = 3) ∧ Q.log2 = 52 + t := by
    by_cases hc : Q < 36028797018963968
    · exact ⟨2, Or.inl rfl, log2_at (by rw [show 52 + 2 = 54 from rfl, p54]; omega) (by rw [show 52 + 2 + 1 = 55 from rfl, p55]; exact hc)⟩
    · exact ⟨3, Or.inr rfl, log2_at (by rw [show 52 + 3 = 55 from rfl, p55]; omega) (by rw [show 52 + 3 + 1 = 56 from rfl, p56]; omega)⟩
  have hQl : 2 ^ (52 + t) ≤ Q := hlog ▸ Nat.log2_self_le hQ0
  have hQu : Q < 2 ^ (52 + t + 1) := hlog ▸ Nat.lt_log2_self
  have ht48 : 2 ^ t = 4 ∨ 2 ^ t = 8 := by rcases ht with rfl | rfl <;> decide
  obtain ⟨low, hlow⟩ : ∃ low, low = Q / 2 ^ t := ⟨_, rfl⟩
  obtain ⟨K, hK⟩ : ∃ K, K = low + (decide (2 ^ t < 2 * (Q % 2 ^ t)) || (2 ^ t == 2 * (Q % 2 ^ t) && low % 2 == 1)).toNat := ⟨_, rfl⟩
  obtain ⟨c1, c2, c3, c4⟩ := cut_core A D (2 ^ t) Q K low (by omega) ht48 hQ hlow hK
  have hlo : 4503599627370496 ≤ low := by
    rw [hlow]
    refine (Nat.le_div_iff_mul_le (Nat.two_pow_pos t)).2 ?_
    rw [← p52, ← Nat.pow_add]
    exact hQl
  have hlu : low < 9007199254740992 := by
    rw [hlow]
    refine (Nat.div_lt_iff_lt_mul (Nat.two_pow_pos t)).2 ?_
    rw [← p53, ← Nat.pow_add]
    rw [show 53 + t = 52 + t + 1 from by omega]
    exact hQu
  have hKb : low ≤ K ∧ K ≤ low + 1 := by
    generalize (decide (2 ^ t < 2 * (Q % 2 ^ t)) || (2 ^ t == 2 * (Q % 2 ^ t) && low % 2 == 1)) = b at hK
    cases b <;> simp at hK <;> omega
  -- where the last digit stands
  obtain ⟨G, hG⟩ : ∃ G : Nat, jm + 55 = G + jd + t := ⟨jm + 55 - jd - t, by omega⟩
  have hnear : ∀ s, wt s n k = double.word s (min ((1074 - G) * 4503599627370496 + K) 9218868437227405312) := fun s => by
    rw [hwt s]
    unfold Format.nearest
    rw [if_neg hQ0, hlog, e1, e3, e4, e5]
    have h3 : max (-(jm : Int) + jd - 55 + ((52 + t : Nat) : Int) - 52) (-1074) = -(G : Int) := by omega
    simp only [h3]
    rw [show (-(jm : Int) + jd - 55 - -(G : Int)).toNat = 0 from by omega, show (-(G : Int) - (-(jm : Int) + jd - 55)).toNat = t from by omega, Nat.shiftLeft_zero, show (-(G : Int) - -1074).toNat = 1074 - G from by omega]
    have hcut : Toward.even.cut s Q t = K := by
      have hle : min t (Q.log2 + 2) = t := by rw [hlog]; omega
      unfold Toward.cut
      simp only [hle, Nat.shiftLeft_eq, Nat.one_mul]
      rw [← hlow, hK]
    rw [hcut]
  have hS : 0 < 2 ^ jd * 2 ^ t := Nat.mul_pos (Nat.two_pow_pos _) (Nat.two_pow_pos _)
  have hA4 : 4 * A = 2 * n * 2 ^ G * (2 ^ jd * 2 ^ t) := by
    rw [hA, hA0, Nat.mul_assoc n, ← Nat.pow_add, show jm + 54 = G + jd + t - 1 from by omega, ← Nat.pow_add, Nat.mul_assoc (2 * n), ← Nat.pow_add, show G + (jd + t) = (G + jd + t - 1) + 1 from by omega, Nat.pow_succ]
    generalize 2 ^ (G + jd + t - 1) = z
    rw [Nat.mul_assoc 2, ← Nat.mul_assoc n]
    omega
  have hx : ∀ c, c * 2 ^ t * D = c * 10 ^ k * (2 ^ jd * 2 ^ t) := fun c => by
    rw [hD]
    simp only [Nat.mul_assoc, Nat.mul_left_comm, Nat.mul_comm]
  rw [hA4] at c1 c2 c3 c4
  simp only [hx] at c1 c2 c3 c4
  have b1 := Nat.le_of_mul_le_mul_right c1 hS
  have b2 := Nat.le_of_mul_le_mul_right c2 hS
  have b3 := fun h => Nat.lt_of_mul_lt_mul_right (c3 h).1
  have b4 := fun h => Nat.lt_of_mul_lt_mul_right (c3 h).2
  have b5 := Nat.le_of_mul_le_mul_right c4 hS
  clear c1 c2 c3 c4 hA4 hx hS hwt
  -- the size
  have hten : 10 ^ k ≤ 1000000 := by
    have h1 : 10 ^ k ≤ 10 ^ 6 := Nat.pow_le_pow_right (by decide) hk
    exact Nat.le_trans h1 (by decide)
  have size : ∀ M F : Nat, 4503599627370496 ≤ M → M < 9007199254740992 → (2 * M - 1) * 10 ^ k ≤ 2 * n * 2 ^ F → 2 * n * 2 ^ F ≤ (2 * M + 1) * 10 ^ k → 23 ≤ F ∧ F ≤ 72 := fun M F hM1 hM2 h1 h2 => by
    constructor
    · rcases Nat.lt_or_ge F 23 with hf | hf
      · exfalso
        have f1 : 2 ^ F ≤ 4194304 := by
          have := Nat.pow_le_pow_right (n := 2) (by decide) (show F ≤ 22 from by omega)
          exact Nat.le_trans this (by decide)
        have f2 : 2 * n * 2 ^ F ≤ 2 * n * 4194304 := Nat.mul_le_mul_left _ f1
        have f3 : 9007199254740991 * 10 ^ k ≤ (2 * M - 1) * 10 ^ k := Nat.mul_le_mul_right _ (by omega)
        generalize 10 ^ k = u at *
        omega
      · exact hf
    · rcases Nat.lt_or_ge 72 F with hf | hf
      · exfalso
        have f1 : 2 ^ 73 ≤ 2 ^ F := Nat.pow_le_pow_right (by decide) (by omega)
        have f2 : 2 * 2 ^ 73 ≤ 2 * n * 2 ^ F := Nat.mul_le_mul (by omega) f1
        have f3 : (2 * M + 1) * 10 ^ k ≤ 18014398509481983 * 1000000 := Nat.mul_le_mul (by omega) hten
        have f4 : 18014398509481983 * 1000000 < 2 * 2 ^ 73 := by decide +kernel
        omega
      · exact hf
  rcases Nat.lt_or_ge K 9007199254740992 with hKK | hKK
  · obtain ⟨z1, z2⟩ := size K G (by omega) hKK b1 b2
    refine ⟨K, G, by omega, hKK, z1, z2, fun s => ?_, b1, b2, b3, b4, fun h => ?_⟩
    · rw [hnear s, Nat.min_eq_left (by omega)]
    · have e : low = K := by omega
      rw [e, Nat.mul_assoc 2] at b5
      have b6 : (4 * K - 1) * 10 ^ k ≤ 2 * (2 * n * 2 ^ G) := by
        have : (4 * K - 1) * 10 ^ k ≤ 2 * (2 * (K * 10 ^ k)) := by
          rw [Nat.sub_mul, Nat.mul_assoc]
          omega
        exact Nat.le_trans this (by omega)
      rw [show 4 * n = 2 * (2 * n) from by omega, Nat.mul_assoc 2 (2 * n)]
      exact b6
  · have hK2 : K = 9007199254740992 := by omega
    subst hK2
    have hG1 : 1 ≤ G := by omega
    obtain ⟨G1, rfl⟩ : ∃ G1, G = G1 + 1 := ⟨G - 1, by omega⟩
    have e : 2 * n * 2 ^ (G1 + 1) = 2 * (2 * n * 2 ^ G1) := by
      rw [Nat.pow_succ, Nat.mul_comm (2 ^ G1), Nat.mul_left_comm]
    rw [e] at b1 b2
    have y1 : (2 * 4503599627370496 - 1) * 10 ^ k ≤ 2 * n * 2 ^ G1 := by
      generalize 10 ^ k = u at *
      omega
    have y2 : 2 * n * 2 ^ G1 ≤ (2 * 4503599627370496 + 1) * 10 ^ k := by
      generalize 10 ^ k = u at *
      omega
    obtain ⟨z1, z2⟩ := size 4503599627370496 G1 (by omega) (by omega) y1 y2
    refine ⟨4503599627370496, G1, by omega, by omega, z1, z2, fun s => ?_, y1, y2, fun h => by omega, fun h => by omega, fun _ => ?_⟩
    · rw [hnear s, Nat.min_eq_left (by omega), show (1074 - (G1 + 1)) * 4503599627370496 + 9007199254740992 = (1074 - G1) * 4503599627370496 + 4503599627370496 from by omega]
    · exact last_b n (10 ^ k) (2 ^ G1) b1
end Go.Proofs.YtldamieigigncaaGreatDoor.fm

