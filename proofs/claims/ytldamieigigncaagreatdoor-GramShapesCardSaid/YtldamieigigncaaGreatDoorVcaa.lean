import Derived.Laws.FloatArith
import Derived.Test.YtldamieigigncaaGreatDoorRows
import Derived.WalkKit
import Derived.WalkLawsBesides
import Derived.WalkSpells
import Derived.ProofKit
import Derived.OpenShut
import Derived.Handy
import Derived.Outline
import Derived.Lib.Hide
import Derived.Below
import Derived.WalkSmall
import Derived.Laws.OwnMore
import Derived.Laws.EntriesVeiled
import Derived.Laws.Externs
import Derived.Deep.Draws
import Derived.Laws.Rows
import Derived.Deep.QuietTactic
import Derived.BigQuiet
import Derived.Maps.AppendAt
namespace Go.Proofs.YtldamieigigncaaGreatDoor.flo
open Ieee
set_option linter.unusedVariables false
theorem p52 : (2 : Nat) ^ 52 = 4503599627370496 := by decide +kernel
theorem p53 : (2 : Nat) ^ 53 = 9007199254740992 := by decide +kernel
theorem e1 : double.leastPlace = -1074 := by decide +kernel
theorem e3 : ((double.fractionBits : Nat) : Int) = 52 := by decide +kernel
theorem e4 : double.binade = 4503599627370496 := by decide +kernel
theorem e5 : double.infRung = 9218868437227405312 := by decide +kernel
theorem e6 : double.signWeight = 9223372036854775808 := by decide +kernel
theorem word_f (r : Nat) : double.word false r = r := by
  unfold Format.word
  rw [if_neg (by decide)]
theorem word_t (r : Nat) : double.word true r = 9223372036854775808 + r := by
  unfold Format.word
  rw [if_pos rfl, e6]
theorem log2_at {n k : Nat} (h1 : 2 ^ k ≤ n) (h2 : n < 2 ^ (k + 1)) : n.log2 = k := by
  have h0 : n ≠ 0 := by have := Nat.two_pow_pos k; omega
  exact (Nat.log2_eq_iff h0).2 ⟨h1, h2⟩
theorem log2_52 {M : Nat} (h1 : 4503599627370496 ≤ M) (h2 : M < 9007199254740992) : M.log2 = 52 := log2_at (by rw [p52]; exact h1) (by rw [show 52 + 1 = 53 from rfl, p53]; exact h2)
theorem log2_scaled {M t : Nat} (h1 : 4503599627370496 ≤ M) (h2 : M < 9007199254740992) : (M * 2 ^ t).log2 = 52 + t := by
  refine log2_at ?_ ?_
  · rw [Nat.pow_add, p52]
    exact Nat.mul_le_mul_right _ h1
  · rw [show 52 + t + 1 = 53 + t from by omega, Nat.pow_add, p53]
    exact Nat.mul_lt_mul_of_pos_right h2 (Nat.two_pow_pos t)
theorem cut_exact (s : Bool) (M t : Nat) (h0 : 0 < M) : Toward.even.cut s (M * 2 ^ t) t = M := by
  have hp := Nat.two_pow_pos t
  have hne : M * 2 ^ t ≠ 0 := by
    have := Nat.mul_pos h0 hp
    omega
  have hle : t ≤ (M * 2 ^ t).log2 := (Nat.le_log2 hne).2 (Nat.le_mul_of_pos_left _ h0)
  have hg : 1 <<< min t ((M * 2 ^ t).log2 + 2) = 2 ^ t := by
    rw [Nat.min_eq_left (by omega), Nat.shiftLeft_eq, Nat.one_mul]
  unfold Toward.cut
  simp only [hg]
  rw [Nat.mul_div_cancel _ hp, Nat.mul_mod_left]
  have h2 : (2 ^ t == 2 * 0) = false := by
    rw [beq_eq_false_iff_ne]
    omega
  simp [h2]
theorem near (s : Bool) (M t : Nat) (p : Int) (h1 : 4503599627370496 ≤ M) (h2 : M < 9007199254740992) (hlo : -1074 ≤ p + t) (hhi : p + t ≤ 971) : double.nearest s (M * 2 ^ t) p = double.word s ((p + t + 1074).toNat * 4503599627370496 + M) := by
  have hl := log2_scaled (t := t) h1 h2
  have h0 : 0 < M := by omega
  have hne : M * 2 ^ t ≠ 0 := by
    have := Nat.mul_pos h0 (Nat.two_pow_pos t)
    omega
  have hc := cut_exact s M t h0
  unfold Format.nearest
  rw [if_neg hne, hl, e1, e3, e4, e5]
  generalize M * 2 ^ t = N at *
  have h3 : max (p + ((52 + t : Nat) : Int) - 52) (-1074) = p + t := by omega
  simp only [h3]
  rw [show (p - (p + (t : Int))).toNat = 0 from by omega, show (p + (t : Int) - p).toNat = t from by omega, Nat.shiftLeft_zero, hc, show (p + (t : Int) - -1074).toNat = (p + t + 1074).toNat from by omega, Nat.min_eq_left ?_]
  have h4 : (p + t + 1074).toNat ≤ 2045 := by omega
  omega
theorem near' (s : Bool) (m j : Nat) (p : Int) (h1 : 4503599627370496 ≤ m * 2 ^ j) (h2 : m * 2 ^ j < 9007199254740992) (hlo : -1074 ≤ p - j) (hhi : p - j ≤ 971) : double.nearest s m p = double.word s ((p - j + 1074).toNat * 4503599627370496 + m * 2 ^ j) := by
  have h0 : m ≠ 0 := by
    rintro rfl
    simp at h1
  have hl : m.log2 + j = 52 := by
    have h3 : (m * 2 ^ j).log2 = m.log2 + j := by
      refine log2_at ?_ ?_
      · rw [Nat.pow_add]
        exact Nat.mul_le_mul_right _ (Nat.log2_self_le h0)
      · rw [show m.log2 + j + 1 = (m.log2 + 1) + j from by omega, Nat.pow_add]
        exact Nat.mul_lt_mul_of_pos_right Nat.lt_log2_self (Nat.two_pow_pos j)
    have h4 : (m * 2 ^ j).log2 = 52 := log2_52 h1 h2
    omega
  have hc := cut_exact s (m * 2 ^ j) 0 (by omega)
  rw [Nat.pow_zero, Nat.mul_one] at hc
  unfold Format.nearest
  rw [if_neg h0, e1, e3, e4, e5]
  have h3 : max (p + (m.log2 : Int) - 52) (-1074) = p - j := by omega
  simp only [h3]
  rw [show (p - (p - (j : Int))).toNat = j from by omega, show (p - (j : Int) - p).toNat = 0 from by omega, Nat.shiftLeft_eq, hc, show (p - (j : Int) - -1074).toNat = (p - j + 1074).toNat from by omega, Nat.min_eq_left ?_]
  have h4 : (p - j + 1074).toNat ≤ 2045 := by omega
  omega
theorem rd (s : Bool) (E M : Nat) (h1 : 4503599627370496 ≤ M) (h2 : M < 9007199254740992) (hE : E ≤ 2045) : double.read (double.word s (E * 4503599627370496 + M)) = .number s M (-1074 + E) := by
  have hR : ∃ R, R = E * 4503599627370496 + M := ⟨_, rfl⟩
  obtain ⟨R, hR⟩ := hR
  have hr : R < 9218868437227405312 := by omega
  have d1 : R / 4503599627370496 = E + 1 := by omega
  have d2 : R % 4503599627370496 = M - 4503599627370496 := by omega
  have hlo : ¬ R < 4503599627370496 := by omega
  rw [← hR]
  have d3 : double.word s R % 9223372036854775808 = R := by
    cases s
    · rw [word_f]; omega
    · rw [word_t]; omega
  have d4 : (double.word s R / 9223372036854775808 % 2 == 1) = s := by
    cases s
    · rw [word_f, show R / 9223372036854775808 = 0 from by omega]; rfl
    · rw [word_t, show (9223372036854775808 + R) / 9223372036854775808 = 1 from by omega]; rfl
  unfold Format.read
  rw [e6, e4, e5, e1]
  simp only [d3, d4]
  rw [if_neg hlo, if_pos hr, d1, d2, show 4503599627370496 + (M - 4503599627370496) = M from by omega, show E + 1 - 1 = E from by omega]
theorem whole (m : Nat) (h0 : 0 < m) (h : m < 9007199254740992) : ∃ j M : Nat, j ≤ 52 ∧ 4503599627370496 ≤ M ∧ M < 9007199254740992 ∧ (∀ s, double.nearest s m 0 = double.word s ((1074 - j) * 4503599627370496 + M)) ∧ ∀ s, double.read (double.nearest s m 0) = .number s M (-j) := by
  have hne : m ≠ 0 := by omega
  have hl : m.log2 ≤ 52 := by
    have := (Nat.log2_lt hne (k := 53)).2 (by rw [p53]; exact h)
    omega
  have h1 : 4503599627370496 ≤ m * 2 ^ (52 - m.log2) := by
    have := Nat.mul_le_mul_right (2 ^ (52 - m.log2)) (Nat.log2_self_le hne)
    rwa [← Nat.pow_add, show m.log2 + (52 - m.log2) = 52 from by omega, p52] at this
  have h2 : m * 2 ^ (52 - m.log2) < 9007199254740992 := by
    have := Nat.mul_lt_mul_of_pos_right (Nat.lt_log2_self (n := m)) (Nat.two_pow_pos (52 - m.log2))
    rwa [← Nat.pow_add, show m.log2 + 1 + (52 - m.log2) = 53 from by omega, p53] at this
  have hw : ∀ s, double.nearest s m 0 = double.word s ((1074 - (52 - m.log2)) * 4503599627370496 + m * 2 ^ (52 - m.log2)) := fun s => by
    rw [near' s m (52 - m.log2) 0 h1 h2 (by omega) (by omega), show (0 - ((52 - m.log2 : Nat) : Int) + 1074).toNat = 1074 - (52 - m.log2) from by omega]
  refine ⟨52 - m.log2, m * 2 ^ (52 - m.log2), by omega, h1, h2, hw, fun s => ?_⟩
  rw [hw s, rd s _ _ h1 h2 (by omega)]
  congr 1
  omega
theorem neg_bits (Q : Nat) (E : Int) : double.nearest true Q E = 9223372036854775808 + double.nearest false Q E := by
  unfold Format.nearest
  split
  · rw [word_t, word_f]
  · simp only [word_t, word_f]
    rfl
theorem bits_lt (Q : Nat) (E : Int) : double.nearest false Q E < 9223372036854775808 := by
  unfold Format.nearest
  split
  · rw [word_f]; decide
  · simp only [word_f]
    rw [e5]
    exact Nat.lt_of_le_of_lt (Nat.min_le_right _ _) (by decide)
def qm (g m n : Nat) : Nat := 2 * ((m <<< (g + n.log2 - m.log2)) / n) + ((m <<< (g + n.log2 - m.log2)) % n != 0).toNat
def qe (g m n : Nat) (i j : Int) : Int := i - j - ((g + n.log2 - m.log2 : Nat) : Int) - 1
theorem quot_num (g : Nat) (s : Bool) (m n : Nat) (i j : Int) (hn : n ≠ 0) : Datum.quotient g (.number s m i) (.number false n j) = some (.number s (qm g m n) (qe g m n i j)) := by
  unfold Datum.quotient qm qe
  simp only [if_neg hn, Bool.xor_false]
theorem read0 (s : Bool) : double.read (double.nearest s 0 0) = .number s 0 (-1074) := by
  unfold Format.nearest
  rw [if_pos rfl]
  cases s
  · rw [word_f]; decide +kernel
  · rw [word_t]; decide +kernel
theorem div_at (m d : Nat) (hm : m < 9007199254740992) (h0 : 0 < d) (hd : d < 9007199254740992) : ∃ (Q : Nat) (E : Int), ∀ s, double.div (double.nearest s m 0) (double.nearest false d 0) = some (double.nearest s Q E) := by
  obtain ⟨jd, D, hj, d1, d2, _, rdd⟩ := whole d h0 hd
  have hD : D ≠ 0 := by omega
  rcases Nat.eq_zero_or_pos m with rfl | hp
  · refine ⟨qm (double.fractionBits + 2) 0 D, qe (double.fractionBits + 2) 0 D (-1074) (-jd), fun s => ?_⟩
    unfold Format.div
    rw [read0, rdd, quot_num _ _ _ _ _ _ hD]
    rfl
  · obtain ⟨jm, M, hjm, m1, m2, _, rdm⟩ := whole m hp hm
    refine ⟨qm (double.fractionBits + 2) M D, qe (double.fractionBits + 2) M D (-jm) (-jd), fun s => ?_⟩
    unfold Format.div
    rw [rdm, rdd, quot_num _ _ _ _ _ _ hD]
    rfl
theorem div_nought (s : Bool) (d : Nat) (h0 : 0 < d) (hd : d < 9007199254740992) : double.div (double.nearest s 0 0) (double.nearest false d 0) = some (double.word s 0) := by
  obtain ⟨jd, D, hj, d1, d2, _, rdd⟩ := whole d h0 hd
  have hD : D ≠ 0 := by omega
  have hq : qm (double.fractionBits + 2) 0 D = 0 := by
    unfold qm
    simp
  unfold Format.div
  rw [read0, rdd, quot_num _ _ _ _ _ _ hD, hq]
  simp only [Option.map_some, Format.write]
  unfold Format.nearest
  rw [if_pos rfl]
theorem div_one (s : Bool) (m : Nat) (hm : m < 9007199254740992) : double.div (double.nearest s m 0) (double.nearest false 1 0) = some (double.nearest s m 0) := by
  rcases Nat.eq_zero_or_pos m with rfl | hp
  · rw [div_nought s 1 (by decide) (by decide)]
    unfold Format.nearest
    rw [if_pos rfl]
  · have r1 : double.nearest false 1 0 = 4607182418800017408 := by
      rw [near' false 1 52 0 (by rw [p52]; decide) (by rw [p52]; decide) (by decide) (by decide), word_f]
      decide +kernel
    have r2 : double.read 4607182418800017408 = .number false 4503599627370496 (-52) := by decide +kernel
    obtain ⟨j, M, hj, m1, m2, hw, rdm⟩ := whole m hp hm
    have hl : M.log2 = 52 := log2_52 m1 m2
    have hl2 : (4503599627370496 : Nat).log2 = 52 := log2_52 (by decide) (by decide)
    have hfb : double.fractionBits = 52 := rfl
    unfold Format.div
    rw [rdm, r1, r2, quot_num _ _ _ _ _ _ (by decide), hfb]
    have q1 : qm (52 + 2) M 4503599627370496 = M * 2 ^ 3 := by
      unfold qm
      rw [hl, hl2, Nat.shiftLeft_eq, show M * 2 ^ (52 + 2 + 52 - 52) = (M * 4) * 4503599627370496 from by rw [show 52 + 2 + 52 - 52 = 52 + 2 from rfl, Nat.pow_add, p52]; omega, Nat.mul_div_cancel _ (by decide), Nat.mul_mod_left]
      simp
      omega
    have q2 : qe (52 + 2) M 4503599627370496 (-(j : Int)) (-52) = -(j : Int) - 3 := by
      unfold qe
      rw [hl, hl2]
      omega
    rw [q1, q2]
    simp only [Option.map_some, Format.write]
    rw [near s M 3 (-(j : Int) - 3) m1 m2 (by omega) (by omega), hw s, show (-(j : Int) - 3 + ((3 : Nat) : Int) + 1074).toNat = 1074 - j from by omega]
def wt (s : Bool) (m k : Nat) : Nat := (double.div (double.nearest s m 0) (double.nearest false (10 ^ k) 0)).getD 0
theorem pow_lt (k : Nat) (h : k ≤ 6) : 0 < 10 ^ k ∧ 10 ^ k < 9007199254740992 := by
  have h1 : 10 ^ k ≤ 10 ^ 6 := Nat.pow_le_pow_right (by omega) h
  have h2 : (10 : Nat) ^ 6 = 1000000 := by decide
  rw [h2] at h1
  exact ⟨Nat.pow_pos (by omega), by omega⟩
theorem wt_div (s : Bool) (m k : Nat) (hm : m < 9007199254740992) (hk : k ≤ 6) : double.div (double.nearest s m 0) (double.nearest false (10 ^ k) 0) = some (wt s m k) := by
  obtain ⟨Q, E, h⟩ := div_at m (10 ^ k) hm (pow_lt k hk).1 (pow_lt k hk).2
  unfold wt
  rw [h s]
  rfl
theorem wt_zero (s : Bool) (m : Nat) (hm : m < 9007199254740992) : wt s m 0 = double.nearest s m 0 := by
  unfold wt
  rw [Nat.pow_zero, div_one s m hm]
  rfl
theorem wt_nought (s : Bool) (k : Nat) (hk : k ≤ 6) : wt s 0 k = double.word s 0 := by
  unfold wt
  rw [div_nought s _ (pow_lt k hk).1 (pow_lt k hk).2]
  rfl
theorem wt_neg (m k : Nat) (hm : m < 9007199254740992) (hk : k ≤ 6) : wt true m k = 9223372036854775808 + wt false m k ∧ wt false m k < 9223372036854775808 := by
  obtain ⟨Q, E, h⟩ := div_at m (10 ^ k) hm (pow_lt k hk).1 (pow_lt k hk).2
  unfold wt
  rw [h true, h false]
  exact ⟨neg_bits Q E, bits_lt Q E⟩
end Go.Proofs.YtldamieigigncaaGreatDoor.flo

namespace Go.Proofs.YtldamieigigncaaGreatDoor.lx
set_option linter.unusedVariables false
def letB (c : UInt8) : Bool := (97 ≤ c && c ≤ 122) || (65 ≤ c && c ≤ 90)
def digB (c : UInt8) : Bool := 48 ≤ c && c ≤ 57
def namB (c : UInt8) : Bool := letB c || digB c || c == 95
def quoB (c : UInt8) : Bool := 32 ≤ c && c ≤ 126 && c != 39
def blkB (c : UInt8) : Bool := c == 32 || c == 9 || c == 13 || c == 10
def sgnB (c : UInt8) : Bool := c == 61 || c == 59 || c == 124 || c == 40 || c == 41 || c == 63 || c == 42 || c == 43
def wgtB (c : UInt8) : Bool := letB c || digB c || c == 46 || c == 45
def runN {σ : Type} (st : σ → UInt8 → Bool × σ) : σ → List UInt8 → Nat
  | _, [] => 0
  | s, c :: l => if (st s c).1 then runN st (st s c).2 l + 1 else 0
def skipS (r : Bool) (c : UInt8) : Bool × Bool := ((c == 35 || (r && c != 10)) || blkB c, c == 35 || (r && c != 10))
def plainS (p : UInt8 → Bool) (_ : Unit) (c : UInt8) : Bool × Unit := (p c, ())
def runP (p : UInt8 → Bool) (l : List UInt8) : Nat := (l.takeWhile p).length
theorem runN_plain (p : UInt8 → Bool) : ∀ (l : List UInt8), runN (plainS p) () l = runP p l
  | [] => rfl
  | c :: l => by
    have ih := runN_plain p l
    unfold runP at ih ⊢
    rw [List.takeWhile_cons]
    by_cases h : p c = true
    · have e : runN (plainS p) () (c :: l) = runN (plainS p) () l + 1 := by
        show (if (p c) = true then runN (plainS p) () l + 1 else 0) = _
        exact if_pos h
      rw [e, if_pos h, List.length_cons, ih]
    · have e : runN (plainS p) () (c :: l) = 0 := by
        show (if (p c) = true then runN (plainS p) () l + 1 else 0) = _
        exact if_neg h
      rw [e, if_neg h]
      rfl
theorem runN_le {σ : Type} (st : σ → UInt8 → Bool × σ) : ∀ (s : σ) (l : List UInt8), runN st s l ≤ l.length
  | _, [] => Nat.le_refl _
  | s, c :: l => by
    unfold runN
    split
    · have := runN_le st (st s c).2 l
      simp; omega
    · simp
theorem runP_le (p : UInt8 → Bool) (l : List UInt8) : runP p l ≤ l.length := by
  rw [← runN_plain]
  exact runN_le _ _ _
def val (l : List UInt8) : Nat := l.foldl (fun a c => 10 * a + (c.toNat - 48)) 0
def strip (l : List UInt8) : List UInt8 := if l.head? = some 45 then l.tail else l
def headD (l : List UInt8) : List UInt8 := l.takeWhile (fun c => c != 46)
def tailD (l : List UInt8) : List UInt8 := (l.dropWhile (fun c => c != 46)).tail
def dotB (l : List UInt8) : Bool := l.contains 46
def digsB (l : List UInt8) (most : Nat) : Bool := decide (1 ≤ l.length) && decide (l.length ≤ most) && l.all digB
def decB (l : List UInt8) : Bool :=
  digsB (headD (strip l)) 9 && !(decide (1 < (headD (strip l)).length) && (headD (strip l)).head? == some 48) && (!dotB (strip l) || digsB (tailD (strip l)) 6)
def decF (l : List UInt8) : Nat := flo.wt (l.head? == some 45) (val (headD (strip l) ++ tailD (strip l))) (tailD (strip l)).length
def readOk (l : List UInt8) : Bool := l == [110, 97, 110] || l == [105, 110, 102] || l == [45, 105, 110, 102] || decB l
def readF (l : List UInt8) : Nat :=
  if l = [110, 97, 110] then 0x7FF8000000000001 else if l = [105, 110, 102] then 0x7FF0000000000000 else if l = [45, 105, 110, 102] then 0xFFF0000000000000 else if decB l then decF l else 0
structure Tok where
  kind : Nat
  at_ : Nat
  text : List UInt8
  wt : Nat
def wordAt (l : List UInt8) : Except Nat (Nat × List UInt8 × Nat × Nat) :=
  match l with
  | [] => .error 2
  | c :: r =>
    if letB c then (if runP namB r + 1 ≤ 24 then .ok (1, (c :: r).take (runP namB r + 1), 0, runP namB r) else .error 1)
    else if c == 39 then
      (if runP quoB r = 0 ∨ (r.drop (runP quoB r)).head? ≠ some 39 then .error 3
      else if runP quoB r ≤ 16 then .ok (2, r.take (runP quoB r), 0, runP quoB r + 1) else .error 1)
    else if c == 37 then (if readOk (r.take (runP wgtB r)) then .ok (3, r.take (runP wgtB r), readF (r.take (runP wgtB r)), runP wgtB r) else .error 4)
    else if sgnB c then .ok (4, [c], 0, 0)
    else .error 2
def nxt (s : List UInt8) (a : Nat) : Nat := a + runN skipS false (s.drop a)
def lexA (s : List UInt8) (a : Nat) : List Tok × Option (Nat × Nat) :=
  if h : a < s.length then
    match wordAt (s.drop a) with
    | .error e => ([], some (e, a))
    | .ok (k, t, w, n) => (⟨k, a, t, w⟩ :: (lexA s (nxt s (a + n + 1))).1, (lexA s (nxt s (a + n + 1))).2)
  else ([⟨0, a, [], 0⟩], none)
termination_by s.length - a
decreasing_by all_goals (unfold nxt; omega)
def lexAll (s : List UInt8) : List Tok × Nat × Nat :=
  if 65536 < s.length then ([], 1, 0) else
  match lexA s (nxt s 0) with
  | (ts, none) => (ts, 0, 0)
  | (_, some (e, a)) => ([], e, a)
theorem nxt_le (s : List UInt8) (a : Nat) (h : a ≤ s.length) : nxt s a ≤ s.length := by
  unfold nxt
  have := runN_le skipS false (s.drop a)
  rw [List.length_drop] at this
  omega
theorem lexA_end (s : List UInt8) : lexA s s.length = ([⟨0, s.length, [], 0⟩], none) := by
  rw [lexA, dif_neg (by omega)]
theorem lexA_error (s : List UInt8) (a e : Nat) (h : a < s.length) (hw : wordAt (s.drop a) = .error e) : lexA s a = ([], some (e, a)) := by
  rw [lexA, dif_pos h, hw]
theorem lexA_ok (s : List UInt8) (a k w n : Nat) (t : List UInt8) (h : a < s.length) (hw : wordAt (s.drop a) = .ok (k, t, w, n)) : lexA s a = (⟨k, a, t, w⟩ :: (lexA s (nxt s (a + n + 1))).1, (lexA s (nxt s (a + n + 1))).2) := by
  rw [lexA, dif_pos h, hw]
end Go.Proofs.YtldamieigigncaaGreatDoor.lx

namespace Go.Proofs.YtldamieigigncaaGreatDoor.lx
open Go.ChangeShapes Go.WideShapes Go.ChangeAt Go.RowKit
set_option linter.unusedVariables false
def letN (n : Nat) : Bool := decide ((97 ≤ n ∧ n ≤ 122) ∨ (65 ≤ n ∧ n ≤ 90))
def digN (n : Nat) : Bool := decide (48 ≤ n ∧ n ≤ 57)
theorem beq_n (c : UInt8) (k : UInt8) : (c == k) = decide (c.toNat = k.toNat) := by
  rw [Bool.eq_iff_iff]
  simp [← UInt8.toNat_inj]
theorem let_n (c : UInt8) : letB c = letN c.toNat := by
  unfold letB letN
  rw [Bool.eq_iff_iff]
  simp [UInt8.le_iff_toNat_le]
theorem dig_n (c : UInt8) : digB c = digN c.toNat := by
  unfold digB digN
  rw [Bool.eq_iff_iff]
  simp [UInt8.le_iff_toNat_le]
theorem quo_n (c : UInt8) : quoB c = decide ((32 ≤ c.toNat ∧ c.toNat ≤ 126) ∧ c.toNat ≠ 39) := by
  unfold quoB
  rw [Bool.eq_iff_iff]
  simp [UInt8.le_iff_toNat_le, ← UInt8.toNat_inj]
theorem blk_n (c : UInt8) : blkB c = decide (c.toNat = 32 ∨ c.toNat = 9 ∨ c.toNat = 13 ∨ c.toNat = 10) := by
  unfold blkB
  rw [beq_n, beq_n, beq_n, beq_n, Bool.eq_iff_iff]
  simp [or_assoc]
theorem b_lt (c : UInt8) : c.toNat < 256 := c.toNat_lt
theorem ret_bool {a b : Bool} (h : a = b) : Ending.returned (.bool a) = .returned (.bool b) := by rw [h]
theorem ret_int {k : IntKind} {a b : Int} (h : a = b) : Ending.returned (.int k a) = .returned (.int k b) := by rw [h]
theorem letter_n (n : Nat) (hn : n < 256) (w : World) : Calls Tryz.prog 98 #[.int .u8 n] w fun e w' => e = .returned (.bool (letN n)) ∧ w = w' := by
  have h : (97 ≤ n ∧ n ≤ 122 ∧ letN n = true) ∨ (65 ≤ n ∧ n ≤ 90 ∧ letN n = true) ∨ (n < 65 ∧ letN n = false) ∨ (90 < n ∧ n < 97 ∧ letN n = false) ∨ (122 < n ∧ letN n = false) := by
    unfold letN
    simp only [decide_eq_true_iff, decide_eq_false_iff_not]
    omega
  rcases h with ⟨h1, h2, e⟩ | ⟨h1, h2, e⟩ | ⟨h1, e⟩ | ⟨h1, h2, e⟩ | ⟨h1, e⟩ <;> rw [e] <;> clear e
  all_goals
    go_enter Tryz.func98, Tryz.ntmps98
    go_wp2
    go_ret
    first | exact ⟨rfl, rfl⟩ | exact ⟨ret_bool (by simp; omega), rfl⟩
theorem digit_n (n : Nat) (hn : n < 256) (w : World) : Calls Tryz.prog 134 #[.int .u8 n] w fun e w' => e = .returned (.bool (digN n)) ∧ w = w' := by
  have h : (48 ≤ n ∧ n ≤ 57 ∧ digN n = true) ∨ (n < 48 ∧ digN n = false) ∨ (57 < n ∧ digN n = false) := by
    unfold digN
    simp only [decide_eq_true_iff, decide_eq_false_iff_not]
    omega
  rcases h with ⟨h1, h2, e⟩ | ⟨h1, e⟩ | ⟨h1, e⟩ <;> rw [e] <;> clear e
  all_goals
    go_enter Tryz.func134, Tryz.ntmps134
    go_wp2
    go_ret
    first | exact ⟨rfl, rfl⟩ | exact ⟨ret_bool (by simp; omega), rfl⟩
theorem blank_n (n : Nat) (hn : n < 256) (w : World) : Calls Tryz.prog 113 #[.int .u8 n] w fun e w' => e = .returned (.bool (decide (n = 32 ∨ n = 9 ∨ n = 13 ∨ n = 10))) ∧ w = w' := by
  have h : n = 32 ∨ n = 9 ∨ n = 13 ∨ n = 10 ∨ (n ≠ 32 ∧ n ≠ 9 ∧ n ≠ 13 ∧ n ≠ 10) := by omega
  rcases h with rfl | rfl | rfl | rfl | ⟨h1, h2, h3, h4⟩
  · go_enter Tryz.func113, Tryz.ntmps113
    go_wp2
    go_ret
    exact ⟨rfl, rfl⟩
  · go_enter Tryz.func113, Tryz.ntmps113
    go_wp2
    go_ret
    exact ⟨rfl, rfl⟩
  · go_enter Tryz.func113, Tryz.ntmps113
    go_wp2
    go_ret
    exact ⟨rfl, rfl⟩
  · go_enter Tryz.func113, Tryz.ntmps113
    go_wp2
    go_ret
    exact ⟨rfl, rfl⟩
  · have k1 : ((n : Int) == 32) = false := by rw [beq_eq_false_iff_ne]; omega
    have k2 : ((n : Int) == 9) = false := by rw [beq_eq_false_iff_ne]; omega
    have k3 : ((n : Int) == 13) = false := by rw [beq_eq_false_iff_ne]; omega
    have k4 : ((n : Int) == 10) = false := by rw [beq_eq_false_iff_ne]; omega
    have e : decide (n = 32 ∨ n = 9 ∨ n = 13 ∨ n = 10) = false := by rw [decide_eq_false_iff_not]; omega
    rw [e]
    clear e h1 h2 h3 h4
    go_enter Tryz.func113, Tryz.ntmps113
    go_wp2
    go_ret
    exact ⟨rfl, rfl⟩
def namN (n : Nat) : Bool := letN n || digN n || decide (n = 95)
def quoN (n : Nat) : Bool := decide ((32 ≤ n ∧ n ≤ 126) ∧ n ≠ 39)
def wgtN (n : Nat) : Bool := letN n || digN n || decide (n = 46) || decide (n = 45)
theorem inname_n (n : Nat) (hn : n < 256) (w : World) : Calls Tryz.prog 99 #[.int .u8 n] w fun e w' => e = .returned (.bool (namN n)) ∧ w = w' := by
  have hl := letter_n n hn w
  have hd := digit_n n hn w
  have HE : Hid (namN n = (letN n || digN n || decide (n = 95))) := Lib.hid rfl
  generalize namN n = z at *
  cases h1 : letN n
  · rw [h1] at hl HE
    cases h2 : digN n
    · rw [h2] at hd HE
      by_cases h3 : n = 95
      · have k3 : ((n : Int) == 95) = true := by rw [beq_iff_eq]; omega
        have HZ : Hid (z = true) := Lib.hid (by rw [HE.out]; simp [h3])
        clear h1 h2 h3 HE
        go_enter Tryz.func99, Tryz.ntmps99
        go_wp2_with (first | (go_at_call 98; refine hl.mono ?_; rintro e w1 ⟨rfl, rfl⟩) | (go_at_call 134; refine hd.mono ?_; rintro e w2 ⟨rfl, rfl⟩))
        go_ret
        exact ⟨ret_bool HZ.out.symm, rfl⟩
      · have k3 : ((n : Int) == 95) = false := by rw [beq_eq_false_iff_ne]; omega
        have HZ : Hid (z = false) := Lib.hid (by rw [HE.out]; simp [h3])
        clear h1 h2 h3 HE
        go_enter Tryz.func99, Tryz.ntmps99
        go_wp2_with (first | (go_at_call 98; refine hl.mono ?_; rintro e w1 ⟨rfl, rfl⟩) | (go_at_call 134; refine hd.mono ?_; rintro e w2 ⟨rfl, rfl⟩))
        go_ret
        exact ⟨ret_bool HZ.out.symm, rfl⟩
    · rw [h2] at hd HE
      have HZ : Hid (z = true) := Lib.hid (by rw [HE.out]; simp)
      clear h1 h2 HE
      go_enter Tryz.func99, Tryz.ntmps99
      go_wp2_with (first | (go_at_call 98; refine hl.mono ?_; rintro e w1 ⟨rfl, rfl⟩) | (go_at_call 134; refine hd.mono ?_; rintro e w2 ⟨rfl, rfl⟩))
      go_ret
      exact ⟨ret_bool HZ.out.symm, rfl⟩
  · rw [h1] at hl HE
    have HZ : Hid (z = true) := Lib.hid (by rw [HE.out]; simp)
    clear h1 HE
    go_enter Tryz.func99, Tryz.ntmps99
    go_wp2_with (first | (go_at_call 98; refine hl.mono ?_; rintro e w1 ⟨rfl, rfl⟩) | (go_at_call 134; refine hd.mono ?_; rintro e w2 ⟨rfl, rfl⟩))
    go_ret
    exact ⟨ret_bool HZ.out.symm, rfl⟩
theorem inquote_n (n : Nat) (hn : n < 256) (w : World) : Calls Tryz.prog 39 #[.int .u8 n] w fun e w' => e = .returned (.bool (quoN n)) ∧ w = w' := by
  have h : (n < 32 ∧ quoN n = false) ∨ (126 < n ∧ quoN n = false) ∨ (n = 39 ∧ quoN n = false) ∨ (32 ≤ n ∧ n ≤ 126 ∧ n ≠ 39 ∧ quoN n = true) := by
    unfold quoN
    simp only [decide_eq_true_iff, decide_eq_false_iff_not]
    omega
  rcases h with ⟨h1, e⟩ | ⟨h1, e⟩ | ⟨rfl, e⟩ | ⟨h1, h2, h3, e⟩ <;> rw [e] <;> clear e
  · go_enter Tryz.func39, Tryz.ntmps39
    go_wp2
    go_ret
    first | exact ⟨rfl, rfl⟩ | exact ⟨ret_bool (by simp; omega), rfl⟩
  · go_enter Tryz.func39, Tryz.ntmps39
    go_wp2
    go_ret
    first | exact ⟨rfl, rfl⟩ | exact ⟨ret_bool (by simp; omega), rfl⟩
  · go_enter Tryz.func39, Tryz.ntmps39
    go_wp2
    go_ret
    first | exact ⟨rfl, rfl⟩ | exact ⟨ret_bool (by simp; omega), rfl⟩
  · have k3 : ((n : Int) != 39) = true := by rw [bne_iff_ne]; omega
    go_enter Tryz.func39, Tryz.ntmps39
    go_wp2
    go_ret
    first | exact ⟨rfl, rfl⟩ | exact ⟨ret_bool (by simp; omega), rfl⟩
end Go.Proofs.YtldamieigigncaaGreatDoor.lx

namespace Go.Proofs.YtldamieigigncaaGreatDoor.lx
open Go.ChangeShapes Go.WideShapes Go.ChangeAt Go.RowKit
set_option linter.unusedVariables false
theorem wgt1_n (n : Nat) (hn : n < 256) (w : World) : Calls Tryz.prog 139 #[.int .u8 n] w fun e w' => e = .returned (.bool (wgtN n)) ∧ w = w' := by
  have hl := letter_n n hn w
  have hd := digit_n n hn w
  have HE : Hid (wgtN n = (letN n || digN n || decide (n = 46) || decide (n = 45))) := Lib.hid rfl
  generalize wgtN n = z at *
  cases h1 : letN n
  · rw [h1] at hl HE
    cases h2 : digN n
    · rw [h2] at hd HE
      by_cases h3 : n = 46
      · have k3 : ((n : Int) == 46) = true := by rw [beq_iff_eq]; omega
        have HZ : Hid (z = true) := Lib.hid (by rw [HE.out]; simp [h3])
        clear h1 h2 h3 HE
        go_enter Tryz.func139, Tryz.ntmps139
        go_wp2_with (first | (go_at_call 98; refine hl.mono ?_; rintro e w1 ⟨rfl, rfl⟩) | (go_at_call 134; refine hd.mono ?_; rintro e w2 ⟨rfl, rfl⟩))
        go_ret
        exact ⟨ret_bool HZ.out.symm, rfl⟩
      · have k3 : ((n : Int) == 46) = false := by rw [beq_eq_false_iff_ne]; omega
        by_cases h4 : n = 45
        · have k4 : ((n : Int) == 45) = true := by rw [beq_iff_eq]; omega
          have HZ : Hid (z = true) := Lib.hid (by rw [HE.out]; simp [h4])
          clear h1 h2 h3 h4 HE
          go_enter Tryz.func139, Tryz.ntmps139
          go_wp2_with (first | (go_at_call 98; refine hl.mono ?_; rintro e w1 ⟨rfl, rfl⟩) | (go_at_call 134; refine hd.mono ?_; rintro e w2 ⟨rfl, rfl⟩))
          go_ret
          exact ⟨ret_bool HZ.out.symm, rfl⟩
        · have k4 : ((n : Int) == 45) = false := by rw [beq_eq_false_iff_ne]; omega
          have HZ : Hid (z = false) := Lib.hid (by rw [HE.out]; simp [h3, h4])
          clear h1 h2 h3 h4 HE
          go_enter Tryz.func139, Tryz.ntmps139
          go_wp2_with (first | (go_at_call 98; refine hl.mono ?_; rintro e w1 ⟨rfl, rfl⟩) | (go_at_call 134; refine hd.mono ?_; rintro e w2 ⟨rfl, rfl⟩))
          go_ret
          exact ⟨ret_bool HZ.out.symm, rfl⟩
    · rw [h2] at hd HE
      have HZ : Hid (z = true) := Lib.hid (by rw [HE.out]; simp)
      clear h1 h2 HE
      go_enter Tryz.func139, Tryz.ntmps139
      go_wp2_with (first | (go_at_call 98; refine hl.mono ?_; rintro e w1 ⟨rfl, rfl⟩) | (go_at_call 134; refine hd.mono ?_; rintro e w2 ⟨rfl, rfl⟩))
      go_ret
      exact ⟨ret_bool HZ.out.symm, rfl⟩
  · rw [h1] at hl HE
    have HZ : Hid (z = true) := Lib.hid (by rw [HE.out]; simp)
    clear h1 HE
    go_enter Tryz.func139, Tryz.ntmps139
    go_wp2_with (first | (go_at_call 98; refine hl.mono ?_; rintro e w1 ⟨rfl, rfl⟩) | (go_at_call 134; refine hd.mono ?_; rintro e w2 ⟨rfl, rfl⟩))
    go_ret
    exact ⟨ret_bool HZ.out.symm, rfl⟩
def Goes (f : Nat) : Prop := ∀ (args : Array Value) (w : World), (callFunc f args).run Tryz.prog w = .ok (.enter f args) w
def Blk (w : World) (g : Nat) (t : TypeId) (cs : Array Value) : Prop := w.heap[g]? = some (.cells cs t (0, 0))
section
variable {w w' : World} {g : Nat} {t : TypeId} {cs : Array Value}
theorem Blk.lt (h : Blk w g t cs) : g < w.heap.size := by
  rcases Nat.lt_or_ge g w.heap.size with hlt | hge
  · exact hlt
  · unfold Blk at h; rw [Array.getElem?_eq_none hge] at h; cases h
theorem Blk.cell (h : Blk w g t cs) (i : Nat) : w.cell? ⟨g, i, none⟩ = cs[i]? := cell_of_row w g i cs t (0, 0) h
theorem Blk.frozen (h : Blk w g t cs) (i : Nat) : w.frozen? ⟨g, i, none⟩ = false := by
  unfold Blk at h
  simp [World.frozen?, h]
theorem Blk.new (w : World) (t : TypeId) (cs : Array Value) : Blk (w.alloc (.cells cs t)) w.heap.size t cs := heap_alloc_new w _
theorem Blk.alloc (h : Blk w g t cs) (o : Obj) : Blk (w.alloc o) g t cs := (Below.heap_alloc w o g h.lt).trans h
theorem Blk.set_ (h : Blk w g t cs) (i : Nat) (u : Value) : Blk (w.setCell ⟨g, i, none⟩ u) g t (cs.setIfInBounds i u) := by
  unfold Blk at h ⊢
  simp [World.setCell, Array.getElem?_modify, h]
theorem Blk.far (h : Blk w g t cs) {p : Addr} (hp : g ≠ p.block) (u : Value) : Blk (w.setCell p u) g t cs := (Below.heap_setCell w p u g hp).trans h
theorem Blk.below {B : Nat} (h : Blk w g t cs) (hb : Below B w w') (hg : g < B) : Blk w' g t cs := (hb.block g hg).trans h
end
theorem bytes_drop (s : ByteArray) (k : Nat) (h : k < s.size) : s.data.toList.drop k = s[k] :: s.data.toList.drop (k + 1) := by
  rw [List.drop_eq_getElem_cons (by simpa using h)]
  rfl
set_option maxRecDepth 100000 in
set_option maxHeartbeats 400000 in
theorem run_any {σ : Type} (st : σ → UInt8 → Bool × σ) (R : σ → World → Prop) (fn : Nat) (cap : Array Value) (hgo : Goes fn) (s : ByteArray) (hs : s.size ≤ maxLen)
    (hstep : ∀ x (c : UInt8) w, R x w → Calls Tryz.prog fn (#[.int .u8 c.toNat] ++ cap) w fun e w' => e = .returned (.bool (st x c).1) ∧ R (st x c).2 w') (x0 : σ) (a : Nat) (ha : a ≤ s.size) (w : World) (hR : R x0 w) :
    Calls Tryz.prog 38 #[.string s, .int .i64 a, .func (.func fn) #[] cap] w fun e w' => e = .returned (.int .i64 (a + runN st x0 (s.data.toList.drop a) : Nat)) ∧ ∃ x, R x w' := by
  unfold maxLen at hs
  have hg : ∀ (c : Int) (w : World), (callFunc fn (#[.int .u8 c] ++ cap)).run Tryz.prog w = .ok (.enter fn (#[.int .u8 c] ++ cap)) w := fun c w => hgo _ w
  have HS := Lib.hid hstep
  have HR := Lib.hid hR
  clear hstep hgo hR
  go_enter Tryz.func38, Tryz.ntmps38
  go_wp2
  go_loopw [1] (fun i wr => ∃ (k : Nat) (x : σ), i = .int .i64 k ∧ k ≤ s.size ∧ R x wr ∧ a + runN st x0 (s.data.toList.drop a) = k + runN st x (s.data.toList.drop k)) (fun i _ => s.size - (intOf i).toNat)
  case atStart => exact ⟨a, x0, rfl, ha, HR.out, rfl⟩
  case round =>
    obtain ⟨k, x, rfl, hk, hx, hsum⟩ := hrel
    have HX := Lib.hid hx
    have HM := Lib.hid hsum
    clear hx hsum
    by_cases hlt : k < s.size
    · have hc := HS.out x s[k] wr HX.out
      have hd := bytes_drop s k hlt
      have HD := Lib.hid hd
      clear hd
      cases h1 : (st x s[k]).1
      · rw [h1] at hc
        have H1 := Lib.hid h1
        clear h1
        go_wp2_with fail
        refine hc.mono ?_
        rintro e w1 ⟨rfl, hx1⟩
        have HX1 := Lib.hid hx1
        clear hc hx1
        go_wp2_with fail
        go_ret
        refine ⟨ret_int ?_, _, HX1.out⟩
        rw [HM.out, HD.out]
        unfold runN
        rw [H1.out]
        rfl
      · rw [h1] at hc
        have H1 := Lib.hid h1
        clear h1
        go_wp2_with fail
        refine hc.mono ?_
        rintro e w1 ⟨rfl, hx1⟩
        have HX1 := Lib.hid hx1
        clear hc hx1
        go_wp2_with fail
        refine ⟨⟨k + 1, _, by go_num, hlt, HX1.out, ?_⟩, by simp only [intOf]; omega⟩
        rw [HM.out, HD.out]
        have e : runN st x (s[k] :: s.data.toList.drop (k + 1)) = runN st (st x s[k]).2 (s.data.toList.drop (k + 1)) + 1 := by
          show (if (st x s[k]).1 = true then runN st (st x s[k]).2 (s.data.toList.drop (k + 1)) + 1 else 0) = _
          rw [H1.out]
          rfl
        rw [e]
        omega
    · obtain rfl : k = s.size := by omega
      go_wp2
      go_ret
      refine ⟨ret_int ?_, _, HX.out⟩
      rw [HM.out, List.drop_eq_nil_of_le (by simp)]
      rfl
theorem run_plain (p : UInt8 → Bool) (fn : Nat) (hgo : Goes fn) (hp : ∀ (c : UInt8) (w : World), Calls Tryz.prog fn #[.int .u8 c.toNat] w fun e w' => e = .returned (.bool (p c)) ∧ w = w') (s : ByteArray) (hs : s.size ≤ maxLen) (a : Nat) (ha : a ≤ s.size) (w : World) :
    Calls Tryz.prog 38 #[.string s, .int .i64 a, .func (.func fn) #[] #[]] w fun e w' => e = .returned (.int .i64 (a + runP p (s.data.toList.drop a) : Nat)) ∧ w = w' := by
  have := run_any (plainS p) (fun _ w' => w = w') fn #[] hgo s hs (fun x c w2 e => (hp c w2).mono fun e' w3 h => ⟨h.1, e.trans h.2⟩) () a ha w rfl
  rw [runN_plain] at this
  exact this.mono fun e w' ⟨h1, _, h2⟩ => ⟨h1, h2⟩
theorem goes_name : Goes 99 := fun _ _ => by kernel_rfl
theorem goes_quote : Goes 39 := fun _ _ => by kernel_rfl
theorem goes_weight : Goes 139 := fun _ _ => by kernel_rfl
theorem goes_skip : Goes 112 := fun _ _ => by kernel_rfl
theorem nam_n (c : UInt8) : namB c = namN c.toNat := by
  unfold namB namN
  rw [let_n, dig_n, beq_n]
  rfl
theorem quo_n' (c : UInt8) : quoB c = quoN c.toNat := quo_n c
theorem wgt_n (c : UInt8) : wgtB c = wgtN c.toNat := by
  unfold wgtB wgtN
  rw [let_n, dig_n, beq_n, beq_n]
  rfl
theorem run_name (s : ByteArray) (hs : s.size ≤ maxLen) (a : Nat) (ha : a ≤ s.size) (w : World) : Calls Tryz.prog 38 #[.string s, .int .i64 a, .func (.func 99) #[] #[]] w fun e w' => e = .returned (.int .i64 (a + runP namB (s.data.toList.drop a) : Nat)) ∧ w = w' :=
  run_plain namB _ goes_name (fun c w => by rw [nam_n]; exact inname_n _ (b_lt c) w) s hs a ha w
theorem run_quote (s : ByteArray) (hs : s.size ≤ maxLen) (a : Nat) (ha : a ≤ s.size) (w : World) : Calls Tryz.prog 38 #[.string s, .int .i64 a, .func (.func 39) #[] #[]] w fun e w' => e = .returned (.int .i64 (a + runP quoB (s.data.toList.drop a) : Nat)) ∧ w = w' :=
  run_plain quoB _ goes_quote (fun c w => by rw [quo_n']; exact inquote_n _ (b_lt c) w) s hs a ha w
theorem run_weight (s : ByteArray) (hs : s.size ≤ maxLen) (a : Nat) (ha : a ≤ s.size) (w : World) : Calls Tryz.prog 38 #[.string s, .int .i64 a, .func (.func 139) #[] #[]] w fun e w' => e = .returned (.int .i64 (a + runP wgtB (s.data.toList.drop a) : Nat)) ∧ w = w' :=
  run_plain wgtB _ goes_weight (fun c w => by rw [wgt_n]; exact wgt1_n _ (b_lt c) w) s hs a ha w
theorem skip1_n (r : Bool) (n : Nat) (hn : n < 256) (w : World) (g : Nat) (hg : Blk w g 4 #[.bool r]) : Calls Tryz.prog 112 #[.int .u8 n, .pointer (some ⟨g, 0, none⟩)] w fun e w' => e = .returned (.bool ((decide (n = 35) || (r && decide (n ≠ 10))) || decide (n = 32 ∨ n = 9 ∨ n = 13 ∨ n = 10))) ∧ w' = w.setCell ⟨g, 0, none⟩ (.bool (decide (n = 35) || (r && decide (n ≠ 10)))) := by
  have hb := blank_n n hn
  have c0 := hg.cell 0
  have f0 := hg.frozen 0
  have hlt := hg.lt
  generalize hz : decide (n = 32 ∨ n = 9 ∨ n = 13 ∨ n = 10) = z at *
  have HZ := Lib.hid hz
  clear hz
  by_cases h1 : n = 35
  · have k1 : ((n : Int) == 35) = true := by rw [beq_iff_eq]; omega
    have d1 : decide (n = 35) = true := decide_eq_true h1
    rw [d1]
    clear h1 d1
    go_enter Tryz.func112, Tryz.ntmps112
    go_wp2_with (go_at_call 113; refine (hb _).mono ?_; rintro e w2 ⟨rfl, rfl⟩)
    go_ret
    exact ⟨by simp, by simp⟩
  · have k1 : ((n : Int) == 35) = false := by rw [beq_eq_false_iff_ne]; omega
    have d1 : decide (n = 35) = false := decide_eq_false h1
    rw [d1]
    clear h1 d1
    by_cases h2 : n = 10
    · have k2 : ((n : Int) != 10) = false := by rw [bne_eq_false_iff_eq]; omega
      have d2 : decide (n ≠ 10) = false := decide_eq_false (by simpa using h2)
      rw [d2]
      clear h2 d2
      cases r
      all_goals
        go_enter Tryz.func112, Tryz.ntmps112
        go_wp2_with (go_at_call 113; refine (hb _).mono ?_; rintro e w2 ⟨rfl, rfl⟩)
        go_ret
        exact ⟨by simp, by simp⟩
    · have k2 : ((n : Int) != 10) = true := by rw [bne_iff_ne]; omega
      have d2 : decide (n ≠ 10) = true := decide_eq_true h2
      rw [d2]
      clear h2 d2
      cases r
      all_goals
        go_enter Tryz.func112, Tryz.ntmps112
        go_wp2_with (go_at_call 113; refine (hb _).mono ?_; rintro e w2 ⟨rfl, rfl⟩)
        go_ret
        exact ⟨by simp, by simp⟩
end Go.Proofs.YtldamieigigncaaGreatDoor.lx

