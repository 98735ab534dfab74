import Derived.Test.YtomikgkoegkofaaGreatDoorDvl
import Derived.Laws.BitsAllLaws
import Derived.Laws.FloatArith
namespace Go.Proofs.YtomikgkoegkofaaGreatDoor.dv
open Go.ChangeShapes Go.WideShapes Go.ChangeAt Go.RowKit Go.Maps Go.WideMaps Go.WideElems
set_option linter.unusedVariables false
set_option linter.unusedSimpArgs false
/-! bits of a weight -/
def nanB (n : Nat) : Bool := decide (9218868437227405312 < n % 9223372036854775808)
def negB (n : Nat) : Bool := decide (9223372036854775808 ≤ n)
def keyN (n : Nat) : Nat := if nanB n = true then 18446744073709551615 else if negB n = true then 18446744073709551615 - n else n + 9223372036854775808
theorem keyN_nan {n : Nat} (h : nanB n = true) : keyN n = 18446744073709551615 := by simp [keyN, h]
theorem keyN_neg {n : Nat} (h : nanB n = false) (h' : negB n = true) : keyN n = 18446744073709551615 - n := by simp [keyN, h, h']
theorem keyN_pos {n : Nat} (h : nanB n = false) (h' : negB n = false) : keyN n = n + 9223372036854775808 := by simp [keyN, h, h']

theorem cmp_self (i : Int) : compare i i = .eq := by simp
theorem order_self (n : Nat) : FloatKind.f64.format.order n n = if nanB n = true then none else some .eq := by
  have e1 : FloatKind.f64.format.signWeight = 9223372036854775808 := by decide
  have e2 : FloatKind.f64.format.infRung = 9218868437227405312 := by decide
  have e3 : FloatKind.f64.format.binade = 4503599627370496 := by decide
  unfold Ieee.Format.order Ieee.Format.read nanB
  simp only [e1, e2, e3]
  by_cases h1 : n % 9223372036854775808 < 4503599627370496
  · simp [h1, Ieee.Datum.order]; omega
  · by_cases h2 : n % 9223372036854775808 < 9218868437227405312
    · simp [h1, h2, Ieee.Datum.order]; omega
    · by_cases h3 : n % 9223372036854775808 = 9218868437227405312
      · simp [h3, Ieee.Datum.order]
      · simp [h1, h2, h3, Ieee.Datum.order]; omega
theorem isNaN_bool (n : Nat) : (FloatKind.f64.format.order n n != some .eq) = nanB n := by
  rw [order_self]; cases h : nanB n <;> simp
theorem and_top (n : Nat) (hn : n < 18446744073709551616) : bits .and .u64 (n : Int) 9223372036854775808 = if negB n = true then 9223372036854775808 else 0 := by
  have h := bits_and_u64_nat n 9223372036854775808 hn (by omega)
  have e : n &&& 9223372036854775808 = if negB n = true then 9223372036854775808 else 0 := by
    rw [nat_bit63]
    unfold negB
    by_cases hh : 9223372036854775808 ≤ n
    · simp [hh]; omega
    · simp [hh]; omega
  rw [show (9223372036854775808 : Int) = ((9223372036854775808 : Nat) : Int) from rfl, h, e]
  cases negB n <;> simp
theorem or_top (n : Nat) (hn : n < 9223372036854775808) : bits .or .u64 (n : Int) 9223372036854775808 = ((n + 9223372036854775808 : Nat) : Int) := by
  have h := bits_or_u64_nat n 9223372036854775808 (by omega) (by omega)
  have e : n ||| 9223372036854775808 = n + 9223372036854775808 := by
    have := Nat.two_pow_add_eq_or_of_lt (i := 63) hn 1
    rw [show (2 : Nat) ^ 63 = 9223372036854775808 from rfl, Nat.mul_one] at this
    rw [Nat.or_comm, ← this, Nat.add_comm]
  rw [show (9223372036854775808 : Int) = ((9223372036854775808 : Nat) : Int) from rfl, h, e]
theorem xor_all (n : Nat) (hn : n < 18446744073709551616) : bits .xor .u64 IntKind.u64.max (n : Int) = 18446744073709551615 - n := by
  have e : (BitVec.ofInt 64 IntKind.u64.max ^^^ BitVec.ofInt 64 (n : Int)).toNat = 18446744073709551615 - n := by
    have e1 : BitVec.ofInt 64 IntKind.u64.max = BitVec.allOnes 64 := by decide
    rw [e1, BitVec.allOnes_xor, BitVec.toNat_not, BitVec.toNat_ofInt]
    omega
  show IntKind.u64.wrap ((BitVec.ofInt 64 IntKind.u64.max ^^^ BitVec.ofInt 64 (n : Int)).toNat : Int) = _
  rw [e, IntKind.wrap_u64]; omega
/-! the value of a rung, in units of the least place -/
def rungVal (B r : Nat) : Nat := if r < B then r else (B + r % B) * 2 ^ (r / B - 1)
theorem rungVal_mono (B r r' : Nat) (hB : 0 < B) (h : r' ≤ r) : rungVal B r' ≤ rungVal B r := by
  unfold rungVal
  by_cases h1 : r < B
  · rw [if_pos h1, if_pos (by omega)]; exact h
  · rw [if_neg h1]
    by_cases h2 : r' < B
    · rw [if_pos h2]
      have : 1 ≤ 2 ^ (r / B - 1) := Nat.one_le_two_pow
      have h3 := Nat.le_mul_of_pos_right (B + r % B) this
      omega
    · rw [if_neg h2]
      have hq : r' / B ≤ r / B := Nat.div_le_div_right h
      have hq1 : 1 ≤ r' / B := (Nat.one_le_div_iff hB).2 (by omega)
      rcases Nat.lt_or_eq_of_le hq with hlt | heq
      · have e1 : r' % B < B := Nat.mod_lt _ hB
        have e2 : (B + r' % B) * 2 ^ (r' / B - 1) ≤ (2 * B) * 2 ^ (r' / B - 1) := Nat.mul_le_mul_right _ (by omega)
        have e3 : (2 * B) * 2 ^ (r' / B - 1) = B * 2 ^ (r' / B) := by
          conv => rhs; rw [show r' / B = (r' / B - 1) + 1 from by omega, Nat.pow_succ]
          rw [Nat.mul_comm 2 B, Nat.mul_assoc, Nat.mul_comm 2]
        have e4 : B * 2 ^ (r' / B) ≤ B * 2 ^ (r / B - 1) := Nat.mul_le_mul_left _ (Nat.pow_le_pow_right (by omega) (by omega))
        have e5 : B * 2 ^ (r / B - 1) ≤ (B + r % B) * 2 ^ (r / B - 1) := Nat.mul_le_mul_right _ (by omega)
        omega
      · rw [heq]
        have d1 := Nat.div_add_mod r B
        have d2 := Nat.div_add_mod r' B
        rw [heq] at d2
        exact Nat.mul_le_mul_right _ (by omega)
/-- what a number's word reads as: a sign, a magnitude, a place above the least one -/
theorem signed_lt {s t : Bool} {m n e f : Nat} (L : Int) (h : compare (Ieee.signed s m ((L + e) - min (L + e) (L + f)).toNat) (Ieee.signed t n ((L + f) - min (L + e) (L + f)).toNat) = Ordering.lt) :
    (if s then -((m * 2 ^ e : Nat) : Int) else ((m * 2 ^ e : Nat) : Int)) < (if t then -((n * 2 ^ f : Nat) : Int) else ((n * 2 ^ f : Nat) : Int)) := by
  have e1 : ((L + e) - min (L + e) (L + f)).toNat = e - min e f := by omega
  have e2 : ((L + f) - min (L + e) (L + f)).toNat = f - min e f := by omega
  rw [e1, e2] at h
  have h' := Int.compare_eq_lt.1 h
  unfold Ieee.signed at h'
  simp only [Nat.shiftLeft_eq] at h'
  have p1 : m * 2 ^ e = m * 2 ^ (e - min e f) * 2 ^ (min e f) := by rw [Nat.mul_assoc, ← Nat.pow_add]; congr 2; omega
  have p2 : n * 2 ^ f = n * 2 ^ (f - min e f) * 2 ^ (min e f) := by rw [Nat.mul_assoc, ← Nat.pow_add]; congr 2; omega
  rw [p1, p2]
  have hp : (0 : Int) < ((2 ^ (min e f) : Nat) : Int) := by have := Nat.two_pow_pos (min e f); omega
  generalize m * 2 ^ (e - min e f) = X at *
  generalize n * 2 ^ (f - min e f) = Y at *
  generalize 2 ^ (min e f) = Z at *
  have := Int.mul_lt_mul_of_pos_right h' hp
  cases s <;> cases t <;> simp [Int.neg_mul] at this ⊢ <;> omega
theorem read_num (x : Nat) (h : x % 9223372036854775808 < 9218868437227405312) : ∃ m e : Nat, FloatKind.f64.format.read x = .number (x / 9223372036854775808 % 2 == 1) m (FloatKind.f64.format.leastPlace + e) ∧ m * 2 ^ e = rungVal 4503599627370496 (x % 9223372036854775808) := by
  have e1 : FloatKind.f64.format.signWeight = 9223372036854775808 := by decide
  have e2 : FloatKind.f64.format.infRung = 9218868437227405312 := by decide
  have e3 : FloatKind.f64.format.binade = 4503599627370496 := by decide
  unfold Ieee.Format.read rungVal
  simp only [e1, e2, e3]
  by_cases h1 : x % 9223372036854775808 < 4503599627370496
  · exact ⟨x % 9223372036854775808, 0, by rw [if_pos h1]; simp, by rw [if_pos h1]; simp⟩
  · exact ⟨_, _, by rw [if_neg h1, if_pos h], by rw [if_neg h1]⟩
theorem read_inf (x : Nat) (h : x % 9223372036854775808 = 9218868437227405312) : FloatKind.f64.format.read x = .infinity (x / 9223372036854775808 % 2 == 1) := by
  have e1 : FloatKind.f64.format.signWeight = 9223372036854775808 := by decide
  have e2 : FloatKind.f64.format.infRung = 9218868437227405312 := by decide
  have e3 : FloatKind.f64.format.binade = 4503599627370496 := by decide
  unfold Ieee.Format.read
  simp only [e1, e2, e3, h]
  simp
theorem read_nan' (x : Nat) (h : 9218868437227405312 < x % 9223372036854775808) : ∃ f, FloatKind.f64.format.read x = .nan (x / 9223372036854775808 % 2 == 1) f := by
  have e1 : FloatKind.f64.format.signWeight = 9223372036854775808 := by decide
  have e2 : FloatKind.f64.format.infRung = 9218868437227405312 := by decide
  have e3 : FloatKind.f64.format.binade = 4503599627370496 := by decide
  unfold Ieee.Format.read
  simp only [e1, e2, e3]
  rw [if_neg (by omega), if_neg (by omega), if_neg (by omega)]
  exact ⟨_, rfl⟩
theorem neg_is (x : Nat) (hx : x < 18446744073709551616) : (x / 9223372036854775808 % 2 == 1) = negB x := by
  unfold negB; rw [Bool.eq_iff_iff]; simp; omega
theorem order_key (a b : Nat) (ha : a < 18446744073709551616) (hb : b < 18446744073709551616) (h : FloatKind.f64.format.order a b = some .lt) : keyN a < keyN b := by
  have ra := Nat.lt_trichotomy (a % 9223372036854775808) 9218868437227405312
  have rb := Nat.lt_trichotomy (b % 9223372036854775808) 9218868437227405312
  unfold Ieee.Format.order at h
  rcases ra with ra | ra | ra
  · obtain ⟨m, e, h1, h2⟩ := read_num a ra
    rw [h1, neg_is a ha] at h
    have na : nanB a = false := by unfold nanB; simp; omega
    rcases rb with rb | rb | rb
    · obtain ⟨n, f, k1, k2⟩ := read_num b rb
      rw [k1, neg_is b hb] at h
      have nb : nanB b = false := by unfold nanB; simp; omega
      simp only [Ieee.Datum.order, Option.some.injEq] at h
      have h3 := signed_lt _ h
      rw [h2, k2] at h3
      have mono1 := rungVal_mono 4503599627370496 (a % 9223372036854775808) (b % 9223372036854775808) (by omega)
      have mono2 := rungVal_mono 4503599627370496 (b % 9223372036854775808) (a % 9223372036854775808) (by omega)
      unfold keyN
      rw [na, nb]
      generalize rungVal 4503599627370496 (a % 9223372036854775808) = va at *
      generalize rungVal 4503599627370496 (b % 9223372036854775808) = vb at *
      cases sa : negB a <;> cases sb : negB b <;> simp [sa, sb] at h3 ⊢ <;> simp [negB] at sa sb <;> omega
    · rw [read_inf b rb, neg_is b hb] at h
      have nb : nanB b = false := by unfold nanB; simp; omega
      unfold keyN; rw [na, nb]
      cases sb : negB b <;> simp [Ieee.Datum.order, sb] at h
      cases sa : negB a <;> simp <;> simp [negB] at sa sb <;> omega
    · obtain ⟨f, k1⟩ := read_nan' b rb
      rw [k1] at h
      simp [Ieee.Datum.order] at h
  · rw [read_inf a ra, neg_is a ha] at h
    have na : nanB a = false := by unfold nanB; simp; omega
    rcases rb with rb | rb | rb
    · obtain ⟨n, f, k1, k2⟩ := read_num b rb
      rw [k1, neg_is b hb] at h
      have nb : nanB b = false := by unfold nanB; simp; omega
      unfold keyN; rw [na, nb]
      cases sa : negB a <;> simp [Ieee.Datum.order, sa] at h
      cases sb : negB b <;> simp <;> simp [negB] at sa sb <;> omega
    · rw [read_inf b rb, neg_is b hb] at h
      have nb : nanB b = false := by unfold nanB; simp; omega
      unfold keyN; rw [na, nb]
      cases sa : negB a <;> cases sb : negB b <;> simp [Ieee.Datum.order, sa, sb] at h
      · exact absurd h (by decide)
      · simp
        simp [negB] at sa sb
        omega
    · obtain ⟨f, k1⟩ := read_nan' b rb
      rw [k1] at h
      simp [Ieee.Datum.order] at h
  · obtain ⟨f, h1⟩ := read_nan' a ra
    rw [h1] at h
    simp [Ieee.Datum.order] at h
def addF (a b : Nat) : Option Nat := FloatKind.f64.format.add a b
theorem add_nan {a : Nat} (h : nanB a = true) (x : Nat) : addF a x = none := by
  obtain ⟨f, h1⟩ := read_nan' a (by simpa [nanB] using h)
  unfold addF Ieee.Format.add
  rw [h1]
  simp [Ieee.Datum.sum]
theorem word_ok (neg : Bool) {r : Nat} (h : r ≤ 9218868437227405312) : nanB (FloatKind.f64.format.word neg r) = false ∧ FloatKind.f64.format.word neg r < 18446744073709551616 := by
  have e1 : FloatKind.f64.format.signWeight = 9223372036854775808 := by decide
  unfold Ieee.Format.word nanB
  rw [e1]
  cases neg <;> simp <;> omega
theorem write_ok (d : Ieee.Datum) (h : d.isNaN = false) : nanB (FloatKind.f64.format.write d) = false ∧ FloatKind.f64.format.write d < 18446744073709551616 := by
  have e2 : FloatKind.f64.format.infRung = 9218868437227405312 := by decide
  cases d with
  | number neg mag place =>
    show nanB (FloatKind.f64.format.nearest neg mag place) = false ∧ FloatKind.f64.format.nearest neg mag place < _
    unfold Ieee.Format.nearest
    dsimp only
    split
    · exact word_ok _ (by omega)
    · refine word_ok _ ?_
      rw [e2]
      exact Nat.min_le_right _ _
  | infinity neg =>
    show nanB (FloatKind.f64.format.word neg FloatKind.f64.format.infRung) = false ∧ FloatKind.f64.format.word neg FloatKind.f64.format.infRung < _
    rw [e2]
    exact word_ok _ (Nat.le_refl _)
  | nan => simp [Ieee.Datum.isNaN] at h
theorem sum_notnan {d e s : Ieee.Datum} (h : d.sum e = some s) : s.isNaN = false := by
  cases d <;> cases e <;> simp [Ieee.Datum.sum] at h
  · subst h; rfl
  · subst h; rfl
  · subst h; rfl
  · obtain ⟨_, rfl⟩ := h; rfl
theorem add_ok {a x r : Nat} (h : addF a x = some r) : nanB r = false ∧ r < 18446744073709551616 := by
  unfold addF Ieee.Format.add at h
  obtain ⟨s, hs, rfl⟩ := Option.map_eq_some_iff.1 h
  exact write_ok s (sum_notnan hs)
def stepF (o : Option Nat) (x : Nat) : Option Nat := o.bind fun a => addF a x
def headF (x : Nat) : Option Nat := if nanB x = true then none else some x
def sumF : List Nat → Option Nat
  | [] => some 0
  | x :: r => r.foldl stepF (headF x)
def IsF (o : Option Nat) (r : Nat) : Prop := r < 18446744073709551616 ∧ match o with
  | some a => r = a ∧ nanB a = false
  | none => nanB r = true
theorem IsF.head {x : Nat} (hx : x < 18446744073709551616) : IsF (headF x) x := by
  unfold headF IsF
  cases h : nanB x <;> simp [h, hx]
theorem IsF.key {o : Option Nat} {r s : Nat} (h : IsF o r) (k : IsF o s) : keyN r = keyN s := by
  unfold IsF at h k
  cases o with
  | none => rw [keyN_nan h.2, keyN_nan k.2]
  | some a => rw [h.2.1, k.2.1]
theorem IsF.some_ {o : Option Nat} {r x s : Nat} (h : IsF o r) (e : addF r x = some s) : IsF (stepF o x) s := by
  cases o with
  | none =>
    rw [add_nan h.2] at e
    cases e
  | some a =>
    obtain ⟨_, rfl, _⟩ := h
    unfold stepF IsF
    simp only [Option.bind_some, e]
    exact ⟨(add_ok e).2, trivial, (add_ok e).1⟩
theorem IsF.none_ {o : Option Nat} {r x s : Nat} (h : IsF o r) (e : addF r x = none) (hs : nanB s = true) (hl : s < 18446744073709551616) : IsF (stepF o x) s := by
  cases o with
  | none => exact ⟨hl, hs⟩
  | some a =>
    obtain ⟨_, rfl, _⟩ := h
    unfold stepF IsF
    simp only [Option.bind_some, e]
    exact ⟨hl, hs⟩
theorem sumF_snoc {l : List Nat} (h : l ≠ []) (x : Nat) : sumF (l ++ [x]) = stepF (sumF l) x := by
  cases l with
  | nil => exact absurd rfl h
  | cons y r => simp [sumF, List.foldl_append]
/-- which NaN an operation without an answer gives: the tape says -/
def nz (w : World) (x y : Nat) : Nat := Question.cut (.nanBits .f64 x y) (w.tape w.drawn (.nanBits .f64 x y))
theorem nz_form (s y : Nat) (h1 : s < 2) (h2 : y < 4503599627370495) : nanB (s * 9223372036854775808 + 9218868437227405312 + 1 + y) = true ∧ s * 9223372036854775808 + 9218868437227405312 + 1 + y < 18446744073709551616 := by
  unfold nanB
  rw [decide_eq_true_eq]
  omega
theorem nz_ok (w : World) (x y : Nat) : nanB (nz w x y) = true ∧ nz w x y < 18446744073709551616 :=
  nz_form (w.tape w.drawn (.nanBits .f64 x y) % 2) (w.tape w.drawn (.nanBits .f64 x y) / 2 % 4503599627370495) (Nat.mod_lt _ (by omega)) (Nat.mod_lt _ (by omega))
theorem run_add_none {P : Program} {x y : Nat} (h : addF x y = none) (w : World) : (binOp .add 42 (.float .f64 x) (.float .f64 y)).run P w = .ok (.float .f64 (nz w x y)) w.drew := by
  unfold addF at h
  simp [binOp, Op.floatArith, h, nz, Question.forced]
theorem run_add_some {P : Program} {x y r : Nat} (h : addF x y = some r) (w : World) : (binOp .add 42 (.float .f64 x) (.float .f64 y)).run P w = .ok (.float .f64 r) w :=
  run_float_arith w .add 24 .f64 x y r h
end Go.Proofs.YtomikgkoegkofaaGreatDoor.dv
