import Derived.Laws.BitsAllLaws
import Derived.Laws.FloatArith
import Derived.Laws.Strings
import Derived.Test.YtljkobijoenabaaMf
namespace Go.Proofs.Ytljkobijoenabaa.dv
open Go.ChangeShapes Go.WideShapes Go.ChangeAt Go.RowKit Go.Maps Go.WideMaps Go.WideElems
set_option linter.unusedVariables false
set_option linter.unusedSimpArgs false
/-! bits of a weight -/
def nanB (n : Nat) : Bool := decide (9218868437227405312 < n % 9223372036854775808)
def negB (n : Nat) : Bool := decide (9223372036854775808 ≤ n)
def keyN (n : Nat) : Nat := if nanB n = true then 18446744073709551615 else if negB n = true then 18446744073709551615 - n else n + 9223372036854775808
theorem keyN_nan {n : Nat} (h : nanB n = true) : keyN n = 18446744073709551615 := by simp [keyN, h]
theorem keyN_neg {n : Nat} (h : nanB n = false) (h' : negB n = true) : keyN n = 18446744073709551615 - n := by simp [keyN, h, h']
theorem keyN_pos {n : Nat} (h : nanB n = false) (h' : negB n = false) : keyN n = n + 9223372036854775808 := by simp [keyN, h, h']

theorem cmp_self (i : Int) : compare i i = .eq := by simp
theorem order_self (n : Nat) : FloatKind.f64.format.order n n = if nanB n = true then none else some .eq := by
  have e1 : FloatKind.f64.format.signWeight = 9223372036854775808 := by decide
  have e2 : FloatKind.f64.format.infRung = 9218868437227405312 := by decide
  have e3 : FloatKind.f64.format.binade = 4503599627370496 := by decide
  unfold Ieee.Format.order Ieee.Format.read nanB
  simp only [e1, e2, e3]
  by_cases h1 : n % 9223372036854775808 < 4503599627370496
  · simp [h1, Ieee.Datum.order]; omega
  · by_cases h2 : n % 9223372036854775808 < 9218868437227405312
    · simp [h1, h2, Ieee.Datum.order]; omega
    · by_cases h3 : n % 9223372036854775808 = 9218868437227405312
      · simp [h3, Ieee.Datum.order]
      · simp [h1, h2, h3, Ieee.Datum.order]; omega
theorem isNaN_bool (n : Nat) : (FloatKind.f64.format.order n n != some .eq) = nanB n := by
  rw [order_self]; cases h : nanB n <;> simp
theorem and_top (n : Nat) (hn : n < 18446744073709551616) : bits .and .u64 (n : Int) 9223372036854775808 = if negB n = true then 9223372036854775808 else 0 := by
  have h := bits_and_u64_nat n 9223372036854775808 hn (by omega)
  have e : n &&& 9223372036854775808 = if negB n = true then 9223372036854775808 else 0 := by
    rw [nat_bit63]
    unfold negB
    by_cases hh : 9223372036854775808 ≤ n
    · simp [hh]; omega
    · simp [hh]; omega
  rw [show (9223372036854775808 : Int) = ((9223372036854775808 : Nat) : Int) from rfl, h, e]
  cases negB n <;> simp
theorem or_top (n : Nat) (hn : n < 9223372036854775808) : bits .or .u64 (n : Int) 9223372036854775808 = ((n + 9223372036854775808 : Nat) : Int) := by
  have h := bits_or_u64_nat n 9223372036854775808 (by omega) (by omega)
  have e : n ||| 9223372036854775808 = n + 9223372036854775808 := by
    have := Nat.two_pow_add_eq_or_of_lt (i := 63) hn 1
    rw [show (2 : Nat) ^ 63 = 9223372036854775808 from rfl, Nat.mul_one] at this
    rw [Nat.or_comm, ← this, Nat.add_comm]
  rw [show (9223372036854775808 : Int) = ((9223372036854775808 : Nat) : Int) from rfl, h, e]
theorem xor_all (n : Nat) (hn : n < 18446744073709551616) : bits .xor .u64 IntKind.u64.max (n : Int) = 18446744073709551615 - n := by
  have e : (BitVec.ofInt 64 IntKind.u64.max ^^^ BitVec.ofInt 64 (n : Int)).toNat = 18446744073709551615 - n := by
    have e1 : BitVec.ofInt 64 IntKind.u64.max = BitVec.allOnes 64 := by decide
    rw [e1, BitVec.allOnes_xor, BitVec.toNat_not, BitVec.toNat_ofInt]
    omega
  show IntKind.u64.wrap ((BitVec.ofInt 64 IntKind.u64.max ^^^ BitVec.ofInt 64 (n : Int)).toNat : Int) = _
  rw [e, IntKind.wrap_u64]; omega
/-! the value of a rung, in units of the least place -/
def rungVal (B r : Nat) : Nat := if r < B then r else (B + r % B) * 2 ^ (r / B - 1)
theorem rungVal_mono (B r r' : Nat) (hB : 0 < B) (h : r' ≤ r) : rungVal B r' ≤ rungVal B r := by
  unfold rungVal
  by_cases h1 : r < B
  · rw [if_pos h1, if_pos (by omega)]; exact h
  · rw [if_neg h1]
    by_cases h2 : r' < B
    · rw [if_pos h2]
      have : 1 ≤ 2 ^ (r / B - 1) := Nat.one_le_two_pow
      have h3 := Nat.le_mul_of_pos_right (B + r % B) this
      omega
    · rw [if_neg h2]
      have hq : r' / B ≤ r / B := Nat.div_le_div_right h
      have hq1 : 1 ≤ r' / B := (Nat.one_le_div_iff hB).2 (by omega)
      rcases Nat.lt_or_eq_of_le hq with hlt | heq
      · have e1 : r' % B < B := Nat.mod_lt _ hB
        have e2 : (B + r' % B) * 2 ^ (r' / B - 1) ≤ (2 * B) * 2 ^ (r' / B - 1) := Nat.mul_le_mul_right _ (by omega)
        have e3 : (2 * B) * 2 ^ (r' / B - 1) = B * 2 ^ (r' / B) := by
          conv => rhs; rw [show r' / B = (r' / B - 1) + 1 from by omega, Nat.pow_succ]
          rw [Nat.mul_comm 2 B, Nat.mul_assoc, Nat.mul_comm 2]
        have e4 : B * 2 ^ (r' / B) ≤ B * 2 ^ (r / B - 1) := Nat.mul_le_mul_left _ (Nat.pow_le_pow_right (by omega) (by omega))
        have e5 : B * 2 ^ (r / B - 1) ≤ (B + r % B) * 2 ^ (r / B - 1) := Nat.mul_le_mul_right _ (by omega)
        omega
      · rw [heq]
        have d1 := Nat.div_add_mod r B
        have d2 := Nat.div_add_mod r' B
        rw [heq] at d2
        exact Nat.mul_le_mul_right _ (by omega)
/-- what a number's word reads as: a sign, a magnitude, a place above the least one -/
theorem signed_lt {s t : Bool} {m n e f : Nat} (L : Int) (h : compare (Ieee.signed s m ((L + e) - min (L + e) (L + f)).toNat) (Ieee.signed t n ((L + f) - min (L + e) (L + f)).toNat) = Ordering.lt) :
    (if s then -((m * 2 ^ e : Nat) : Int) else ((m * 2 ^ e : Nat) : Int)) < (if t then -((n * 2 ^ f : Nat) : Int) else ((n * 2 ^ f : Nat) : Int)) := by
  have e1 : ((L + e) - min (L + e) (L + f)).toNat = e - min e f := by omega
  have e2 : ((L + f) - min (L + e) (L + f)).toNat = f - min e f := by omega
  rw [e1, e2] at h
  have h' := Int.compare_eq_lt.1 h
  unfold Ieee.signed at h'
  simp only [Nat.shiftLeft_eq] at h'
  have p1 : m * 2 ^ e = m * 2 ^ (e - min e f) * 2 ^ (min e f) := by rw [Nat.mul_assoc, ← Nat.pow_add]; congr 2; omega
  have p2 : n * 2 ^ f = n * 2 ^ (f - min e f) * 2 ^ (min e f) := by rw [Nat.mul_assoc, ← Nat.pow_add]; congr 2; omega
  rw [p1, p2]
  have hp : (0 : Int) < ((2 ^ (min e f) : Nat) : Int) := by have := Nat.two_pow_pos (min e f); omega
  generalize m * 2 ^ (e - min e f) = X at *
  generalize n * 2 ^ (f - min e f) = Y at *
  generalize 2 ^ (min e f) = Z at *
  have := Int.mul_lt_mul_of_pos_right h' hp
  cases s <;> cases t <;> simp [Int.neg_mul] at this ⊢ <;> omega
theorem read_num (x : Nat) (h : x % 9223372036854775808 < 9218868437227405312) : ∃ m e : Nat, FloatKind.f64.format.read x = .number (x / 9223372036854775808 % 2 == 1) m (FloatKind.f64.format.leastPlace + e) ∧ m * 2 ^ e = rungVal 4503599627370496 (x % 9223372036854775808) := by
  have e1 : FloatKind.f64.format.signWeight = 9223372036854775808 := by decide
  have e2 : FloatKind.f64.format.infRung = 9218868437227405312 := by decide
  have e3 : FloatKind.f64.format.binade = 4503599627370496 := by decide
  unfold Ieee.Format.read rungVal
  simp only [e1, e2, e3]
  by_cases h1 : x % 9223372036854775808 < 4503599627370496
  · exact ⟨x % 9223372036854775808, 0, by rw [if_pos h1]; simp, by rw [if_pos h1]; simp⟩
  · exact ⟨_, _, by rw [if_neg h1, if_pos h], by rw [if_neg h1]⟩
theorem read_inf (x : Nat) (h : x % 9223372036854775808 = 9218868437227405312) : FloatKind.f64.format.read x = .infinity (x / 9223372036854775808 % 2 == 1) := by
  have e1 : FloatKind.f64.format.signWeight = 9223372036854775808 := by decide
  have e2 : FloatKind.f64.format.infRung = 9218868437227405312 := by decide
  have e3 : FloatKind.f64.format.binade = 4503599627370496 := by decide
  unfold Ieee.Format.read
  simp only [e1, e2, e3, h]
  simp
theorem read_nan' (x : Nat) (h : 9218868437227405312 < x % 9223372036854775808) : ∃ f, FloatKind.f64.format.read x = .nan (x / 9223372036854775808 % 2 == 1) f := by
  have e1 : FloatKind.f64.format.signWeight = 9223372036854775808 := by decide
  have e2 : FloatKind.f64.format.infRung = 9218868437227405312 := by decide
  have e3 : FloatKind.f64.format.binade = 4503599627370496 := by decide
  unfold Ieee.Format.read
  simp only [e1, e2, e3]
  rw [if_neg (by omega), if_neg (by omega), if_neg (by omega)]
  exact ⟨_, rfl⟩
theorem neg_is (x : Nat) (hx : x < 18446744073709551616) : (x / 9223372036854775808 % 2 == 1) = negB x := by
  unfold negB; rw [Bool.eq_iff_iff]; simp; omega
theorem order_key (a b : Nat) (ha : a < 18446744073709551616) (hb : b < 18446744073709551616) (h : FloatKind.f64.format.order a b = some .lt) : keyN a < keyN b := by
  have ra := Nat.lt_trichotomy (a % 9223372036854775808) 9218868437227405312
  have rb := Nat.lt_trichotomy (b % 9223372036854775808) 9218868437227405312
  unfold Ieee.Format.order at h
  rcases ra with ra | ra | ra
  · obtain ⟨m, e, h1, h2⟩ := read_num a ra
    rw [h1, neg_is a ha] at h
    have na : nanB a = false := by unfold nanB; simp; omega
    rcases rb with rb | rb | rb
    · obtain ⟨n, f, k1, k2⟩ := read_num b rb
      rw [k1, neg_is b hb] at h
      have nb : nanB b = false := by unfold nanB; simp; omega
      simp only [Ieee.Datum.order, Option.some.injEq] at h
      have h3 := signed_lt _ h
      rw [h2, k2] at h3
      have mono1 := rungVal_mono 4503599627370496 (a % 9223372036854775808) (b % 9223372036854775808) (by omega)
      have mono2 := rungVal_mono 4503599627370496 (b % 9223372036854775808) (a % 9223372036854775808) (by omega)
      unfold keyN
      rw [na, nb]
      generalize rungVal 4503599627370496 (a % 9223372036854775808) = va at *
      generalize rungVal 4503599627370496 (b % 9223372036854775808) = vb at *
      cases sa : negB a <;> cases sb : negB b <;> simp [sa, sb] at h3 ⊢ <;> simp [negB] at sa sb <;> omega
    · rw [read_inf b rb, neg_is b hb] at h
      have nb : nanB b = false := by unfold nanB; simp; omega
      unfold keyN; rw [na, nb]
      cases sb : negB b <;> simp [Ieee.Datum.order, sb] at h
      cases sa : negB a <;> simp <;> simp [negB] at sa sb <;> omega
    · obtain ⟨f, k1⟩ := read_nan' b rb
      rw [k1] at h
      simp [Ieee.Datum.order] at h
  · rw [read_inf a ra, neg_is a ha] at h
    have na : nanB a = false := by unfold nanB; simp; omega
    rcases rb with rb | rb | rb
    · obtain ⟨n, f, k1, k2⟩ := read_num b rb
      rw [k1, neg_is b hb] at h
      have nb : nanB b = false := by unfold nanB; simp; omega
      unfold keyN; rw [na, nb]
      cases sa : negB a <;> simp [Ieee.Datum.order, sa] at h
      cases sb : negB b <;> simp <;> simp [negB] at sa sb <;> omega
    · rw [read_inf b rb, neg_is b hb] at h
      have nb : nanB b = false := by unfold nanB; simp; omega
      unfold keyN; rw [na, nb]
      cases sa : negB a <;> cases sb : negB b <;> simp [Ieee.Datum.order, sa, sb] at h
      · exact absurd h (by decide)
      · simp
        simp [negB] at sa sb
        omega
    · obtain ⟨f, k1⟩ := read_nan' b rb
      rw [k1] at h
      simp [Ieee.Datum.order] at h
  · obtain ⟨f, h1⟩ := read_nan' a ra
    rw [h1] at h
    simp [Ieee.Datum.order] at h
def addF (a b : Nat) : Option Nat := FloatKind.f64.format.add a b
theorem add_nan {a : Nat} (h : nanB a = true) (x : Nat) : addF a x = none := by
  obtain ⟨f, h1⟩ := read_nan' a (by simpa [nanB] using h)
  unfold addF Ieee.Format.add
  rw [h1]
  simp [Ieee.Datum.sum]
theorem word_ok (neg : Bool) {r : Nat} (h : r ≤ 9218868437227405312) : nanB (FloatKind.f64.format.word neg r) = false ∧ FloatKind.f64.format.word neg r < 18446744073709551616 := by
  have e1 : FloatKind.f64.format.signWeight = 9223372036854775808 := by decide
  unfold Ieee.Format.word nanB
  rw [e1]
  cases neg <;> simp <;> omega
theorem write_ok (d : Ieee.Datum) (h : d.isNaN = false) : nanB (FloatKind.f64.format.write d) = false ∧ FloatKind.f64.format.write d < 18446744073709551616 := by
  have e2 : FloatKind.f64.format.infRung = 9218868437227405312 := by decide
  cases d with
  | number neg mag place =>
    show nanB (FloatKind.f64.format.nearest neg mag place) = false ∧ FloatKind.f64.format.nearest neg mag place < _
    unfold Ieee.Format.nearest
    dsimp only
    split
    · exact word_ok _ (by omega)
    · refine word_ok _ ?_
      rw [e2]
      exact Nat.min_le_right _ _
  | infinity neg =>
    show nanB (FloatKind.f64.format.word neg FloatKind.f64.format.infRung) = false ∧ FloatKind.f64.format.word neg FloatKind.f64.format.infRung < _
    rw [e2]
    exact word_ok _ (Nat.le_refl _)
  | nan => simp [Ieee.Datum.isNaN] at h
theorem sum_notnan {d e s : Ieee.Datum} (h : d.sum e = some s) : s.isNaN = false := by
  cases d <;> cases e <;> simp [Ieee.Datum.sum] at h
  · subst h; rfl
  · subst h; rfl
  · subst h; rfl
  · obtain ⟨_, rfl⟩ := h; rfl
theorem add_ok {a x r : Nat} (h : addF a x = some r) : nanB r = false ∧ r < 18446744073709551616 := by
  unfold addF Ieee.Format.add at h
  obtain ⟨s, hs, rfl⟩ := Option.map_eq_some_iff.1 h
  exact write_ok s (sum_notnan hs)
def stepF (o : Option Nat) (x : Nat) : Option Nat := o.bind fun a => addF a x
def headF (x : Nat) : Option Nat := if nanB x = true then none else some x
def sumF : List Nat → Option Nat
  | [] => some 0
  | x :: r => r.foldl stepF (headF x)
def IsF (o : Option Nat) (r : Nat) : Prop := r < 18446744073709551616 ∧ match o with
  | some a => r = a ∧ nanB a = false
  | none => nanB r = true
theorem IsF.head {x : Nat} (hx : x < 18446744073709551616) : IsF (headF x) x := by
  unfold headF IsF
  cases h : nanB x <;> simp [h, hx]
theorem IsF.key {o : Option Nat} {r s : Nat} (h : IsF o r) (k : IsF o s) : keyN r = keyN s := by
  unfold IsF at h k
  cases o with
  | none => rw [keyN_nan h.2, keyN_nan k.2]
  | some a => rw [h.2.1, k.2.1]
theorem IsF.some_ {o : Option Nat} {r x s : Nat} (h : IsF o r) (e : addF r x = some s) : IsF (stepF o x) s := by
  cases o with
  | none =>
    rw [add_nan h.2] at e
    cases e
  | some a =>
    obtain ⟨_, rfl, _⟩ := h
    unfold stepF IsF
    simp only [Option.bind_some, e]
    exact ⟨(add_ok e).2, trivial, (add_ok e).1⟩
theorem IsF.none_ {o : Option Nat} {r x s : Nat} (h : IsF o r) (e : addF r x = none) (hs : nanB s = true) (hl : s < 18446744073709551616) : IsF (stepF o x) s := by
  cases o with
  | none => exact ⟨hl, hs⟩
  | some a =>
    obtain ⟨_, rfl, _⟩ := h
    unfold stepF IsF
    simp only [Option.bind_some, e]
    exact ⟨hl, hs⟩
theorem sumF_snoc {l : List Nat} (h : l ≠ []) (x : Nat) : sumF (l ++ [x]) = stepF (sumF l) x := by
  cases l with
  | nil => exact absurd rfl h
  | cons y r => simp [sumF, List.foldl_append]
/-- which NaN an operation without an answer gives: the tape says -/
def nz (w : World) (x y : Nat) : Nat := Question.cut (.nanBits .f64 x y) (w.tape w.drawn (.nanBits .f64 x y))
theorem nz_form (s y : Nat) (h1 : s < 2) (h2 : y < 4503599627370495) : nanB (s * 9223372036854775808 + 9218868437227405312 + 1 + y) = true ∧ s * 9223372036854775808 + 9218868437227405312 + 1 + y < 18446744073709551616 := by
  unfold nanB
  rw [decide_eq_true_eq]
  omega
theorem nz_ok (w : World) (x y : Nat) : nanB (nz w x y) = true ∧ nz w x y < 18446744073709551616 :=
  nz_form (w.tape w.drawn (.nanBits .f64 x y) % 2) (w.tape w.drawn (.nanBits .f64 x y) / 2 % 4503599627370495) (Nat.mod_lt _ (by omega)) (Nat.mod_lt _ (by omega))
theorem run_add_none {P : Program} {x y : Nat} (h : addF x y = none) (w : World) : (binOp .add 46 (.float .f64 x) (.float .f64 y)).run P w = .ok (.float .f64 (nz w x y)) w.drew := by
  unfold addF at h
  simp [binOp, Op.floatArith, h, nz, Question.forced]
theorem run_add_some {P : Program} {x y r : Nat} (h : addF x y = some r) (w : World) : (binOp .add 46 (.float .f64 x) (.float .f64 y)).run P w = .ok (.float .f64 r) w :=
  run_float_arith w .add 24 .f64 x y r h
end Go.Proofs.Ytljkobijoenabaa.dv
namespace Go.Proofs.Ytljkobijoenabaa.dv
open Go.ChangeShapes Go.WideShapes Go.ChangeAt Go.RowKit Go.Maps Go.WideMaps Go.WideElems
set_option linter.unusedVariables false
set_option linter.unusedSimpArgs false

/-- a slice of floats, by its bits -/
def RdF (w : World) (A : Option Addr) (xs : List Nat) : Prop := 0 < xs.length → ∃ g, A = some ⟨g, 0, none⟩ ∧ ∀ j, j < xs.length → w.cell? ⟨g, j, none⟩ = some (.float .f64 (xs.getD j 0))
theorem RdF.drewN {w : World} {A : Option Addr} {xs : List Nat} (h : RdF w A xs) (n : Nat) : RdF (w.drewN n) A xs := h
theorem take_succ_getD (l : List Nat) (k : Nat) (h : k < l.length) : l.take (k + 1) = l.take k ++ [l.getD k 0] := by
  rw [List.take_succ_eq_append_getElem h]
  simp [List.getD, List.getElem?_eq_getElem h]
theorem sumF_take (l : List Nat) (k : Nat) (h : k < l.length) (hk : 0 < k) : sumF (l.take (k + 1)) = stepF (sumF (l.take k)) (l.getD k 0) := by
  rw [take_succ_getD l k h, sumF_snoc]
  intro e
  have h1 := congrArg List.length e
  rw [List.length_take] at h1
  simp only [List.length_nil] at h1
  omega
theorem sumF_one (l : List Nat) (h : 0 < l.length) : sumF (l.take 1) = headF (l.getD 0 0) := by
  cases l with
  | nil => simp at h
  | cons x r => simp [sumF]
theorem getD_mem (l : List Nat) (k : Nat) (h : k < l.length) : l.getD k 0 ∈ l := by
  simp [List.getD, List.getElem?_eq_getElem h]
set_option maxRecDepth 100000 in
set_option maxHeartbeats 1000000 in
theorem rsum_any (w : World) (A : Option Addr) (c : Nat) (xs : List Nat) (hlen : xs.length ≤ 60) (hb : ∀ x ∈ xs, x < 18446744073709551616) (hr : RdF w A xs) : Calls Try.prog 57 #[.slice A xs.length c] w fun e w' => ∃ r n, e = .returned (.float .f64 r) ∧ IsF (sumF xs) r ∧ w' = w.drewN n := by
  go_enter Try.func57, Try.ntmps57
  go_wp2
  go_loopw [3, 4] (fun s i wr => ∃ k r n : Nat, k ≤ xs.length ∧ i = .int .i64 k ∧ s = .float .f64 r ∧ (0 < k → IsF (sumF (xs.take k)) r) ∧ (k = 0 → r = 0) ∧ wr = w.drewN n) (fun _ i _ => xs.length - (intOf i).toNat)
  case atStart => exact ⟨0, 0, 0, Nat.zero_le _, rfl, rfl, fun h => absurd h (by omega), fun _ => rfl, rfl⟩
  case round =>
    obtain ⟨k, r, n, hk, rfl, rfl, hS, hZ, rfl⟩ := hrel
    by_cases hlt : k < xs.length
    · obtain ⟨g, rfl, hc⟩ := hr (by omega)
      have h0 : (w.drewN n).cell? ⟨g, 0, none⟩ = some (.float .f64 (xs.getD 0 0)) := hc 0 (by omega)
      have hck : (w.drewN n).cell? ⟨g, k, none⟩ = some (.float .f64 (xs.getD k 0)) := hc k hlt
      by_cases hk0 : k = 0
      · subst hk0
        have hx : xs.getD 0 0 < 18446744073709551616 := hb _ (getD_mem xs 0 hlt)
        generalize hy : xs.getD 0 0 = y at *
        have HY := Lib.hid hy
        clear hy hc hck hS hZ hr hb
        have hS1 : IsF (sumF (xs.take 1)) y := by
          rw [sumF_one xs hlt, HY.out]
          exact IsF.head hx
        have HS := Lib.hid hS1
        clear hS1
        go_wp2
        exact ⟨⟨1, y, n, hlt, rfl, rfl, fun _ => HS.out, fun h => absurd h (by omega), rfl⟩, by simp [intOf]; omega⟩
      · have hS' := hS (by omega)
        have ht := sumF_take xs k hlt (by omega)
        have hne : ((k : Int) == 0) = false := by rw [beq_eq_false_iff_ne]; omega
        generalize hy : xs.getD k 0 = y at *
        cases ha : addF r y with
        | some z =>
          have HS := Lib.hid (ht ▸ hS'.some_ ha)
          have hq := fun w => run_add_some (P := Try.prog) ha w
          clear hy hc h0 hS hS' hZ hr hb ht ha
          go_wp2
          exact ⟨⟨k + 1, z, n, hlt, by go_num, rfl, fun _ => HS.out, fun h => absurd h (by omega), rfl⟩, by simp [intOf]; omega⟩
        | none =>
          have HS := Lib.hid (fun w => ht ▸ hS'.none_ ha (nz_ok w r y).1 (nz_ok w r y).2)
          have hq := fun w => run_add_none (P := Try.prog) ha w
          clear hy hc h0 hS hS' hZ hr hb ht ha
          go_wp2
          exact ⟨⟨k + 1, _, n + 1, hlt, by go_num, rfl, fun _ => HS.out _, fun h => absurd h (by omega), rfl⟩, by simp [intOf]; omega⟩
    · have e : k = xs.length := by omega
      have hF : IsF (sumF xs) r := by
        by_cases h0 : xs.length = 0
        · have hx : xs = [] := List.eq_nil_of_length_eq_zero h0
          rw [hx, hZ (by omega)]
          exact ⟨by omega, rfl, rfl⟩
        · have := hS (by omega)
          rwa [e, List.take_length] at this
      have HF := Lib.hid hF
      clear hF hS hZ hr hb e
      go_wp2
      go_ret
      exact ⟨r, n, rfl, HF.out, rfl⟩
set_option maxRecDepth 100000 in
theorem sum_nil (w : World) (A : Option Addr) (c : Nat) : Calls Try.prog 56 #[.slice A 0 c] w fun e w' => e = .returned (.float .f64 0) ∧ w = w' := by
  go_enter Try.func56, Try.ntmps56
  go_wp2
  go_ret
  exact ⟨rfl, rfl⟩
set_option maxRecDepth 100000 in
set_option maxHeartbeats 1000000 in
theorem sum_cons (w : World) (g : Nat) (c : Nat) (xs : List Nat) (hp : 0 < xs.length) (hlen : xs.length ≤ 60) (hcap : xs.length ≤ c) (hm : c ≤ 9223372036854775807) (hb : ∀ x ∈ xs, x < 18446744073709551616) (hc : ∀ j, j < xs.length → w.cell? ⟨g, j, none⟩ = some (.float .f64 (xs.getD j 0))) : Calls Try.prog 56 #[.slice (some ⟨g, 0, none⟩) xs.length c] w fun e w' => ∃ r n, e = .returned (.float .f64 r) ∧ IsF (sumF xs) r ∧ w' = w.drewN n := by
  have hne : ((xs.length : Int) == 0) = false := by rw [beq_eq_false_iff_ne]; omega
  have h0 : w.cell? ⟨g, 0, none⟩ = some (.float .f64 (xs.getD 0 0)) := hc 0 hp
  have HC := Lib.hid hc
  have HB := Lib.hid hb
  have hx : xs.getD 0 0 < 18446744073709551616 := hb _ (getD_mem xs 0 hp)
  have h1 : IsF (sumF (xs.take 1)) (xs.getD 0 0) := by rw [sumF_one xs hp]; exact IsF.head hx
  have H1 := Lib.hid h1
  clear hc hb hx h1
  generalize xs.getD 0 0 = y0 at *
  have hcc : c = 1 ∨ 1 < c := by omega
  go_enter Try.func56, Try.ntmps56
  rcases hcc with rfl | hcc
  all_goals
    go_wp2
    go_loopw [3, 15] (fun s i wr => ∃ k r n : Nat, k + 1 ≤ xs.length ∧ i = .int .i64 k ∧ s = .float .f64 r ∧ IsF (sumF (xs.take (k + 1))) r ∧ wr = w.drewN n) (fun _ i _ => xs.length - (intOf i).toNat)
    case atStart => exact ⟨0, y0, 0, hp, rfl, rfl, H1.out, rfl⟩
    case round =>
      obtain ⟨k, r, n, hk, rfl, rfl, hS, rfl⟩ := hrel
      clear h0
      by_cases hlt : k + 1 < xs.length
      · first
        | (exfalso; omega)
        | have hck : (w.drewN n).cell? ⟨g, 1 + k, none⟩ = some (.float .f64 (xs.getD (k + 1) 0)) := by
            have := HC.out (k + 1) hlt
            rw [Nat.add_comm 1 k]; exact this
          have ht := sumF_take xs (k + 1) hlt (by omega)
          generalize xs.getD (k + 1) 0 = y at *
          cases ha : addF r y with
          | some z =>
            have HS := Lib.hid (ht ▸ hS.some_ ha)
            have hq := fun w => run_add_some (P := Try.prog) ha w
            clear hS ht ha
            go_wp2
            exact ⟨⟨k + 1, z, n, by omega, by go_num, rfl, HS.out, rfl⟩, by simp [intOf]; omega⟩
          | none =>
            have HS := Lib.hid (fun w => ht ▸ hS.none_ ha (nz_ok w r y).1 (nz_ok w r y).2)
            have hq := fun w => run_add_none (P := Try.prog) ha w
            clear hS ht ha
            go_wp2
            exact ⟨⟨k + 1, _, n + 1, by omega, by go_num, rfl, HS.out _, rfl⟩, by simp [intOf]; omega⟩
      · have e : k + 1 = xs.length := by omega
        rw [e, List.take_length] at hS
        have HS := Lib.hid hS
        clear hS e
        go_wp2
        go_ret
        exact ⟨r, n, rfl, HS.out, rfl⟩
theorem info24 : (Try.prog.info? 46).map (fun i => (i.zero, i.size, i.bytes)) = some (some (.float .f64 0), 1, 8) := by kernel_rfl
def fl (l : List Nat) : List Value := l.map (Value.float .f64)
theorem one_fl (l : List Nat) : ∀ u ∈ fl l, u.oneCell' = true := by
  intro u hu
  obtain ⟨x, _, rfl⟩ := List.mem_map.1 hu
  rfl
theorem own_form {w : World} {B : Nat} {v : Value} {n : Nat} {l : List Nat} (h : w.ownsRow B 46 1 v n (fl l)) (hn : l.length = n) : ∃ A c, v = .slice A n c ∧ RdF w A l ∧ (0 < n → ∃ g, A = some ⟨g, 0, none⟩) ∧ n ≤ c ∧ c ≤ 9223372036854775807 := by
  have h' := h
  rcases h.2 with ⟨rfl, rfl⟩ | ⟨g, cap, cur, rfl, _, _, hc, hm, _⟩
  · exact ⟨none, 0, rfl, fun hp => by omega, fun hp => by omega, Nat.le_refl _, by omega⟩
  · unfold maxLen at hm
    refine ⟨_, cap, rfl, fun hp => ⟨g, rfl, fun j hj => ?_⟩, fun _ => ⟨g, rfl⟩, hc, by omega⟩
    rw [h'.cellAt j (by omega)]
    simp [fl, List.getD, List.getElem?_eq_getElem hj]
theorem fl_snoc (l : List Nat) (k : Nat) (h : k < l.length) : fl (l.take k) ++ fl [l.getD k 0] = fl (l.take (k + 1)) := by
  rw [take_succ_getD l k h]; simp [fl]
/-! the weights of a derivation -/
def wtsW (R : List Rl) (ks : List Int) : List Nat := (ks.filter fun k => isRl R k).map fun k => (R.getD k.toNat ⟨0, [], 0⟩).wt
theorem wts_snoc (R : List Rl) (ks : List Int) (j : Nat) (h : j < ks.length) : wtsW R (ks.take (j + 1)) = wtsW R (ks.take j) ++ (if isRl R (ks.getD j 0) then [(R.getD (ks.getD j 0).toNat ⟨0, [], 0⟩).wt] else []) := by
  rw [List.take_succ_eq_append_getElem h, List.getD_eq_getElem?_getD, List.getElem?_eq_getElem h]
  unfold wtsW
  rw [List.filter_append, List.map_append]
  cases hr : isRl R ks[j] <;> simp [hr]
theorem wts_len (R : List Rl) (ks : List Int) : (wtsW R ks).length ≤ ks.length := by
  unfold wtsW
  rw [List.length_map]
  exact List.length_filter_le _ _
theorem sum_own (w : World) (B n : Nat) (v : Value) (l : List Nat) (h : w.ownsRow B 46 1 v n (fl l)) (hn : l.length = n) (hl : n ≤ 60) (hb : ∀ x ∈ l, x < 18446744073709551616) : Calls Try.prog 56 #[v] w fun e w' => ∃ r m, e = .returned (.float .f64 r) ∧ IsF (sumF l) r ∧ w' = w.drewN m := by
  subst hn
  obtain ⟨A, c, rfl, hrd, hA, hc, hm⟩ := own_form h rfl
  by_cases h0 : 0 < l.length
  · obtain ⟨g, rfl⟩ := hA h0
    exact sum_cons w g c l h0 hl hc hm hb (fun j hj => by
      obtain ⟨g2, e2, hc2⟩ := hrd h0
      cases e2
      exact hc2 j hj)
  · have hx : l = [] := List.eq_nil_of_length_eq_zero (by omega)
    subst hx
    refine (sum_nil w A c).mono ?_
    rintro e w' ⟨rfl, rfl⟩
    exact ⟨0, 0, rfl, ⟨by omega, rfl, rfl⟩, rfl⟩
theorem rsum_own (w : World) (B n : Nat) (v : Value) (l : List Nat) (h : w.ownsRow B 46 1 v n (fl l)) (hn : l.length = n) (hl : n ≤ 60) (hb : ∀ x ∈ l, x < 18446744073709551616) : Calls Try.prog 57 #[v] w fun e w' => ∃ r m, e = .returned (.float .f64 r) ∧ IsF (sumF l) r ∧ w' = w.drewN m := by
  subst hn
  obtain ⟨A, c, rfl, hrd, hA, hc, hm⟩ := own_form h rfl
  exact rsum_any w A c l hl hb hrd
end Go.Proofs.Ytljkobijoenabaa.dv
namespace Go.Proofs.Ytljkobijoenabaa.dv
open Go.ChangeShapes Go.WideShapes Go.ChangeAt Go.RowKit Go.Maps Go.WideMaps Go.WideElems
set_option linter.unusedVariables false
set_option linter.unusedSimpArgs false
/-! small ones -/
theorem lit_row (w : World) (x : List Int) (n : Nat) (cs : Array Value) (hc : cs = (IV x).toArray) (hn : x.length = n) (hin : ∀ n ∈ x, In64 n) (hl : n ≤ 1000) : RowAt (w.alloc (.cells cs 3)) (.slice (some ⟨w.heap.size, 0, none⟩) n n) x := by
  subst hn
  subst hc
  refine ⟨_, _, rfl, Nat.le_refl _, by unfold maxLen; omega, fun h => (by cases h), hin, fun i hi => ⟨_, rfl, by simp, ?_⟩⟩
  rw [Addr.add_lit, Nat.zero_add, (Blk.new w 3 (IV x).toArray).cell i]
  simp [IV, List.getD_eq_getElem?_getD, hi]
theorem WordAt.drop2 {w w' : World} {v : Value} {x : List Int} (h : WordAt w v x) (hb : Below w.heap.size w w') : WordAt w' v x := h.below hb
theorem below_lit (w : World) (cs : Array Value) (t : TypeId) : Below w.heap.size w (w.alloc (.cells cs t)) := (Below.refl _ w).alloc (Nat.le_refl _) _
theorem rsame_self (w : World) (v u : Value) (x : List Int) (hv : WordAt w v x) (hu : WordAt w u x) (hx : x.length ≤ 1000) : Calls Try.prog 18 #[v, u] w fun e w' => e = .returned (.bool true) ∧ Below w.heap.size w w' := by
  refine (rsame_any w v u x x hv hu hx hx).mono ?_
  rintro e w' ⟨rfl, n, rfl⟩
  exact ⟨by simp, below_drewN (Below.refl _ _) n⟩
theorem two_below (w : World) (cs ds : Array Value) (t u : TypeId) : Below w.heap.size w ((w.alloc (.cells cs t)).alloc (.cells ds u)) := ((Below.refl _ w).alloc (Nat.le_refl _) _).alloc (by simp) _
def Wf (R : List Rl) : Prop := ∀ r ∈ R, r.wt < 18446744073709551616
end Go.Proofs.Ytljkobijoenabaa.dv
namespace Go.Proofs.Ytljkobijoenabaa.dv
open Go.ChangeShapes Go.WideShapes Go.ChangeAt Go.RowKit Go.Maps Go.WideMaps Go.WideElems
set_option linter.unusedVariables false
set_option linter.unusedSimpArgs false
/-! the weight of a derivation -/
theorem wts_wf {R : List Rl} (h : Wf R) (ks : List Int) : ∀ x ∈ wtsW R ks, x < 18446744073709551616 := fun x hx => by
  unfold wtsW at hx
  obtain ⟨k, hk, rfl⟩ := List.mem_map.1 hx
  have hr := (List.mem_filter.1 hk).2
  simp [isRl] at hr
  have : R[k.toNat]? = some (R[k.toNat]'(by omega)) := List.getElem?_eq_getElem (by omega)
  rw [List.getD_eq_getElem?_getD, this]
  exact h _ (List.getElem_mem (by omega))
theorem fl_one (l : List Nat) (x : Nat) : fl (l ++ [x]) = fl l ++ fl [x] := by simp [fl]
set_option maxRecDepth 100000 in
set_option maxHeartbeats 1000000 in
theorem weight_any (w : World) (B : Nat) (ta va : Option Addr) (tl tc vl vc : Nat) (rv kv : Value) (R : List Rl) (ks : List Int) (hR : RulesAt B w rv R) (hB : B ≤ w.heap.size) (hk : RowAt w kv ks) (hks : ks.length ≤ 60) (hW : Wf R) :
    Calls Try.prog 26 #[.agg #[.slice ta tl tc, .slice va vl vc, rv], kv] w fun e w' => ∃ r, e = .returned (.float .f64 r) ∧ IsF (sumF (wtsW R ks)) r ∧ Below w.heap.size w w' := by
  obtain ⟨i0, hi, hz0, hz1, hz2⟩ := info_parts info24
  have hwf := wts_wf hW ks
  have hwl := wts_len R ks
  obtain ⟨ra, rc, rfl, hn, hrl⟩ := id hR
  have b0 := Blk.new w 25 #[.slice ta tl tc, .slice va vl vc, .slice ra R.length rc]
  have hbl : Below w.heap.size w (w.alloc (.cells #[.slice ta tl tc, .slice va vl vc, .slice ra R.length rc] 25)) := (Below.refl _ w).alloc (Nat.le_refl _) _
  obtain ⟨ko, kcap, rfl, kcp, kcm, kcn, kcin, kcc⟩ := hk
  have hR1 : RulesAt B (w.alloc (.cells #[.slice ta tl tc, .slice va vl vc, .slice ra R.length rc] 25)) (.slice ra R.length rc) R := hR.below (hbl.mono hB)
  generalize hW0 : w.alloc (.cells #[.slice ta tl tc, .slice va vl vc, .slice ra R.length rc] 25) = w0 at *
  have hz0' : w0.heap.size = w.heap.size + 1 := by rw [← hW0]; simp
  have KC := Lib.hid kcc
  have HR1 := Lib.hid hR1
  have HWF := Lib.hid hwf
  have HWL := Lib.hid hwl
  clear kcc hR hrl kcin hR1 hwf hwl
  go_enter Try.func26, Try.ntmps26
  go_wp2_with fail
  go_loopw [5, 10] (fun v i wr => ∃ j : Nat, j ≤ ks.length ∧ i = .int .i64 j ∧ wr.ownsRow (w.heap.size + 1) 46 1 v (wtsW R (ks.take j)).length (fl (wtsW R (ks.take j))) ∧ Below (w.heap.size + 1) w0 wr) (fun _ i _ => ks.length - (intOf i).toNat)
  case atStart => exact ⟨0, Nat.zero_le _, rfl, by simpa [wtsW, fl] using World.ownsRow_nil _ _ _ _, Below.refl _ _⟩
  case round =>
    obtain ⟨j, hj, rfl, hown, hbr⟩ := hrel
    have hzr := hbr.size
    have bx := b0.below hbr (by omega)
    have d0 := bx.cell 0
    have d1 := bx.cell 1
    have d2 := bx.cell 2
    simp only [List.getElem?_toArray, List.getElem?_cons_zero, List.getElem?_cons_succ] at d0 d1 d2
    by_cases hlt : j < ks.length
    · obtain ⟨ka, rfl, kab, kca⟩ := KC.out j hlt
      have kc1 : wr.cell? (ka.add j) = some (.int .i64 (ks.getD j 0)) := (hbr.cell (p := ka.add j) (by rw [add_block]; omega)).trans ((hbl.cell (p := ka.add j) (by rw [add_block]; exact kab)).trans kca)
      have hsn := wts_snoc R ks j hlt
      have hln : (wtsW R (ks.take j)).length ≤ 60 := Nat.le_trans (wts_len _ _) (by simp; omega)
      generalize ks.getD j 0 = k at *
      have HSN := Lib.hid hsn
      clear hsn kca
      have his := isRule_any wr ta va ra tl tc vl vc R.length rc k hn
      by_cases h1 : 0 ≤ k ∧ k < R.length
      · obtain ⟨h1, h2⟩ := h1
        obtain ⟨kn, rfl⟩ : ∃ kn : Nat, k = kn := ⟨k.toNat, by omega⟩
        have hir : isRl R (kn : Int) = true := by simp [isRl]; omega
        rw [decide_eq_true h1, decide_eq_true h2] at his
        obtain ⟨r, hrk⟩ : ∃ r, R[kn]? = some r := ⟨_, List.getElem?_eq_getElem (by omega)⟩
        have hsn2 : wtsW R (ks.take (j + 1)) = wtsW R (ks.take j) ++ [r.wt] := by
          rw [HSN.out, if_pos hir]
          simp [List.getD_eq_getElem?_getD, hrk]
        have HS2 := Lib.hid hsn2
        clear hsn2 hir
        generalize wtsW R (ks.take j) = L at *
        go_wp2_with fail
        refine his.mono ?_
        rintro e w1 ⟨rfl, hb1⟩
        have hb1' : Below (w.heap.size + 1) w0 w1 := hbr.trans (hb1.mono (by omega))
        have hz1' := hb1'.size
        obtain ⟨ra', rc', er, _, hr2⟩ := HR1.out.below (hb1'.mono (by omega : B ≤ w.heap.size + 1))
        cases er
        obtain ⟨a2, rfl, hab2, ao2, c2, _, _, hwt, _⟩ := hr2 kn r hrk
        rw [add_form a2 (kn * 3) 2 (by decide)] at hwt
        have bx1 := b0.below hb1' (by omega)
        have e2 := bx1.cell 2
        simp only [List.getElem?_toArray, List.getElem?_cons_zero, List.getElem?_cons_succ] at e2
        have hown1 := ownsRow_keep (w' := w1) hown (fun g hg _ => hb1.block g hg)
        clear hr2 bx bx1
        generalize r.wt = y at *
        go_wp2_with (at_builtin; go_must (refine wpList_append_own _ rfl _ _ 78 rfl (w.heap.size + 1) 46 i0 (.float .f64 0) 1 8 Try.underlying78 hi hz0 hz1 hz2 rfl (by decide) _ _ _ rfl (hown1.alloc _) ⟨w1.heap.size, 0, none⟩ 1 1 (fl [y]) rfl rfl (cell_one_new _ _ _) (one_fl _) (by unfold maxLen; omega) (by omega) (by simp; omega) ?_); intro v' w2 hown' hgrow _)
        have hb2 : Below (w.heap.size + 1) w0 w2 := (hb1'.alloc (by omega) _).grown hgrow (by simp; omega) (fun j hj => (hown1.lt j hj).1)
        refine ⟨⟨j + 1, hlt, congrArg (Value.int .i64) (by omega), ?_, hb2⟩, by simp only [intOf]; omega⟩
        rw [HS2.out, fl_one]
        simpa using hown'
      · have hir : isRl R k = false := isRl_no h1
        rw [isRl_no h1] at his
        have hsn2 : wtsW R (ks.take (j + 1)) = wtsW R (ks.take j) := by
          rw [HSN.out, hir]
          simp
        have HS2 := Lib.hid hsn2
        clear hsn2 hir
        generalize wtsW R (ks.take j) = L at *
        go_wp2_with fail
        refine his.mono ?_
        rintro e w1 ⟨rfl, hb1⟩
        have hb1' : Below (w.heap.size + 1) w0 w1 := hbr.trans (hb1.mono (by omega))
        have hown1 := ownsRow_keep (w' := w1) hown (fun g hg _ => hb1.block g hg)
        go_wp2
        refine ⟨⟨j + 1, hlt, congrArg (Value.int .i64) (by omega), ?_, hb1'⟩, by simp only [intOf]; omega⟩
        rw [HS2.out]
        exact hown1
    · obtain rfl : j = ks.length := by omega
      rw [List.take_length] at hown
      have hl60 := HWL.out
      have hsu := sum_own wr _ _ _ _ hown rfl (by omega) HWF.out
      obtain ⟨ao, c, rfl⟩ := own_len hown
      go_wp2_with fail
      refine hsu.mono ?_
      rintro e w1 ⟨r, m, rfl, hf, rfl⟩
      have HF := Lib.hid hf
      clear hf
      go_wp2
      go_ret
      exact ⟨r, rfl, HF.out, hbl.trans (below_drewN (hbr.mono (by omega)) m)⟩
end Go.Proofs.Ytljkobijoenabaa.dv
namespace Go.Proofs.Ytljkobijoenabaa.dv
open Go.ChangeShapes Go.WideShapes Go.ChangeAt Go.RowKit Go.Maps Go.WideMaps Go.WideElems
set_option linter.unusedVariables false
set_option linter.unusedSimpArgs false
/-! the document's example -/
instance (n : Int) : Decidable (In64 n) := by unfold In64; infer_instance
def pairsR : List Rl := [⟨0, [-1, 0, -2], 0⟩, ⟨0, [], 4611686018427387904⟩]
set_option maxRecDepth 100000 in
set_option maxHeartbeats 1000000 in
theorem pairs_any (w : World) : Calls Try.prog 37 #[] w fun e w' => ∃ t v r, e = .returned (.agg #[.slice (some t) 2 2, .slice (some v) 1 1, .slice (some ⟨r, 0, none⟩) 2 2]) ∧ RulesAt w'.heap.size w' (.slice (some ⟨r, 0, none⟩) 2 2) pairsR ∧ Below w.heap.size w w' := by
  have bG : Blk (((((w.alloc (.cells #[.slice (some ⟨w.heap.size + 1, 0, none⟩) 2 2, .slice (some ⟨w.heap.size + 1 + 1, 0, none⟩) 1 1, .slice (some ⟨w.heap.size + 1 + 1 + 1 + 1, 0, none⟩) 2 2] 25)).alloc (.cells #[.string ⟨#[97]⟩, .string ⟨#[98]⟩] 9)).alloc (.cells #[.string ⟨#[115]⟩] 9)).alloc (.cells #[.int .i64 (-1), .int .i64 0, .int .i64 (-2)] 3)).alloc (.cells #[.int .i64 0, .slice (some ⟨w.heap.size + 1 + 1 + 1, 0, none⟩) 3 3, .float .f64 0, .int .i64 0, .slice none 0 0, .float .f64 4611686018427387904] 52)) w.heap.size 25 _ := ((((Blk.new w 25 _).alloc _).alloc _).alloc _).alloc _
  have bC : Blk (((((w.alloc (.cells #[.slice (some ⟨w.heap.size + 1, 0, none⟩) 2 2, .slice (some ⟨w.heap.size + 1 + 1, 0, none⟩) 1 1, .slice (some ⟨w.heap.size + 1 + 1 + 1 + 1, 0, none⟩) 2 2] 25)).alloc (.cells #[.string ⟨#[97]⟩, .string ⟨#[98]⟩] 9)).alloc (.cells #[.string ⟨#[115]⟩] 9)).alloc (.cells #[.int .i64 (-1), .int .i64 0, .int .i64 (-2)] 3)).alloc (.cells #[.int .i64 0, .slice (some ⟨w.heap.size + 1 + 1 + 1, 0, none⟩) 3 3, .float .f64 0, .int .i64 0, .slice none 0 0, .float .f64 4611686018427387904] 52)) (w.heap.size + 1 + 1 + 1) 3 #[.int .i64 (-1), .int .i64 0, .int .i64 (-2)] := by
    have := (Blk.new (((w.alloc (.cells #[.slice (some ⟨w.heap.size + 1, 0, none⟩) 2 2, .slice (some ⟨w.heap.size + 1 + 1, 0, none⟩) 1 1, .slice (some ⟨w.heap.size + 1 + 1 + 1 + 1, 0, none⟩) 2 2] 25)).alloc (.cells #[.string ⟨#[97]⟩, .string ⟨#[98]⟩] 9)).alloc (.cells #[.string ⟨#[115]⟩] 9)) 3 #[.int .i64 (-1), .int .i64 0, .int .i64 (-2)]).alloc (.cells #[.int .i64 0, .slice (some ⟨w.heap.size + 1 + 1 + 1, 0, none⟩) 3 3, .float .f64 0, .int .i64 0, .slice none 0 0, .float .f64 4611686018427387904] 52)
    simpa using this
  have bD : Blk (((((w.alloc (.cells #[.slice (some ⟨w.heap.size + 1, 0, none⟩) 2 2, .slice (some ⟨w.heap.size + 1 + 1, 0, none⟩) 1 1, .slice (some ⟨w.heap.size + 1 + 1 + 1 + 1, 0, none⟩) 2 2] 25)).alloc (.cells #[.string ⟨#[97]⟩, .string ⟨#[98]⟩] 9)).alloc (.cells #[.string ⟨#[115]⟩] 9)).alloc (.cells #[.int .i64 (-1), .int .i64 0, .int .i64 (-2)] 3)).alloc (.cells #[.int .i64 0, .slice (some ⟨w.heap.size + 1 + 1 + 1, 0, none⟩) 3 3, .float .f64 0, .int .i64 0, .slice none 0 0, .float .f64 4611686018427387904] 52)) (w.heap.size + 1 + 1 + 1 + 1) 52 #[.int .i64 0, .slice (some ⟨w.heap.size + 1 + 1 + 1, 0, none⟩) 3 3, .float .f64 0, .int .i64 0, .slice none 0 0, .float .f64 4611686018427387904] := by
    have := Blk.new ((((w.alloc (.cells #[.slice (some ⟨w.heap.size + 1, 0, none⟩) 2 2, .slice (some ⟨w.heap.size + 1 + 1, 0, none⟩) 1 1, .slice (some ⟨w.heap.size + 1 + 1 + 1 + 1, 0, none⟩) 2 2] 25)).alloc (.cells #[.string ⟨#[97]⟩, .string ⟨#[98]⟩] 9)).alloc (.cells #[.string ⟨#[115]⟩] 9)).alloc (.cells #[.int .i64 (-1), .int .i64 0, .int .i64 (-2)] 3)) 52 #[.int .i64 0, .slice (some ⟨w.heap.size + 1 + 1 + 1, 0, none⟩) 3 3, .float .f64 0, .int .i64 0, .slice none 0 0, .float .f64 4611686018427387904]
    simpa using this
  have hbe : Below w.heap.size w (((((w.alloc (.cells #[.slice (some ⟨w.heap.size + 1, 0, none⟩) 2 2, .slice (some ⟨w.heap.size + 1 + 1, 0, none⟩) 1 1, .slice (some ⟨w.heap.size + 1 + 1 + 1 + 1, 0, none⟩) 2 2] 25)).alloc (.cells #[.string ⟨#[97]⟩, .string ⟨#[98]⟩] 9)).alloc (.cells #[.string ⟨#[115]⟩] 9)).alloc (.cells #[.int .i64 (-1), .int .i64 0, .int .i64 (-2)] 3)).alloc (.cells #[.int .i64 0, .slice (some ⟨w.heap.size + 1 + 1 + 1, 0, none⟩) 3 3, .float .f64 0, .int .i64 0, .slice none 0 0, .float .f64 4611686018427387904] 52)) := (((((Below.refl _ w).alloc (Nat.le_refl _) _).alloc (by simp) _).alloc (by simp; omega) _).alloc (by simp; omega) _).alloc (by simp; omega) _
  have e0 := bG.cell 0
  have e1 := bG.cell 1
  have e2 := bG.cell 2
  simp only [List.getElem?_toArray, List.getElem?_cons_zero, List.getElem?_cons_succ] at e0 e1 e2
  go_enter Try.func37, Try.ntmps37
  go_wp2
  refine bodyPost_ret (v := .agg #[.slice (some ⟨w.heap.size + 1, 0, none⟩) 2 2, .slice (some ⟨w.heap.size + 1 + 1, 0, none⟩) 1 1, .slice (some ⟨w.heap.size + 1 + 1 + 1 + 1, 0, none⟩) 2 2]) (by simp [results, Try.results37, go_sem, e0, e1, e2]) rfl ?_
  generalize hW : (((((w.alloc (.cells #[.slice (some ⟨w.heap.size + 1, 0, none⟩) 2 2, .slice (some ⟨w.heap.size + 1 + 1, 0, none⟩) 1 1, .slice (some ⟨w.heap.size + 1 + 1 + 1 + 1, 0, none⟩) 2 2] 25)).alloc (.cells #[.string ⟨#[97]⟩, .string ⟨#[98]⟩] 9)).alloc (.cells #[.string ⟨#[115]⟩] 9)).alloc (.cells #[.int .i64 (-1), .int .i64 0, .int .i64 (-2)] 3)).alloc (.cells #[.int .i64 0, .slice (some ⟨w.heap.size + 1 + 1 + 1, 0, none⟩) 3 3, .float .f64 0, .int .i64 0, .slice none 0 0, .float .f64 4611686018427387904] 52)) = W at *
  clear hW bG e0 e1 e2
  refine ⟨_, _, _, rfl, ⟨_, 2, rfl, by decide, fun k r hk => ?_⟩, hbe⟩
  have hc : ∀ j, W.cell? ((⟨w.heap.size + 1 + 1 + 1 + 1, 0, none⟩ : Addr).add j) = #[.int .i64 0, .slice (some ⟨w.heap.size + 1 + 1 + 1, 0, none⟩) 3 3, .float .f64 0, .int .i64 0, .slice none 0 0, .float .f64 4611686018427387904][j]? := fun j => by
    rw [Addr.add_lit, Nat.zero_add]
    exact bD.cell j
  refine ⟨_, rfl, bD.lt, ?_⟩
  match k, hk with
  | 0, hk =>
    cases hk
    refine ⟨some ⟨w.heap.size + 1 + 1 + 1, 0, none⟩, 3, hc 0, hc 1, hc 2, by decide, by decide, fun h => (by cases h), fun j hj => ⟨_, rfl, bC.lt, ?_⟩, by decide, by decide⟩
    rw [Addr.add_lit, Nat.zero_add, bC.cell j]
    match j, hj with
    | 0, _ => rfl
    | 1, _ => rfl
    | 2, _ => rfl
  | 1, hk =>
    cases hk
    refine ⟨none, 0, hc 3, hc 4, hc 5, by decide, by decide, fun _ => rfl, fun j hj => absurd hj (by simp), by decide, by decide⟩
  | k + 2, hk => cases hk
end Go.Proofs.Ytljkobijoenabaa.dv
namespace Go.Proofs.Ytljkobijoenabaa.dv
open Go.ChangeShapes Go.WideShapes Go.ChangeAt Go.RowKit Go.Maps Go.WideMaps Go.WideElems
set_option linter.unusedVariables false
set_option linter.unusedSimpArgs false
/-! the document's example of layer 11 -/
def hiddenR : List Rl := [⟨0, [1, 0, -1], 0⟩, ⟨0, [-2], 0⟩, ⟨1, [], 0⟩]
set_option maxRecDepth 100000 in
set_option maxHeartbeats 1000000 in
theorem hidden_any (w : World) : Calls Try.prog 58 #[] w fun e w' => ∃ t v r, e = .returned (.agg #[.slice (some t) 2 2, .slice (some v) 2 2, .slice (some ⟨r, 0, none⟩) 3 3]) ∧ RulesAt w'.heap.size w' (.slice (some ⟨r, 0, none⟩) 3 3) hiddenR ∧ Below w.heap.size w w' := by
  have bG : Blk ((((((w.alloc (.cells #[.slice (some ⟨w.heap.size + 1, 0, none⟩) 2 2, .slice (some ⟨w.heap.size + 1 + 1, 0, none⟩) 2 2, .slice (some ⟨w.heap.size + 1 + 1 + 1 + 1 + 1, 0, none⟩) 3 3] 25)).alloc (.cells #[.string ⟨#[97]⟩, .string ⟨#[98]⟩] 9)).alloc (.cells #[.string ⟨#[115]⟩, .string ⟨#[116]⟩] 9)).alloc (.cells #[.int .i64 1, .int .i64 0, .int .i64 (-1)] 3)).alloc (.cells #[.int .i64 (-2)] 3)).alloc (.cells #[.int .i64 0, .slice (some ⟨w.heap.size + 1 + 1 + 1, 0, none⟩) 3 3, .float .f64 0, .int .i64 0, .slice (some ⟨w.heap.size + 1 + 1 + 1 + 1, 0, none⟩) 1 1, .float .f64 0, .int .i64 1, .slice none 0 0, .float .f64 0] 52)) w.heap.size 25 #[.slice (some ⟨w.heap.size + 1, 0, none⟩) 2 2, .slice (some ⟨w.heap.size + 1 + 1, 0, none⟩) 2 2, .slice (some ⟨w.heap.size + 1 + 1 + 1 + 1 + 1, 0, none⟩) 3 3] := (((((Blk.new w 25 #[.slice (some ⟨w.heap.size + 1, 0, none⟩) 2 2, .slice (some ⟨w.heap.size + 1 + 1, 0, none⟩) 2 2, .slice (some ⟨w.heap.size + 1 + 1 + 1 + 1 + 1, 0, none⟩) 3 3]).alloc _).alloc _).alloc _).alloc _).alloc _
  have bC : Blk ((((((w.alloc (.cells #[.slice (some ⟨w.heap.size + 1, 0, none⟩) 2 2, .slice (some ⟨w.heap.size + 1 + 1, 0, none⟩) 2 2, .slice (some ⟨w.heap.size + 1 + 1 + 1 + 1 + 1, 0, none⟩) 3 3] 25)).alloc (.cells #[.string ⟨#[97]⟩, .string ⟨#[98]⟩] 9)).alloc (.cells #[.string ⟨#[115]⟩, .string ⟨#[116]⟩] 9)).alloc (.cells #[.int .i64 1, .int .i64 0, .int .i64 (-1)] 3)).alloc (.cells #[.int .i64 (-2)] 3)).alloc (.cells #[.int .i64 0, .slice (some ⟨w.heap.size + 1 + 1 + 1, 0, none⟩) 3 3, .float .f64 0, .int .i64 0, .slice (some ⟨w.heap.size + 1 + 1 + 1 + 1, 0, none⟩) 1 1, .float .f64 0, .int .i64 1, .slice none 0 0, .float .f64 0] 52)) (w.heap.size + 1 + 1 + 1) 3 #[.int .i64 1, .int .i64 0, .int .i64 (-1)] := by
    have := ((Blk.new (((w.alloc (.cells #[.slice (some ⟨w.heap.size + 1, 0, none⟩) 2 2, .slice (some ⟨w.heap.size + 1 + 1, 0, none⟩) 2 2, .slice (some ⟨w.heap.size + 1 + 1 + 1 + 1 + 1, 0, none⟩) 3 3] 25)).alloc (.cells #[.string ⟨#[97]⟩, .string ⟨#[98]⟩] 9)).alloc (.cells #[.string ⟨#[115]⟩, .string ⟨#[116]⟩] 9)) 3 #[.int .i64 1, .int .i64 0, .int .i64 (-1)]).alloc (.cells #[.int .i64 (-2)] 3)).alloc (.cells #[.int .i64 0, .slice (some ⟨w.heap.size + 1 + 1 + 1, 0, none⟩) 3 3, .float .f64 0, .int .i64 0, .slice (some ⟨w.heap.size + 1 + 1 + 1 + 1, 0, none⟩) 1 1, .float .f64 0, .int .i64 1, .slice none 0 0, .float .f64 0] 52)
    simpa using this
  have bE : Blk ((((((w.alloc (.cells #[.slice (some ⟨w.heap.size + 1, 0, none⟩) 2 2, .slice (some ⟨w.heap.size + 1 + 1, 0, none⟩) 2 2, .slice (some ⟨w.heap.size + 1 + 1 + 1 + 1 + 1, 0, none⟩) 3 3] 25)).alloc (.cells #[.string ⟨#[97]⟩, .string ⟨#[98]⟩] 9)).alloc (.cells #[.string ⟨#[115]⟩, .string ⟨#[116]⟩] 9)).alloc (.cells #[.int .i64 1, .int .i64 0, .int .i64 (-1)] 3)).alloc (.cells #[.int .i64 (-2)] 3)).alloc (.cells #[.int .i64 0, .slice (some ⟨w.heap.size + 1 + 1 + 1, 0, none⟩) 3 3, .float .f64 0, .int .i64 0, .slice (some ⟨w.heap.size + 1 + 1 + 1 + 1, 0, none⟩) 1 1, .float .f64 0, .int .i64 1, .slice none 0 0, .float .f64 0] 52)) (w.heap.size + 1 + 1 + 1 + 1) 3 #[.int .i64 (-2)] := by
    have := (Blk.new ((((w.alloc (.cells #[.slice (some ⟨w.heap.size + 1, 0, none⟩) 2 2, .slice (some ⟨w.heap.size + 1 + 1, 0, none⟩) 2 2, .slice (some ⟨w.heap.size + 1 + 1 + 1 + 1 + 1, 0, none⟩) 3 3] 25)).alloc (.cells #[.string ⟨#[97]⟩, .string ⟨#[98]⟩] 9)).alloc (.cells #[.string ⟨#[115]⟩, .string ⟨#[116]⟩] 9)).alloc (.cells #[.int .i64 1, .int .i64 0, .int .i64 (-1)] 3)) 3 #[.int .i64 (-2)]).alloc (.cells #[.int .i64 0, .slice (some ⟨w.heap.size + 1 + 1 + 1, 0, none⟩) 3 3, .float .f64 0, .int .i64 0, .slice (some ⟨w.heap.size + 1 + 1 + 1 + 1, 0, none⟩) 1 1, .float .f64 0, .int .i64 1, .slice none 0 0, .float .f64 0] 52)
    simpa using this
  have bD : Blk ((((((w.alloc (.cells #[.slice (some ⟨w.heap.size + 1, 0, none⟩) 2 2, .slice (some ⟨w.heap.size + 1 + 1, 0, none⟩) 2 2, .slice (some ⟨w.heap.size + 1 + 1 + 1 + 1 + 1, 0, none⟩) 3 3] 25)).alloc (.cells #[.string ⟨#[97]⟩, .string ⟨#[98]⟩] 9)).alloc (.cells #[.string ⟨#[115]⟩, .string ⟨#[116]⟩] 9)).alloc (.cells #[.int .i64 1, .int .i64 0, .int .i64 (-1)] 3)).alloc (.cells #[.int .i64 (-2)] 3)).alloc (.cells #[.int .i64 0, .slice (some ⟨w.heap.size + 1 + 1 + 1, 0, none⟩) 3 3, .float .f64 0, .int .i64 0, .slice (some ⟨w.heap.size + 1 + 1 + 1 + 1, 0, none⟩) 1 1, .float .f64 0, .int .i64 1, .slice none 0 0, .float .f64 0] 52)) (w.heap.size + 1 + 1 + 1 + 1 + 1) 52 #[.int .i64 0, .slice (some ⟨w.heap.size + 1 + 1 + 1, 0, none⟩) 3 3, .float .f64 0, .int .i64 0, .slice (some ⟨w.heap.size + 1 + 1 + 1 + 1, 0, none⟩) 1 1, .float .f64 0, .int .i64 1, .slice none 0 0, .float .f64 0] := by
    have := Blk.new (((((w.alloc (.cells #[.slice (some ⟨w.heap.size + 1, 0, none⟩) 2 2, .slice (some ⟨w.heap.size + 1 + 1, 0, none⟩) 2 2, .slice (some ⟨w.heap.size + 1 + 1 + 1 + 1 + 1, 0, none⟩) 3 3] 25)).alloc (.cells #[.string ⟨#[97]⟩, .string ⟨#[98]⟩] 9)).alloc (.cells #[.string ⟨#[115]⟩, .string ⟨#[116]⟩] 9)).alloc (.cells #[.int .i64 1, .int .i64 0, .int .i64 (-1)] 3)).alloc (.cells #[.int .i64 (-2)] 3)) 52 #[.int .i64 0, .slice (some ⟨w.heap.size + 1 + 1 + 1, 0, none⟩) 3 3, .float .f64 0, .int .i64 0, .slice (some ⟨w.heap.size + 1 + 1 + 1 + 1, 0, none⟩) 1 1, .float .f64 0, .int .i64 1, .slice none 0 0, .float .f64 0]
    simpa using this
  have hbe : Below w.heap.size w ((((((w.alloc (.cells #[.slice (some ⟨w.heap.size + 1, 0, none⟩) 2 2, .slice (some ⟨w.heap.size + 1 + 1, 0, none⟩) 2 2, .slice (some ⟨w.heap.size + 1 + 1 + 1 + 1 + 1, 0, none⟩) 3 3] 25)).alloc (.cells #[.string ⟨#[97]⟩, .string ⟨#[98]⟩] 9)).alloc (.cells #[.string ⟨#[115]⟩, .string ⟨#[116]⟩] 9)).alloc (.cells #[.int .i64 1, .int .i64 0, .int .i64 (-1)] 3)).alloc (.cells #[.int .i64 (-2)] 3)).alloc (.cells #[.int .i64 0, .slice (some ⟨w.heap.size + 1 + 1 + 1, 0, none⟩) 3 3, .float .f64 0, .int .i64 0, .slice (some ⟨w.heap.size + 1 + 1 + 1 + 1, 0, none⟩) 1 1, .float .f64 0, .int .i64 1, .slice none 0 0, .float .f64 0] 52)) := ((((((Below.refl _ w).alloc (Nat.le_refl _) _).alloc (by simp) _).alloc (by simp; omega) _).alloc (by simp; omega) _).alloc (by simp; omega) _).alloc (by simp; omega) _
  have e0 := bG.cell 0
  have e1 := bG.cell 1
  have e2 := bG.cell 2
  simp only [List.getElem?_toArray, List.getElem?_cons_zero, List.getElem?_cons_succ] at e0 e1 e2
  go_enter Try.func58, Try.ntmps58
  go_wp2
  refine bodyPost_ret (v := .agg #[.slice (some ⟨w.heap.size + 1, 0, none⟩) 2 2, .slice (some ⟨w.heap.size + 1 + 1, 0, none⟩) 2 2, .slice (some ⟨w.heap.size + 1 + 1 + 1 + 1 + 1, 0, none⟩) 3 3]) (by simp [results, Try.results58, go_sem, e0, e1, e2]) rfl ?_
  generalize hW : ((((((w.alloc (.cells #[.slice (some ⟨w.heap.size + 1, 0, none⟩) 2 2, .slice (some ⟨w.heap.size + 1 + 1, 0, none⟩) 2 2, .slice (some ⟨w.heap.size + 1 + 1 + 1 + 1 + 1, 0, none⟩) 3 3] 25)).alloc (.cells #[.string ⟨#[97]⟩, .string ⟨#[98]⟩] 9)).alloc (.cells #[.string ⟨#[115]⟩, .string ⟨#[116]⟩] 9)).alloc (.cells #[.int .i64 1, .int .i64 0, .int .i64 (-1)] 3)).alloc (.cells #[.int .i64 (-2)] 3)).alloc (.cells #[.int .i64 0, .slice (some ⟨w.heap.size + 1 + 1 + 1, 0, none⟩) 3 3, .float .f64 0, .int .i64 0, .slice (some ⟨w.heap.size + 1 + 1 + 1 + 1, 0, none⟩) 1 1, .float .f64 0, .int .i64 1, .slice none 0 0, .float .f64 0] 52)) = W at *
  clear hW bG e0 e1 e2
  refine ⟨_, _, _, rfl, ⟨_, 3, rfl, by decide, fun k r hk => ?_⟩, hbe⟩
  have hc : ∀ j, W.cell? ((⟨w.heap.size + 1 + 1 + 1 + 1 + 1, 0, none⟩ : Addr).add j) = (#[.int .i64 0, .slice (some ⟨w.heap.size + 1 + 1 + 1, 0, none⟩) 3 3, .float .f64 0, .int .i64 0, .slice (some ⟨w.heap.size + 1 + 1 + 1 + 1, 0, none⟩) 1 1, .float .f64 0, .int .i64 1, .slice none 0 0, .float .f64 0] : Array Value)[j]? := fun j => by
    rw [Addr.add_lit, Nat.zero_add]
    exact bD.cell j
  refine ⟨_, rfl, bD.lt, ?_⟩
  match k, hk with
  | 0, hk =>
    cases hk
    refine ⟨some ⟨w.heap.size + 1 + 1 + 1, 0, none⟩, 3, hc 0, hc 1, hc 2, by decide, by decide, fun h => (by cases h), fun j hj => ⟨_, rfl, bC.lt, ?_⟩, by decide, by decide⟩
    rw [Addr.add_lit, Nat.zero_add, bC.cell j]
    match j, hj with
    | 0, _ => rfl
    | 1, _ => rfl
    | 2, _ => rfl
  | 1, hk =>
    cases hk
    refine ⟨some ⟨w.heap.size + 1 + 1 + 1 + 1, 0, none⟩, 1, hc 3, hc 4, hc 5, by decide, by decide, fun h => (by cases h), fun j hj => ⟨_, rfl, bE.lt, ?_⟩, by decide, by decide⟩
    rw [Addr.add_lit, Nat.zero_add, bE.cell j]
    match j, hj with
    | 0, _ => rfl
  | 2, hk =>
    cases hk
    refine ⟨none, 0, hc 6, hc 7, hc 8, by decide, by decide, fun _ => rfl, fun j hj => absurd hj (by simp), by decide, by decide⟩
  | k + 3, hk => cases hk
end Go.Proofs.Ytljkobijoenabaa.dv
namespace Go.Proofs.Ytljkobijoenabaa.dv
open Go.ChangeShapes Go.WideShapes Go.ChangeAt Go.RowKit Go.Maps Go.WideMaps Go.WideElems
set_option linter.unusedVariables false
set_option linter.unusedSimpArgs false
/-! left: Check -/
def headB (v : Int) : List Int → Bool
  | [] => false
  | x :: _ => decide (x = v)
def chkW (R : List Rl) (v : Int) (ks : List Int) : Bool := decide ((replW R [v] ks 0).2.2 = 0) && (decide (0 < ks.length) && headB v (replW R [v] ks 0).1)
set_option maxRecDepth 100000 in
set_option maxHeartbeats 2000000 in
theorem check_any (w : World) (B : Nat) (ta va : Option Addr) (tl tc vl vc : Nat) (rv kv : Value) (R : List Rl) (v : Int) (ks : List Int) (hR : RulesAt B w rv R) (hB : B ≤ w.heap.size) (hk : RowAt w kv ks) (hks : ks.length ≤ 4096) (hv : In64 v) (h8 : ∀ r ∈ R, r.right.length ≤ 8) :
    Calls Try.prog 36 #[.agg #[.slice ta tl tc, .slice va vl vc, rv], .int .i64 v, kv] w fun e w' => e = .returned (.bool (chkW R v ks)) ∧ Below w.heap.size w w' := by
  obtain ⟨ra, rc, rfl, hn, _⟩ := id hR
  have b0 := Blk.new w 25 #[.slice ta tl tc, .slice va vl vc, .slice ra R.length rc]
  have hbl : Below w.heap.size w (w.alloc (.cells #[.slice ta tl tc, .slice va vl vc, .slice ra R.length rc] 25)) := (Below.refl _ w).alloc (Nat.le_refl _) _
  have hbl2 : Below w.heap.size w ((w.alloc (.cells #[.slice ta tl tc, .slice va vl vc, .slice ra R.length rc] 25)).alloc (.cells #[.int .i64 v] 3)) := hbl.alloc (by simp) _
  have c0 := b0.cell 0
  have c1 := b0.cell 1
  have c2 := b0.cell 2
  simp only [List.getElem?_toArray, List.getElem?_cons_zero, List.getElem?_cons_succ] at c0 c1 c2
  have hlit := lit_row (w.alloc (.cells #[.slice ta tl tc, .slice va vl vc, .slice ra R.length rc] 25)) [v] 1 _ rfl rfl (by simpa using hv) (by decide)
  rw [World.size_alloc] at hlit
  have hrep := replay_any ((w.alloc (.cells #[.slice ta tl tc, .slice va vl vc, .slice ra R.length rc] 25)).alloc (.cells #[.int .i64 v] 3)) B ta va tl tc vl vc (.slice ra R.length rc) (.slice (some ⟨w.heap.size + 1, 0, none⟩) 1 1) kv R [v] ks (hR.below (hbl2.mono hB)) (by simp; omega) hlit (hk.below hbl2) hks (by simp; omega) h8
  unfold ReplR at hrep
  obtain ⟨ko, kc, rfl, _⟩ := hk
  have hHE : Hid (chkW R v ks = (decide ((replW R [v] ks 0).2.2 = 0) && (decide (0 < ks.length) && headB v (replW R [v] ks 0).1))) := Lib.hid rfl
  have HBL := Lib.hid hbl2
  obtain ⟨b, hb⟩ : ∃ b, b = chkW R v ks := ⟨_, rfl⟩
  rw [← hb] at hHE ⊢
  have HB := Lib.hid hb
  clear hR hbl hbl2 hlit b0 hb
  generalize replW R [v] ks 0 = P at *
  obtain ⟨G, n1, E⟩ := P
  dsimp only at hrep
  have hRd : Hid (b = (decide (E = 0) && (decide (0 < ks.length) && headB v G))) := hHE
  clear hHE
  go_enter Try.func36, Try.ntmps36
  go_wp2_with fail
  refine hrep.mono ?_
  rintro e w2 ⟨u, rfl, hu1, hu2, hb2⟩
  have HB2 := Lib.hid (HBL.out.trans (hb2.mono (by simp; omega)))
  clear hb2
  by_cases hE : E = 0
  · have hown := hu1 hE
    subst hE
    clear hu1 hu2
    by_cases hkl : 0 < ks.length
    · have hk1 : decide ((0 : Int) < (ks.length : Int)) = true := decide_eq_true (by omega)
      cases G with
      | nil =>
        obtain ⟨ao, cap, rfl⟩ := own_len hown
        have hbf : b = false := by rw [hRd.out]; simp [headB]
        subst hbf
        clear hown
        go_wp2
        go_ret
        exact ⟨rfl, HB2.out⟩
      | cons x G =>
        obtain ⟨g, cap, rfl, _, _⟩ := World.ownsRow.form hown (Nat.succ_pos _)
        have hx := hown.cellAt 0 (by simp)
        have hx2 : w2.cell? ⟨g, 0, none⟩ = some (.int .i64 x) := by rw [hx]; rfl
        have hgl : decide ((0 : Int) < (((x :: G).length : Nat) : Int)) = true := decide_eq_true (by simp)
        have hgl2 : (0 : Int) < (((x :: G).length : Nat) : Int) := by simp
        have hbf : b = decide (x = v) := by rw [hRd.out, decide_eq_true (show (0 : Int) = 0 from rfl), decide_eq_true hkl]; rfl
        have HBF := Lib.hid hbf
        generalize (x :: G).length = gn at *
        clear hown hx hbf
        by_cases hxv : x = v
        · have hbt : b = true := by rw [HBF.out]; exact decide_eq_true hxv
          subst hbt
          have hne : (x == v) = true := by simpa using hxv
          clear hxv
          go_wp2
          go_ret
          exact ⟨rfl, HB2.out⟩
        · have hne : (x == v) = false := by simpa using hxv
          have hbt : b = false := by rw [HBF.out]; exact decide_eq_false hxv
          subst hbt
          clear hxv
          go_wp2
          go_ret
          exact ⟨rfl, HB2.out⟩
    · have hk1 : decide ((0 : Int) < (ks.length : Int)) = false := decide_eq_false (by omega)
      have hbf : b = false := by rw [hRd.out, decide_eq_false hkl]; simp
      subst hbf
      obtain ⟨ao, cap, rfl⟩ := own_len hown
      clear hown
      go_wp2
      go_ret
      exact ⟨rfl, HB2.out⟩
  · obtain rfl := hu2 hE
    have hne : (E == 0) = false := by simpa using hE
    have hbf : b = false := by rw [hRd.out, decide_eq_false hE]; rfl
    subst hbf
    clear hu1 hu2
    go_wp2
    go_ret
    exact ⟨rfl, HB2.out⟩
end Go.Proofs.Ytljkobijoenabaa.dv
namespace Go.Proofs.Ytljkobijoenabaa.dv
open Go.ChangeShapes Go.WideShapes Go.ChangeAt Go.RowKit Go.Maps Go.WideMaps Go.WideElems
set_option linter.unusedVariables false
set_option linter.unusedSimpArgs false
/-! rows of words: are two of them alike? -/
def RowsRd (w : World) (v : Value) (L : List (List Int)) : Prop := ∃ ao cap, v = .slice ao L.length cap ∧ L.length ≤ 1000 ∧ ∀ i, i < L.length → ∃ a : Addr, ao = some a ∧ a.block < w.heap.size ∧ (L.getD i []).length ≤ 1000 ∧ ∃ u, w.cell? (a.add i) = some u ∧ WordAt w u (L.getD i [])
theorem RowsRd.below {w w' : World} {v : Value} {L : List (List Int)} (h : RowsRd w v L) (hb : Below w.heap.size w w') : RowsRd w' v L := by
  obtain ⟨ao, cap, e, hl, hc⟩ := h
  refine ⟨ao, cap, e, hl, fun i hi => ?_⟩
  obtain ⟨a, e2, hab, hn, u, h1, h2⟩ := hc i hi
  exact ⟨a, e2, Nat.lt_of_lt_of_le hab hb.size, hn, u, (hb.cell (p := a.add i) (by rw [add_block]; exact hab)).trans h1, h2.below hb⟩
theorem take_eq_succ {L K : List (List Int)} {k : Nat} (h1 : k < L.length) (h2 : k < K.length) (h : L.take k = K.take k) : (L.take (k + 1) = K.take (k + 1)) ↔ L.getD k [] = K.getD k [] := by
  rw [List.take_succ_eq_append_getElem h1, List.take_succ_eq_append_getElem h2, h, List.getD_eq_getElem?_getD, List.getD_eq_getElem?_getD, List.getElem?_eq_getElem h1, List.getElem?_eq_getElem h2, Option.getD_some, Option.getD_some]
  exact ⟨fun e => (List.cons.inj (List.append_cancel_left e)).1, fun e => by rw [e]⟩
set_option maxRecDepth 100000 in
set_option maxHeartbeats 2000000 in
theorem alike_any (w : World) (v u : Value) (L K : List (List Int)) (hv : RowsRd w v L) (hu : RowsRd w u K) : Calls Try.prog 31 #[v, u] w fun e w' => e = .returned (.bool (decide (L = K))) ∧ ∃ n, w' = w.drewN n := by
  obtain ⟨ao, cap, rfl, hl, hc⟩ := hv
  obtain ⟨bo, cbp, rfl, hk, hd⟩ := hu
  have HC := Lib.hid hc
  have HD := Lib.hid hd
  clear hc hd
  by_cases hlen : L.length = K.length
  · have hne : (((L.length : Nat) : Int) != ((K.length : Nat) : Int)) = false := by simp [hlen]
    have HLN := Lib.hid hlen
    clear hlen
    go_enter Try.func31, Try.ntmps31
    go_wp2
    go_loopw [5] (fun q wr => ∃ k : Nat, k ≤ L.length ∧ q = .int .i64 k ∧ L.take k = K.take k ∧ Qt w wr) (fun q _ => L.length - (intOf q).toNat)
    case atStart => exact ⟨0, Nat.zero_le _, rfl, by simp, 0, rfl⟩
    case round =>
      obtain ⟨k, hkl, rfl, htk, hq⟩ := hrel
      have HTK := Lib.hid htk
      clear htk
      by_cases hlt : k < L.length
      · have hltK : k < K.length := by have := HLN.out; omega
        obtain ⟨a, rfl, hab, hn1, x, hx, hwx⟩ := HC.out k hlt
        obtain ⟨b, rfl, hbb, hn2, y, hy, hwy⟩ := HD.out k hltK
        obtain ⟨m, rfl⟩ := hq
        have hsm : ∀ z, Calls Try.prog 18 #[x, y] (w.drewN (m + z)) fun e w' => e = .returned (.bool (decide (L.getD k [] = K.getD k []))) ∧ ∃ n, w' = w.drewN (m + n) := fun z => (rsame_any (w.drewN (m + z)) x y _ _ hwx hwy hn1 hn2).mono fun _ _ ⟨he, m', hm⟩ => ⟨he, z + m', by rw [hm]; simp [World.drewN, Nat.add_assoc]⟩
        obtain ⟨bq, hbq⟩ : ∃ b, b = decide (L.getD k [] = K.getD k []) := ⟨_, rfl⟩
        rw [← hbq] at hsm
        have HBQ := Lib.hid hbq
        have HSM := Lib.hid hsm
        clear hbq
        have hk0 : (0 : Int) ≤ (k : Int) := by omega
        have hk1 : (k : Int) < (L.length : Int) := by omega
        have hk2 : (k : Int) < (K.length : Int) := by omega
        have hts := take_eq_succ hlt hltK HTK.out
        have HTS := Lib.hid hts
        clear hsm hts hwx hwy
        cases bq
        · have he := HBQ.out.symm
          have hno : decide (L = K) = false := decide_eq_false (fun e => of_decide_eq_false he (by rw [e]))
          have HNO := Lib.hid hno
          clear hno he
          go_wp2
          go_quiet ((go_at_call 18; exact HSM.out _))
          go_wp2
          go_ret
          rw [HNO.out]
          exact ⟨rfl, _, World.drewN_drewN ..⟩
        · have hyes := HTS.out.2 (of_decide_eq_true HBQ.out.symm)
          have HY := Lib.hid hyes
          clear hyes
          go_wp2
          go_quiet ((go_at_call 18; exact HSM.out _))
          go_wp2
          exact ⟨⟨k + 1, hlt, congrArg (Value.int .i64) (by omega), HY.out, _, rfl⟩, by simp only [intOf]; omega⟩
      · obtain rfl : k = L.length := by omega
        have hyes : decide (L = K) = true := decide_eq_true (by
          have h := HTK.out
          rw [List.take_length, HLN.out, List.take_length] at h
          exact h)
        have HY := Lib.hid hyes
        clear hyes
        go_wp2
        go_ret
        rw [HY.out]
        exact ⟨rfl, hq⟩
  · have hne : (((L.length : Nat) : Int) != ((K.length : Nat) : Int)) = true := by simp; omega
    have hno : decide (L = K) = false := decide_eq_false (fun e => hlen (by rw [e]))
    rw [hno]
    clear hlen hno
    go_enter Try.func31, Try.ntmps31
    go_wp2
    go_ret
    exact ⟨rfl, 0, rfl⟩
end Go.Proofs.Ytljkobijoenabaa.dv
namespace Go.Proofs.Ytljkobijoenabaa.dv
open Go.ChangeShapes Go.WideShapes Go.ChangeAt Go.RowKit Go.Maps Go.WideMaps Go.WideElems
set_option linter.unusedVariables false
set_option linter.unusedSimpArgs false
/-! the document's example of layer 11 is as said -/
theorem repl_rules (R : List Rl) : ∀ (ks F : List Int) (i : Nat), (replW R F ks i).2.2 = 0 → ∀ k ∈ ks, 0 ≤ k ∧ k < R.length
  | [], F, i, _, k, hk => by cases hk
  | k0 :: ks, F, i, h, k, hk => by
    rw [repl_cons] at h
    by_cases hE : refW R (fvW F) k0 = 0
    · rw [if_pos hE] at h
      rcases List.mem_cons.1 hk with rfl | hk
      · obtain ⟨h1, h2, _⟩ := refW_ok hE
        exact ⟨h1, h2⟩
      · exact repl_rules R ks _ _ h k hk
    · rw [if_neg hE] at h
      exact absurd h hE
/-- what Cycle tells: a derivation, if it tells one -/
theorem cyc_yes {w w' : World} {R : List Rl} {vl : Nat} {v : Int} {u : Value} (hl : ∀ r ∈ R, 0 ≤ r.left ∧ r.left < vl) (hvr : ∀ r ∈ R, ∀ s ∈ r.right, 0 ≤ s → s < vl) (hR : R.length ≤ 1000) (h : CycR w R vl v (.returned (.tuple #[u, .bool true])) w') : 0 ≤ v ∧ v < vl ∧ matF (begM vl R) v.toNat v.toNat = true ∧ ∃ ks, chkW R v ks = true ∧ ks.length ≤ 4096 ∧ ks ≠ [] ∧ (∀ n ∈ ks, In64 n) ∧ w'.ownsRow w.heap.size 3 1 u ks.length (IV ks) ∧ ∃ X, replW R [v] ks 0 = (v :: X, 0, 0) := by
  obtain ⟨u', b, e, hb, _, hy⟩ := h
  simp only [Ending.returned.injEq, Value.tuple.injEq] at e
  have e1 : u = u' ∧ b = true := by simpa using e
  obtain ⟨rfl, rfl⟩ := e1
  obtain ⟨h0, h1, D, M, q, g1, g2, g3, g4, g5, g6, g7⟩ := hy rfl
  obtain ⟨k1, k2, X, k3⟩ := cycle_shows hl g2 g3 (by omega) g4 g5 g6
  rw [show ((v.toNat : Nat) : Int) = v by omega] at k3
  have hr : matF (begM vl R) v.toNat v.toNat = true := reach_self hl hvr h0 k2 k3 rfl
  have hin := repl_rules R _ _ _ (by rw [k3])
  refine ⟨h0, h1, hr, _, ?_, k1, k2, fun n hn => ?_, g7, X, k3⟩
  · unfold chkW
    rw [k3]
    simp only [headB, decide_true, Bool.true_and, Bool.and_true, decide_eq_true_eq]
    exact List.length_pos_iff.2 k2
  · have := hin n hn
    unfold In64
    omega
/-- none is told though one may be only where something is slow -/
theorem cyc_no {w w' : World} {R : List Rl} {vl : Nat} {v : Int} {u : Value} (hl : ∀ r ∈ R, 0 ≤ r.left ∧ r.left < vl) (h8 : ∀ r ∈ R, r.right.length ≤ 8) (hv : vl ≤ 8) (h : CycR w R vl v (.returned (.tuple #[u, .bool false])) w') : u = .slice none 0 0 ∧ Below w.heap.size w w' ∧ (0 ≤ v → v < vl → (∀ x, (slowA R vl (List.replicate vl 0)).getD x 0 ≤ 50) → matF (begM vl R) v.toNat v.toNat = false) := by
  obtain ⟨u', b, e, hb, hn, _⟩ := h
  simp only [Ending.returned.injEq, Value.tuple.injEq] at e
  have e1 : u = u' ∧ b = false := by simpa using e
  obtain ⟨rfl, rfl⟩ := e1
  obtain ⟨rfl, hn2⟩ := hn rfl
  refine ⟨rfl, hb, fun h0 h1 hs => ?_⟩
  obtain ⟨D, M, g1, g2, g3, g4⟩ := hn2 h0 h1
  exact cycle_none h8 hv hl g2 g1 g3 g4 hs
theorem hid_l : ∀ r ∈ hiddenR, 0 ≤ r.left ∧ r.left < ((2 : Nat) : Int) := by decide
theorem hid_8 : ∀ r ∈ hiddenR, r.right.length ≤ 8 := by decide
theorem hid_v : ∀ r ∈ hiddenR, ∀ s ∈ r.right, 0 ≤ s → s < ((2 : Nat) : Int) := by decide
theorem hid_s : slowA hiddenR 2 (List.replicate 2 0) = [0, 1] := by decide +kernel
theorem hid_0 : matF (begM 2 hiddenR) 0 0 = true := by decide +kernel
theorem hid_1 : matF (begM 2 hiddenR) 1 1 = false := by decide +kernel
theorem hid_r : recM 2 (begM 2 hiddenR) = [true, false] := by decide +kernel
theorem hid_g : groupsP (matF (begM 2 hiddenR)) 2 = [[0]] := by decide +kernel
theorem hid_slow : ∀ x, (slowA hiddenR 2 (List.replicate 2 0)).getD x 0 ≤ 50 := fun x => by
  rw [hid_s]
  match x with
  | 0 => decide
  | 1 => decide
  | x + 2 => simp
theorem hid_cyc0 {w w' : World} {e : Ending} (h : CycR w hiddenR 2 0 e w') : Below w.heap.size w w' ∧ ∃ u ks, e = .returned (.tuple #[u, .bool true]) ∧ chkW hiddenR 0 ks = true ∧ ks.length ≤ 4096 ∧ RowAt w' u ks := by
  obtain ⟨u, b, rfl, hb, _⟩ := id h
  refine ⟨hb, ?_⟩
  cases b
  · have := (cyc_no hid_l hid_8 (by decide) h).2.2 (by decide) (by decide) hid_slow
    rw [show (0 : Int).toNat = 0 from rfl, hid_0] at this
    cases this
  · obtain ⟨_, _, _, ks, k1, k2, k3, k4, k5, _⟩ := cyc_yes hid_l hid_v (by decide) h
    exact ⟨u, ks, rfl, k1, k2, row_own k5 rfl k4⟩
theorem hid_cyc1 {w w' : World} {e : Ending} (h : CycR w hiddenR 2 1 e w') : Below w.heap.size w w' ∧ e = .returned (.tuple #[.slice none 0 0, .bool false]) := by
  obtain ⟨u, b, rfl, hb, _⟩ := id h
  refine ⟨hb, ?_⟩
  cases b
  · rw [(cyc_no hid_l hid_8 (by decide) h).1]
  · obtain ⟨_, _, h1, _⟩ := cyc_yes hid_l hid_v (by decide) h
    rw [show (1 : Int).toNat = 1 from rfl, hid_1] at h1
    cases h1
/-- groups in memory, as rows of words -/
theorem gr_rows {w : World} {B : Nat} {v : Value} {vs : List Value} {G : List (List Nat)} (h : GrAt w B v vs G) (h1 : G.length ≤ 1000) (h2 : ∀ g ∈ G, g.length ≤ 1000 ∧ ∀ x ∈ g, x < 1000) : RowsRd w v (G.map fun g => g.map fun x : Nat => (x : Int)) := by
  obtain ⟨ao, cap, rfl⟩ := own_len h.out
  refine ⟨ao, cap, by simp, by simpa using h1, fun i hi => ?_⟩
  have hi' : i < G.length := by simpa using hi
  have hg : (G.map fun g => g.map fun x : Nat => (x : Int)).getD i [] = (G.getD i []).map fun x : Nat => (x : Int) := by
    rw [List.getD_eq_getElem?_getD, List.getElem?_map, List.getD_eq_getElem?_getD, List.getElem?_eq_getElem hi']
    rfl
  have hm : G.getD i [] ∈ G := by
    rw [List.getD_eq_getElem?_getD, List.getElem?_eq_getElem hi']
    exact List.getElem_mem _
  obtain ⟨g, cap', e, _, _⟩ := World.ownsRow.form h.out (by omega)
  cases e
  rw [hg]
  refine ⟨_, rfl, (row_lt h.out).1, by rw [List.length_map]; exact (h2 _ hm).1, vs.getD i undef, own_cells' h.out i _ ?_, word_own (h.inn i hi').2 (by simp) (fun x hx => ?_)⟩
  · rw [List.getD_eq_getElem?_getD, List.getElem?_eq_getElem (by rw [h.vl]; exact hi')]
    rfl
  · obtain ⟨y, hy, rfl⟩ := List.mem_map.1 hx
    have := (h2 _ hm).2 y hy
    unfold In64
    omega
set_option maxRecDepth 100000 in
set_option maxHeartbeats 4000000 in
theorem lalive_any (w : World) : Calls Try.prog 28 #[] w fun e w' => e = .returned (.bool true) ∧ Below w.heap.size w w' := by
  go_enter Try.func28, Try.ntmps28
  go_wp2_with fail
  refine (hidden_any w).mono ?_
  rintro e w1 ⟨t1, v1, r1, rfl, hR1, hb1⟩
  have hc0 := cycle_any w1 w1.heap.size (some t1) (some v1) 2 2 2 2 _ hiddenR 0 hR1 (Nat.le_refl _) hid_l (by decide) hid_8 hid_v
  clear hR1
  go_wp2_with fail
  refine hc0.mono ?_
  intro e w2 hcy
  obtain ⟨hb2, u0, ks, rfl, hchk, hkl, hrow⟩ := hid_cyc0 hcy
  have HB2 := Lib.hid (hb1.trans (hb2.mono hb1.size))
  obtain ⟨uo, uc, rfl, _⟩ := id hrow
  have HROW := Lib.hid hrow
  have HCHK := Lib.hid hchk
  clear hcy hb1 hb2 hrow hchk hc0
  go_wp2_with fail
  refine (hidden_any w2).mono ?_
  rintro e w3 ⟨t3, v3, r3, rfl, hR3, hb3⟩
  have hc1 := cycle_any w3 w3.heap.size (some t3) (some v3) 2 2 2 2 _ hiddenR 1 hR3 (Nat.le_refl _) hid_l (by decide) hid_8 hid_v
  clear hR3
  go_wp2_with fail
  refine hc1.mono ?_
  intro e w4 hcy
  obtain ⟨hb4, rfl⟩ := hid_cyc1 hcy
  have HB4 := Lib.hid (hb3.trans (hb4.mono hb3.size))
  clear hcy hb3 hb4 hc1
  go_wp2_with fail
  refine (hidden_any w4).mono ?_
  rintro e w5 ⟨t5, v5, r5, rfl, hR5, hb5⟩
  have hrc := recursive_any w5 w5.heap.size (some t5) (some v5) 2 2 2 2 _ hiddenR hR5 (Nat.le_refl _) hid_l (by decide)
  rw [hid_r] at hrc
  clear hR5
  go_wp2_with fail
  refine hrc.mono ?_
  rintro e w6 ⟨rv, rm, rfl, hmk, hb6⟩
  have HB6 := Lib.hid (hb5.trans (hb6.mono hb5.size))
  have HMK := Lib.hid hmk
  obtain ⟨⟨rcap, rfl⟩, ho6⟩ := hmk
  have p0 := ho6.cellAt 0 (by simp)
  have p1 := ho6.cellAt 1 (by simp)
  have p0' : w6.cell? ⟨rm, 0, none⟩ = some (.bool true) := p0
  have p1' : w6.cell? ⟨rm, 1, none⟩ = some (.bool false) := p1
  have hrm : rm < w6.heap.size := (row_lt ho6).1
  have e2 : [true, false].length = 2 := rfl
  rw [e2]
  have P0 := Lib.hid p0'
  have P1 := Lib.hid p1'
  have HRM := Lib.hid hrm
  have hb26 : Below w2.heap.size w2 w6 := HB4.out.trans (HB6.out.mono HB4.out.size)
  have HB26 := Lib.hid hb26
  clear hb5 hb6 hrc p0 p1 p0' p1' ho6 e2 hb26 hrm
  go_wp2_with fail
  refine (hidden_any w6).mono ?_
  rintro e w7 ⟨t7, v7, r7, rfl, hR7, hb7⟩
  have hk0 := check_any w7 w7.heap.size (some t7) (some v7) 2 2 2 2 _ (.slice uo ks.length uc) hiddenR 0 ks hR7 (Nat.le_refl _) (HROW.out.below (HB26.out.trans (hb7.mono HB26.out.size))) hkl (by decide) hid_8
  rw [HCHK.out] at hk0
  clear hR7
  go_wp2_with fail
  refine hk0.mono ?_
  rintro e w8 ⟨rfl, hb8⟩
  have HB68 := Lib.hid (hb7.trans (hb8.mono hb7.size))
  clear hk0 hb7 hb8
  go_wp2_with fail
  refine (hidden_any w8).mono ?_
  rintro e w9 ⟨t9, v9, r9, rfl, hR9, hb9⟩
  have hk1 := check_any w9 w9.heap.size (some t9) (some v9) 2 2 2 2 _ (.slice none 0 0) hiddenR 0 [] hR9 (Nat.le_refl _) ⟨none, 0, rfl, Nat.le_refl _, by decide, fun _ => rfl, (fun _ h => by cases h), (fun i hi => absurd hi (Nat.not_lt_zero _))⟩ (by decide) (by decide) hid_8
  rw [show chkW hiddenR 0 [] = false by decide] at hk1
  clear hR9
  go_wp2_with fail
  refine hk1.mono ?_
  rintro e w10 ⟨rfl, hb10⟩
  have hb610 : Below w6.heap.size w6 w10 := HB68.out.trans ((hb9.trans (hb10.mono hb9.size)).mono HB68.out.size)
  have x0 := (hb610.cell (p := ⟨rm, 0, none⟩) HRM.out).trans P0.out
  have x1 := (hb610.cell (p := ⟨rm, 1, none⟩) HRM.out).trans P1.out
  have HB610 := Lib.hid hb610
  clear hk1 hb9 hb10 hb610
  go_wp2_with fail
  refine (hidden_any w10).mono ?_
  rintro e w11 ⟨t11, v11, r11, rfl, hR11, hb11⟩
  have hgr := groups_any w11 w11.heap.size (some t11) (some v11) 2 2 2 2 _ hiddenR hR11 (Nat.le_refl _) hid_l (by decide)
  rw [hid_g] at hgr
  clear hR11
  go_wp2_with fail
  refine hgr.mono ?_
  rintro e w12 ⟨gv, gvs, rfl, hga, hb12⟩
  have hrows := gr_rows hga (by decide) (by decide)
  obtain ⟨go, gc, rfl, _⟩ := id hrows
  have bI := (Blk.new w12 3 #[.int .i64 0]).alloc (.cells #[.slice (some ⟨w12.heap.size, 0, none⟩) 1 1] 26)
  have bJ := Blk.new (w12.alloc (.cells #[.int .i64 0] 3)) 26 #[.slice (some ⟨w12.heap.size, 0, none⟩) 1 1]
  rw [World.size_alloc] at bJ
  have hbL : Below w12.heap.size w12 ((w12.alloc (.cells #[.int .i64 0] 3)).alloc (.cells #[.slice (some ⟨w12.heap.size, 0, none⟩) 1 1] 26)) := two_below _ _ _ _ _
  have hrl : RowsRd ((w12.alloc (.cells #[.int .i64 0] 3)).alloc (.cells #[.slice (some ⟨w12.heap.size, 0, none⟩) 1 1] 26)) (.slice (some ⟨w12.heap.size + 1, 0, none⟩) 1 1) [[0]] := by
    refine ⟨_, _, rfl, by decide, fun i hi => ?_⟩
    obtain rfl : i = 0 := by simpa using hi
    refine ⟨_, rfl, by simp, by decide, _, (by rw [zero_add_addr]; exact bJ.cell 0), ⟨_, _, rfl, by decide, fun j hj => ?_⟩⟩
    obtain rfl : j = 0 := by simpa using hj
    refine ⟨_, rfl, by simp; omega, ?_⟩
    rw [zero_add_addr]
    exact bI.cell 0
  have hal := alike_any _ _ _ _ _ (hrows.below hbL) hrl
  have HBE := Lib.hid (HB2.out.trans ((HB26.out.trans ((HB610.out.trans ((hb11.trans (hb12.mono hb11.size)).mono HB610.out.size)).mono HB26.out.size)).mono HB2.out.size))
  clear hb11 hb12 hgr hga hrows bI bJ hrl x0 x1
  go_wp2_with fail
  refine hal.mono ?_
  rintro e w13 ⟨rfl, n13, rfl⟩
  go_wp2
  go_ret
  refine ⟨rfl, ?_⟩
  exact below_drewN (HBE.out.trans (hbL.mono HBE.out.size)) _
end Go.Proofs.Ytljkobijoenabaa.dv
namespace Go.Proofs.Ytljkobijoenabaa.dv
open Go.ChangeShapes Go.WideShapes Go.ChangeAt Go.RowKit Go.Maps Go.WideMaps Go.WideElems
set_option linter.unusedVariables false
set_option linter.unusedSimpArgs false
/-! names: what is asked of them is answered, and nothing is turned -/
def Tells (w : World) : Ending → World → Prop := fun e w' => ∃ b, e = .returned (.bool b) ∧ w' = w
set_option maxHeartbeats 400000 in
theorem letter_any (w : World) (c : Int) : Calls Try.prog 67 #[.int .u8 c] w (Tells w) := by
  go_enter Try.func67, Try.ntmps67
  go_wp2
  all_goals go_ret
  all_goals exact ⟨_, rfl, rfl⟩
set_option maxHeartbeats 400000 in
theorem digit_any (w : World) (c : Int) : Calls Try.prog 86 #[.int .u8 c] w (Tells w) := by
  go_enter Try.func86, Try.ntmps86
  go_wp2
  all_goals go_ret
  all_goals exact ⟨_, rfl, rfl⟩
set_option maxHeartbeats 400000 in
theorem quotable_any (w : World) (c : Int) : Calls Try.prog 69 #[.int .u8 c] w (Tells w) := by
  go_enter Try.func69, Try.ntmps69
  go_wp2
  all_goals go_ret
  all_goals exact ⟨_, rfl, rfl⟩
set_option maxHeartbeats 400000 in
theorem inner_any (w : World) (c : Int) : Calls Try.prog 68 #[.int .u8 c] w (Tells w) := by
  go_enter Try.func68, Try.ntmps68
  go_wp2_with (first | (go_at_call 67; refine (letter_any _ _).mono ?_; rintro e w1 ⟨b1, rfl, rfl⟩; cases b1) | (go_at_call 86; refine (digit_any _ _).mono ?_; rintro e w1 ⟨b2, rfl, rfl⟩; cases b2))
  all_goals go_wp2_with (first | (go_at_call 67; refine (letter_any _ _).mono ?_; rintro e w1 ⟨b1, rfl, rfl⟩; cases b1) | (go_at_call 86; refine (digit_any _ _).mono ?_; rintro e w1 ⟨b2, rfl, rfl⟩; cases b2))
  all_goals go_ret
  all_goals exact ⟨_, rfl, rfl⟩
set_option maxHeartbeats 1000000 in
theorem isQuote_any (w : World) (s : ByteArray) (hs : s.size ≤ maxLen) : Calls Try.prog 40 #[.string s] w (Tells w) := by
  unfold maxLen at hs
  go_enter Try.func40, Try.ntmps40
  go_wp2
  go_loopw [3] (fun i wr => ∃ k : Nat, k ≤ s.size ∧ i = .int .i64 k ∧ wr = w) (fun i _ => s.size - (intOf i).toNat)
  case atStart => exact ⟨0, Nat.zero_le _, rfl, rfl⟩
  case round =>
    obtain ⟨k, hk, rfl, rfl⟩ := hrel
    by_cases hlt : k < s.size
    · go_wp2_with (go_at_call 69; refine (quotable_any _ _).mono ?_; rintro e w1 ⟨b1, rfl, rfl⟩; cases b1)
      · go_ret
        exact ⟨_, rfl, rfl⟩
      · exact ⟨⟨k + 1, hlt, congrArg (Value.int .i64) (by omega), trivial⟩, by simp only [intOf]; omega⟩
    · obtain rfl : k = s.size := by omega
      go_wp2
      all_goals go_ret
      all_goals exact ⟨_, rfl, rfl⟩
set_option maxHeartbeats 1000000 in
theorem isName_any (w : World) (s : ByteArray) (hs : s.size ≤ maxLen) : Calls Try.prog 38 #[.string s] w (Tells w) := by
  unfold maxLen at hs
  by_cases h1 : 1 ≤ s.size
  · go_enter Try.func38, Try.ntmps38
    go_wp2_with (go_at_call 67; refine (letter_any _ _).mono ?_; rintro e w1 ⟨b1, rfl, rfl⟩; cases b1)
    · go_ret
      exact ⟨_, rfl, rfl⟩
    · go_loopw [3] (fun i wr => ∃ k : Nat, k ≤ s.size ∧ i = .int .i64 k ∧ wr = w1) (fun i _ => s.size - (intOf i).toNat)
      case atStart => exact ⟨0, Nat.zero_le _, rfl, rfl⟩
      case round =>
        obtain ⟨k, hk, rfl, rfl⟩ := hrel
        by_cases hlt : k < s.size
        · go_wp2_with (go_at_call 68; refine (inner_any _ _).mono ?_; rintro e w2 ⟨b1, rfl, rfl⟩; cases b1)
          · go_ret
            exact ⟨_, rfl, rfl⟩
          · exact ⟨⟨k + 1, hlt, congrArg (Value.int .i64) (by omega), trivial⟩, by simp only [intOf]; omega⟩
        · obtain rfl : k = s.size := by omega
          go_wp2
          all_goals go_ret
          all_goals exact ⟨_, rfl, rfl⟩
    all_goals
      go_ret
      exact ⟨_, rfl, rfl⟩
  · go_enter Try.func38, Try.ntmps38
    go_wp2
    go_ret
    exact ⟨_, rfl, rfl⟩
/-- texts in memory -/
def StrsAt (B : Nat) (w : World) (ao : Option Addr) (n : Nat) : Prop := ∀ i, i < n → ∃ (a : Addr) (s : ByteArray), ao = some a ∧ a.block < B ∧ w.cell? (a.add i) = some (.string s) ∧ s.size ≤ maxLen
theorem StrsAt.below {B : Nat} {w w' : World} {ao : Option Addr} {n : Nat} (h : StrsAt B w ao n) (hb : Below B w w') : StrsAt B w' ao n := fun i hi => by
  obtain ⟨a, s, e, hab, hc, hs⟩ := h i hi
  exact ⟨a, s, e, hab, (hb.cell (p := a.add i) (by rw [add_block]; exact hab)).trans hc, hs⟩
set_option maxHeartbeats 1000000 in
theorem place_any (w : World) (B : Nat) (ao : Option Addr) (n cap : Nat) (s : ByteArray) (hs : s.size ≤ maxLen) (hn : n ≤ maxLen) (h : StrsAt B w ao n) : Calls Try.prog 39 #[.slice ao n cap, .string s] w fun e w' => ∃ x, e = .returned (.int .i64 x) ∧ w' = w := by
  unfold maxLen at hs hn
  have H := Lib.hid h
  clear h
  go_enter Try.func39, Try.ntmps39
  go_wp2
  go_loopw [5] (fun i wr => ∃ k : Nat, k ≤ n ∧ i = .int .i64 k ∧ wr = w) (fun i _ => n - (intOf i).toNat)
  case atStart => exact ⟨0, Nat.zero_le _, rfl, rfl⟩
  case round =>
    obtain ⟨k, hk, rfl, rfl⟩ := hrel
    by_cases hlt : k < n
    · obtain ⟨a, t, rfl, hab, hc, ht⟩ := H.out k hlt
      go_wp2
      · go_ret
        exact ⟨_, rfl, rfl⟩
      · exact ⟨⟨k + 1, hlt, congrArg (Value.int .i64) (by omega), trivial⟩, by simp only [intOf]; omega⟩
    · obtain rfl : k = n := by omega
      go_wp2
      all_goals go_ret
      all_goals exact ⟨_, rfl, rfl⟩
end Go.Proofs.Ytljkobijoenabaa.dv
namespace Go.Proofs.Ytljkobijoenabaa.dv
open Go.ChangeShapes Go.WideShapes Go.ChangeAt Go.RowKit Go.Maps Go.WideMaps Go.WideElems
set_option linter.unusedVariables false
set_option linter.unusedSimpArgs false
/-! a weight that may be told: it is answered whether -/
theorem x_frombits (n : Int) (w : World) : (callFunc 99 #[.int .u64 n]).run Try.prog w = .ok (.value (.float .f64 n.toNat)) w :=
  run_callFunc_extern (e := Extern.MathFloatBits.float64frombits) Try.func99 (by kernel_rfl) (by kernel_rfl) (by kernel_rfl) (by kernel_rfl) _ w
theorem x_bits (n : Nat) (w : World) : (callFunc 76 #[.float .f64 n]).run Try.prog w = .ok (.value (.int .u64 n)) w :=
  run_callFunc_extern (e := Extern.MathFloatBits.float64bits) Try.func76 (by kernel_rfl) (by kernel_rfl) (by kernel_rfl) (by kernel_rfl) _ w
attribute [local go_sem] x_frombits x_bits
def TellsQ (w : World) : Ending → World → Prop := fun e w' => ∃ b, e = .returned (.bool b) ∧ ∃ n, w' = w.drewN n
theorem fl_arith (op : BinOp) (ho : op = .add ∨ op = .mul ∨ op = .quo) (x y : Nat) (w : World) : ∃ r m, (binOp op 46 (.float .f64 x) (.float .f64 y)).run Try.prog w = .ok (.float .f64 r) (w.drewN m) := by
  cases h : floatBits op .f64 x y with
  | some r => exact ⟨r, 0, run_float_arith w op 46 .f64 x y r h⟩
  | none =>
    refine ⟨nz w x y, 1, ?_⟩
    rcases ho with rfl | rfl | rfl <;> (unfold floatBits at h; dsimp only at h; simp [binOp, Op.floatArith, h, nz, Question.forced]; try rfl)
theorem fl_to_int (x : Nat) (w : World) : ∃ n m, In64 n ∧ (convert 46 2 (.float .f64 x)).run Try.prog w = .ok (.int .i64 n) (w.drewN m) := by
  have hany : ∀ n : Int, In64 (IntKind.i64.wrap n) := fun n => by rw [IntKind.wrap_i64]; constructor <;> omega
  by_cases h : ∃ n, floatToIntVal .f64 x .i64 = some n
  · obtain ⟨n, h⟩ := h
    have hw := floatToIntVal_wf h
    refine ⟨n, 0, ?_, run_convert_float_int w 46 2 .f64 .i64 x n (by rw [Try.underlying46]; rfl) Try.underlying2 h⟩
    simp [Lit.wf, IntKind.min, IntKind.max, IntKind.signed, IntKind.bits] at hw
    constructor <;> omega
  · have hd : ∀ q : Nat, q = (Question.floatToInt .f64 x .i64).cut (w.tape w.drawn (.floatToInt .f64 x .i64)) → (convert 46 2 (.float .f64 x)).run Try.prog w = .ok (.int .i64 (IntKind.i64.wrap (q : Int))) w.drew := by
      intro q hq
      have hs : Try.prog.underlying 46 = some (.float .f64) := Try.underlying46
      have hi : Try.prog.underlying 2 = some (.int .i64) := Try.underlying2
      unfold floatToIntVal at h
      cases he : (FloatKind.f64.decode x).toInt .zero with
      | none => simp [convert, run_underlying hs, run_underlying hi, Conv.floatToInt, he, hq, Question.forced]
      | some n =>
        rw [he] at h
        dsimp only at h
        have hb : ¬ (IntKind.i64.min ≤ n ∧ n ≤ IntKind.i64.max) := fun hb => h ⟨n, by rw [if_pos hb]⟩
        have hb2 : ¬ (IntKind.i64.min ≤ n ∧ n ≤ 9223372036854775807) := hb
        simp [convert, run_underlying hs, run_underlying hi, Conv.floatToInt, he, hq, hb2, Question.forced]
    exact ⟨_, 1, hany _, hd _ rfl⟩
set_option maxRecDepth 100000 in
theorem nan_any (w : World) (n : Nat) : Calls Try.prog 74 #[.float .f64 n] w (Tells w) := by
  by_cases h : bits .and .u64 ((n : Int) / 4503599627370496) 2047 = 2047
  · go_enter Try.func74, Try.ntmps74
    go_wp2
    all_goals first | (exact absurd h (by assumption)) | (go_ret; exact ⟨_, rfl, rfl⟩)
  · go_enter Try.func74, Try.ntmps74
    go_wp2
    all_goals first | (exact absurd (by assumption) h) | (go_ret; exact ⟨_, rfl, rfl⟩)
set_option maxRecDepth 100000 in
theorem below1_any (w : World) (n : Nat) : Calls Try.prog 75 #[.float .f64 n] w (Tells w) := by
  go_enter Try.func75, Try.ntmps75
  go_wp2
  go_ret
  exact ⟨_, rfl, rfl⟩
set_option maxRecDepth 100000 in
set_option maxHeartbeats 400000 in
theorem less1_any (w : World) (n m : Nat) : Calls Try.prog 54 #[.float .f64 n, .float .f64 m] w (Tells w) := by
  go_enter Try.func54, Try.ntmps54
  go_wp2_with (first | (go_at_call 74; refine (nan_any _ _).mono ?_; rintro e w' ⟨b1, rfl, rfl⟩; cases b1) | (go_at_call 75; refine (below1_any _ _).mono ?_; rintro e w' ⟨b2, rfl, rfl⟩; cases b2))
  all_goals go_ret
  all_goals exact ⟨_, rfl, rfl⟩
set_option maxRecDepth 100000 in
set_option maxHeartbeats 400000 in
theorem same1_any (w : World) (n m : Nat) : Calls Try.prog 25 #[.float .f64 n, .float .f64 m] w (Tells w) := by
  go_enter Try.func25, Try.ntmps25
  go_wp2_with (go_at_call 54; refine (less1_any _ _ _).mono ?_; rintro e w' ⟨b1, rfl, rfl⟩; cases b1)
  all_goals go_ret
  all_goals exact ⟨_, rfl, rfl⟩
theorem read1_inf (w : World) : Calls Try.prog 87 #[.string ⟨#[105, 110, 102]⟩] w fun e w' => e = .returned (.tuple #[.float .f64 9218868437227405312, .bool true]) ∧ w' = w := by
  go_enter Try.func87, Try.ntmps87
  go_wp2
  refine bodyPost_ret (v := .tuple #[.float .f64 9218868437227405312, .bool true]) (by simp [results, Try.results87, go_sem]) rfl ⟨rfl, rfl⟩
theorem read1_ninf (w : World) : Calls Try.prog 87 #[.string ⟨#[45, 105, 110, 102]⟩] w fun e w' => e = .returned (.tuple #[.float .f64 18442240474082181120, .bool true]) ∧ w' = w := by
  go_enter Try.func87, Try.ntmps87
  go_wp2
  refine bodyPost_ret (v := .tuple #[.float .f64 18442240474082181120, .bool true]) (by simp [results, Try.results87, go_sem]) rfl ⟨rfl, rfl⟩
theorem drewN_add (w : World) (a b : Nat) : (w.drewN a).drewN b = w.drewN (a + b) := World.drewN_drewN ..
theorem run_negf (x : Nat) (w : World) : (Go.Op.unary .neg (.float .f64 x)).run Try.prog w = .ok (.float .f64 (Go.Op.negFloat .f64 x)) w := by
  simp [Go.Op.unary]
attribute [local go_sem] run_negf
/-- what the reckonings with floats answer, as functions of the world -/
theorem fl_all : ∃ (R1 R2 R3 : Nat → Nat → World → Nat) (M1 M2 M3 : Nat → Nat → World → Nat) (R4 : Nat → World → Int) (M4 : Nat → World → Nat),
    (∀ x y w, (binOp .mul 46 (.float .f64 x) (.float .f64 y)).run Try.prog w = .ok (.float .f64 (R1 x y w)) (w.drewN (M1 x y w))) ∧
    (∀ x y w, (binOp .add 46 (.float .f64 x) (.float .f64 y)).run Try.prog w = .ok (.float .f64 (R2 x y w)) (w.drewN (M2 x y w))) ∧
    (∀ x y w, (binOp .quo 46 (.float .f64 x) (.float .f64 y)).run Try.prog w = .ok (.float .f64 (R3 x y w)) (w.drewN (M3 x y w))) ∧
    (∀ x w, (convert 46 2 (.float .f64 x)).run Try.prog w = .ok (.int .i64 (R4 x w)) (w.drewN (M4 x w))) ∧ ∀ x w, In64 (R4 x w) := by
  refine ⟨fun x y w => (fl_arith .mul (.inr (.inl rfl)) x y w).choose, fun x y w => (fl_arith .add (.inl rfl) x y w).choose, fun x y w => (fl_arith .quo (.inr (.inr rfl)) x y w).choose,
    fun x y w => (fl_arith .mul (.inr (.inl rfl)) x y w).choose_spec.choose, fun x y w => (fl_arith .add (.inl rfl) x y w).choose_spec.choose, fun x y w => (fl_arith .quo (.inr (.inr rfl)) x y w).choose_spec.choose,
    fun x w => (fl_to_int x w).choose, fun x w => (fl_to_int x w).choose_spec.choose, fun x y w => (fl_arith .mul (.inr (.inl rfl)) x y w).choose_spec.choose_spec, fun x y w => (fl_arith .add (.inl rfl) x y w).choose_spec.choose_spec,
    fun x y w => (fl_arith .quo (.inr (.inr rfl)) x y w).choose_spec.choose_spec, fun x w => (fl_to_int x w).choose_spec.choose_spec.2, fun x w => (fl_to_int x w).choose_spec.choose_spec.1⟩
set_option maxRecDepth 100000 in
set_option maxHeartbeats 1000000 in
theorem told_any (w : World) (f : Nat) : Calls Try.prog 70 #[.float .f64 f] w (TellsQ w) := by
  obtain ⟨R1, R2, R3, M1, M2, M3, R4, M4, q1, q2, q3, q4, q4'⟩ := fl_all
  have Q4 := Lib.hid q4'
  clear q4'
  go_enter Try.func70, Try.ntmps70
  go_wp2_with fail
  refine (read1_inf w).mono ?_
  rintro e w' ⟨rfl, rfl⟩
  go_wp2_with fail
  refine (read1_ninf w').mono ?_
  rintro e w' ⟨rfl, rfl⟩
  go_wp2_with (first
    | (go_at_call 74; refine (nan_any _ _).mono ?_; rintro e w' ⟨b1, rfl, rfl⟩; cases b1)
    | (go_at_call 25; refine (same1_any _ _ _).mono ?_; rintro e w' ⟨b2, rfl, rfl⟩; cases b2))
  all_goals first
    | (go_ret; exact ⟨_, rfl, 0, rfl⟩)
    | skip
  all_goals
    go_loopw [9] (fun d wr => ∃ k : Int, d = .int .i64 k ∧ -2 ≤ k ∧ k ≤ 3 ∧ ∃ m, wr = w'.drewN m) (fun d _ => (3 - intOf d).toNat)
    case atStart => exact ⟨-2, rfl, by omega, by omega, _, rfl⟩
    case round =>
      obtain ⟨k, rfl, hk1, hk2, m, rfl⟩ := hrel
      by_cases hlt : k ≤ 2
      · go_wp2
        all_goals first
          | (go_ret; exact ⟨_, rfl, _, rfl⟩)
          | (go_ret; exact ⟨_, rfl, _, drewN_add _ _ _⟩)
          | exact ⟨⟨by omega, by omega, m, rfl⟩, by simp only [intOf]; omega⟩
          | (simp only [*]; exact ⟨⟨_, _, _, _, _, _, _, _, _, _, _, _, _, _, _, _, _, _, _, _, _, _, _, _, _, ⟨k + 1, rfl, by omega, by omega, _, rfl⟩, rfl⟩, by
              show (3 - intOf (Value.int .i64 (k + 1))).toNat < (3 - intOf (Value.int .i64 k)).toNat
              simp only [intOf]
              omega⟩)
      · go_wp2
        go_ret
        exact ⟨_, rfl, m, rfl⟩
end Go.Proofs.Ytljkobijoenabaa.dv
namespace Go.Proofs.Ytljkobijoenabaa.dv
open Go.ChangeShapes Go.WideShapes Go.ChangeAt Go.RowKit Go.Maps Go.WideMaps Go.WideElems
set_option linter.unusedVariables false
set_option linter.unusedSimpArgs false
/-! whether a grammar may be: it is answered -/
theorem RulesAt.at {B : Nat} {w : World} {ra : Option Addr} {rc : Nat} {R : List Rl} (h : RulesAt B w (.slice ra R.length rc) R) (k : Nat) (hk : k < R.length) : ∃ (a : Addr) (r : Rl) (ao : Option Addr) (cap : Nat), ra = some a ∧ a.block < B ∧ R[k]? = some r ∧ w.cell? (a.add (k * 3)) = some (.int .i64 r.left) ∧ w.cell? { block := (a.add (k * 3)).block, off := (a.add (k * 3)).off + 1 } = some (.slice ao r.right.length cap) ∧ w.cell? { block := (a.add (k * 3)).block, off := (a.add (k * 3)).off + 2 } = some (.float .f64 r.wt) ∧ r.right.length ≤ cap ∧ cap ≤ maxLen ∧ (ao = none → cap = 0) ∧ RowUnder B w ao r.right ∧ (∀ n ∈ r.right, In64 n) ∧ In64 r.left := by
  obtain ⟨ra', rc', e, _, hr⟩ := h
  cases e
  obtain ⟨r, hrk⟩ : ∃ r, R[k]? = some r := ⟨_, List.getElem?_eq_getElem hk⟩
  obtain ⟨a, ea, hab, ao, cap, h1, h2, h3, h4⟩ := hr k r hrk
  rw [add_form a (k * 3) 1 (by decide)] at h2
  rw [add_form a (k * 3) 2 (by decide)] at h3
  exact ⟨a, r, ao, cap, ea, hab, hrk, h1, h2, h3, h4⟩
set_option maxRecDepth 100000 in
set_option maxHeartbeats 600000 in
theorem count_any (w : World) (B : Nat) (ta va ra : Option Addr) (tl tc vl vc rc : Nat) (R : List Rl) (v : Int) (hR : RulesAt B w (.slice ra R.length rc) R) (hB : B ≤ w.heap.size) (hn : R.length ≤ 24) :
    Calls Try.prog 42 #[.agg #[.slice ta tl tc, .slice va vl vc, .slice ra R.length rc], .int .i64 v] w fun e w' => ∃ x, e = .returned (.int .i64 x) ∧ Below w.heap.size w w' := by
  have b0 := Blk.new w 25 #[.slice ta tl tc, .slice va vl vc, .slice ra R.length rc]
  have hbl : Below w.heap.size w (w.alloc (.cells #[.slice ta tl tc, .slice va vl vc, .slice ra R.length rc] 25)) := below_lit _ _ _
  have hR1 := hR.below (hbl.mono hB)
  generalize hW0 : w.alloc (.cells #[.slice ta tl tc, .slice va vl vc, .slice ra R.length rc] 25) = w0 at *
  have d2 := b0.cell 2
  simp only [List.getElem?_toArray, List.getElem?_cons_zero, List.getElem?_cons_succ] at d2
  have HR1 := Lib.hid hR1
  clear hR hR1
  go_enter Try.func42, Try.ntmps42
  go_wp2_with fail
  go_loopw [5, 6] (fun c i wr => ∃ (x : Int) (k : Nat), c = .int .i64 x ∧ 0 ≤ x ∧ x ≤ k ∧ k ≤ R.length ∧ i = .int .i64 k ∧ wr = w0) (fun _ i _ => R.length - (intOf i).toNat)
  case atStart => exact ⟨0, 0, rfl, by omega, by omega, Nat.zero_le _, rfl, rfl⟩
  case round =>
    obtain ⟨x, k, rfl, hx0, hx1, hk, rfl, rfl⟩ := hrel
    by_cases hlt : k < R.length
    · obtain ⟨a, r, ao, cap, rfl, hab, hrk, h1, _⟩ := HR1.out.at k hlt
      go_wp2
      · exact ⟨⟨x + 1, k + 1, rfl, by omega, by omega, hlt, congrArg (Value.int .i64) (by omega), trivial⟩, by simp only [intOf]; omega⟩
      · exact ⟨⟨x, k + 1, rfl, by omega, by omega, hlt, congrArg (Value.int .i64) (by omega), trivial⟩, by simp only [intOf]; omega⟩
    · obtain rfl : k = R.length := by omega
      go_wp2
      go_ret
      exact ⟨_, rfl, hbl⟩
set_option maxRecDepth 100000 in
set_option maxHeartbeats 600000 in
theorem uses_any (w : World) (B : Nat) (ta va ra : Option Addr) (tl tc vl vc rc : Nat) (R : List Rl) (v : Int) (hR : RulesAt B w (.slice ra R.length rc) R) (hB : B ≤ w.heap.size) (hn : R.length ≤ 24) (h8 : ∀ r ∈ R, r.right.length ≤ 8) :
    Calls Try.prog 43 #[.agg #[.slice ta tl tc, .slice va vl vc, .slice ra R.length rc], .int .i64 v] w fun e w' => ∃ b, e = .returned (.bool b) ∧ Below w.heap.size w w' := by
  have b0 := Blk.new w 25 #[.slice ta tl tc, .slice va vl vc, .slice ra R.length rc]
  have hbl : Below w.heap.size w (w.alloc (.cells #[.slice ta tl tc, .slice va vl vc, .slice ra R.length rc] 25)) := below_lit _ _ _
  have hR1 := hR.below (hbl.mono hB)
  generalize hW0 : w.alloc (.cells #[.slice ta tl tc, .slice va vl vc, .slice ra R.length rc] 25) = w0 at *
  have d2 := b0.cell 2
  simp only [List.getElem?_toArray, List.getElem?_cons_zero, List.getElem?_cons_succ] at d2
  have HR1 := Lib.hid hR1
  have H8 := Lib.hid h8
  clear hR hR1 h8
  go_enter Try.func43, Try.ntmps43
  go_wp2_with fail
  go_loopw [5] (fun i wr => ∃ (k : Nat), k ≤ R.length ∧ i = .int .i64 k ∧ wr = w0) (fun i _ => R.length - (intOf i).toNat)
  case atStart => exact ⟨0, Nat.zero_le _, rfl, rfl⟩
  case round =>
    obtain ⟨k, hk, rfl, rfl⟩ := hrel
    by_cases hlt : k < R.length
    · obtain ⟨a, r, ao, cap, rfl, hab, hrk, h1, h2, h3, h4, h5, h6, h7, _⟩ := HR1.out.at k hlt
      have hr8 := H8.out r (List.mem_of_getElem? hrk)
      have H7 := Lib.hid h7
      clear h7
      go_wp2
      go_loopw [6] (fun i wr2 => ∃ (j : Nat), j ≤ r.right.length ∧ i = .int .i64 j ∧ wr2 = wr) (fun i _ => r.right.length - (intOf i).toNat)
      case atStart => exact ⟨0, Nat.zero_le _, rfl, rfl⟩
      case round =>
        obtain ⟨j, hj, rfl, rfl⟩ := hrel
        by_cases hlt2 : j < r.right.length
        · obtain ⟨a2, rfl, hab2, hc2⟩ := H7.out j hlt2
          generalize r.right.getD j 0 = y at *
          go_wp2
          · go_ret
            exact ⟨_, rfl, hbl⟩
          · exact ⟨⟨j + 1, hlt2, congrArg (Value.int .i64) (by omega), trivial⟩, by simp only [intOf]; omega⟩
        · obtain rfl : j = r.right.length := by omega
          go_wp2
          exact ⟨⟨k + 1, hlt, congrArg (Value.int .i64) (by omega), trivial⟩, by simp only [intOf]; omega⟩
    · obtain rfl : k = R.length := by omega
      go_wp2
      go_ret
      exact ⟨_, rfl, hbl⟩
set_option maxRecDepth 100000 in
set_option maxHeartbeats 600000 in
theorem few_any (w : World) (B : Nat) (ta va ra : Option Addr) (tl tc vl vc rc : Nat) (R : List Rl) (hR : RulesAt B w (.slice ra R.length rc) R) (hB : B ≤ w.heap.size) (hn : R.length ≤ maxLen) (ht : tl ≤ maxLen) (hv : vl ≤ maxLen) :
    Calls Try.prog 13 #[.agg #[.slice ta tl tc, .slice va vl vc, .slice ra R.length rc]] w fun e w' => ∃ b, e = .returned (.bool b) ∧ (b = true → vl ≤ 8 ∧ tl ≤ 6 ∧ R.length ≤ 24 ∧ ∀ r ∈ R, r.right.length ≤ 8) ∧ Below w.heap.size w w' := by
  unfold maxLen at hn ht hv
  have b0 := Blk.new w 25 #[.slice ta tl tc, .slice va vl vc, .slice ra R.length rc]
  have hbl : Below w.heap.size w (w.alloc (.cells #[.slice ta tl tc, .slice va vl vc, .slice ra R.length rc] 25)) := below_lit _ _ _
  have hR1 := hR.below (hbl.mono hB)
  generalize hW0 : w.alloc (.cells #[.slice ta tl tc, .slice va vl vc, .slice ra R.length rc] 25) = w0 at *
  have d0 := b0.cell 0
  have d1 := b0.cell 1
  have d2 := b0.cell 2
  simp only [List.getElem?_toArray, List.getElem?_cons_zero, List.getElem?_cons_succ] at d0 d1 d2
  have HR1 := Lib.hid hR1
  clear hR hR1
  by_cases hf : vl ≤ 8 ∧ tl ≤ 6 ∧ R.length ≤ 24
  · obtain ⟨f1, f2, f3⟩ := hf
    go_enter Try.func13, Try.ntmps13
    go_wp2_with fail
    go_loopw [3] (fun i wr => ∃ (k : Nat), k ≤ R.length ∧ i = .int .i64 k ∧ (∀ r ∈ R.take k, r.right.length ≤ 8) ∧ wr = w0) (fun i _ => R.length - (intOf i).toNat)
    case atStart => exact ⟨0, Nat.zero_le _, rfl, by simp, rfl⟩
    case round =>
      obtain ⟨k, hk, rfl, hall, rfl⟩ := hrel
      have HA := Lib.hid hall
      clear hall
      by_cases hlt : k < R.length
      · obtain ⟨a, r, ao, cap, rfl, hab, hrk, h1, h2, h3, h4, h5, _⟩ := HR1.out.at k hlt
        have h5' : cap ≤ 9223372036854775807 := by unfold maxLen at h5; omega
        by_cases hr8 : r.right.length ≤ 8
        · have hmo : ∀ q ∈ R.take (k + 1), q.right.length ≤ 8 := fun q hq => by
            rw [List.take_succ_eq_append_getElem hlt] at hq
            rcases List.mem_append.1 hq with h | h
            · exact HA.out q h
            · simp at h
              subst h
              rw [List.getElem?_eq_getElem hlt] at hrk
              cases hrk
              exact hr8
          have HM := Lib.hid hmo
          clear hmo
          go_wp2
          exact ⟨⟨k + 1, hlt, congrArg (Value.int .i64) (by omega), HM.out, trivial⟩, by simp only [intOf]; omega⟩
        · go_wp2
          go_ret
          exact ⟨false, rfl, fun h => (by cases h), hbl⟩
      · obtain rfl : k = R.length := by omega
        go_wp2
        go_ret
        exact ⟨true, rfl, fun _ => ⟨f1, f2, f3, fun r hr => HA.out r (by rw [List.take_length]; exact hr)⟩, hbl⟩
  · go_enter Try.func13, Try.ntmps13
    go_wp2_with fail
    all_goals first
      | (exfalso; omega)
      | (go_ret; exact ⟨false, rfl, fun h => (by cases h), hbl⟩)
      | (go_ret; exact .inl ⟨rfl, hbl⟩)
end Go.Proofs.Ytljkobijoenabaa.dv
