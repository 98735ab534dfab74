import Derived.Test.YtkhflfkedpkelaaGreatDoorFmc
import Derived.Test.YtkhflfkedpkelaaGreatDoorLexm
namespace Go.Proofs.YtkhflfkedpkelaaGreatDoor.fm
open Ieee Go.Proofs.YtkhflfkedpkelaaGreatDoor.flo Go.Proofs.YtkhflfkedpkelaaGreatDoor.lx
set_option linter.unusedVariables false
/-- the text of a weight that is a number, by the program's own reckoning over a table T -/
def textD (T : Nat → Nat × Nat) (neg : Bool) (mant : Nat) (ex : Int) : List UInt8 :=
  outN neg (stripZ (digs (ndN (shortN T (mant * 2 ^ (64 - bitL mant)) (ex - (64 - bitL mant : Nat) - 52)).1) (shortN T (mant * 2 ^ (64 - bitL mant)) (ex - (64 - bitL mant : Nat) - 52)).1)) ((ndN (shortN T (mant * 2 ^ (64 - bitL mant)) (ex - (64 - bitL mant : Nat) - 52)).1 : Int) + (shortN T (mant * 2 ^ (64 - bitL mant)) (ex - (64 - bitL mant : Nat) - 52)).2)
def mantN (B : Nat) : Nat := if B / 4503599627370496 % 2048 = 0 then B % 4503599627370496 else 4503599627370496 + B % 4503599627370496
def expN (B : Nat) : Int := (if B / 4503599627370496 % 2048 = 0 then 1 else (B / 4503599627370496 % 2048 : Nat)) - 1023
def textN (T : Nat → Nat × Nat) (B : Nat) : List UInt8 :=
  if mantN B = 0 then outN (decide (9223372036854775808 ≤ B)) [] 0
  else textD T (decide (9223372036854775808 ≤ B)) (mantN B) (expN B)
theorem bitL_53 (M : Nat) (h1 : 4503599627370496 ≤ M) (h2 : M < 9007199254740992) : bitL M = 53 := by
  unfold bitL
  rw [if_neg (by omega), log2_52 h1 h2]
theorem valL_val (l : List UInt8) : valL l = val l := rfl
theorem digL_of {l : List UInt8} (h : ∀ c ∈ l, digB c = true) : digL l := fun c hc => by
  have := h c hc
  unfold digB at this
  simpa using this
theorem digs_ofB {l : List UInt8} {m : Nat} (h : digsB l m = true) : 1 ≤ l.length ∧ l.length ≤ m ∧ ∀ c ∈ l, digB c = true := by
  unfold digsB at h
  simp only [Bool.and_eq_true, decide_eq_true_iff] at h
  exact ⟨h.1.1, h.1.2, fun c hc => List.all_eq_true.1 h.2 c hc⟩
theorem no_dot : ∀ (l : List UInt8), dotB l = false → tailD l = []
  | [], _ => rfl
  | c :: l, h => by
    have h2 : dotB l = false ∧ c ≠ 46 := by
      unfold dotB at h ⊢
      simp only [List.contains_cons, Bool.or_eq_false_iff, beq_eq_false_iff_ne] at h
      exact ⟨h.2, fun e => h.1 e.symm⟩
    have e2 : tailD (c :: l) = tailD l := by
      unfold tailD
      rw [List.dropWhile_cons_of_pos (p := fun c => c != 46) (by simpa using h2.2)]
    rw [e2, no_dot l h2.1]
theorem dec_parts {l : List UInt8} (h : decB l = true) : digL (headD (strip l)) ∧ digL (tailD (strip l)) ∧ 1 ≤ (headD (strip l)).length ∧ (headD (strip l)).length ≤ 9 ∧ (tailD (strip l)).length ≤ 6 ∧ (1 < (headD (strip l)).length → (headD (strip l)).head? ≠ some 48) := by
  unfold decB at h
  simp only [Bool.and_eq_true, Bool.not_eq_true', Bool.or_eq_true] at h
  obtain ⟨⟨h1, h2⟩, h3⟩ := h
  obtain ⟨a1, a2, a3⟩ := digs_ofB h1
  refine ⟨digL_of a3, ?_, a1, a2, ?_, fun h4 h5 => ?_⟩
  · rcases h3 with h3 | h3
    · rw [no_dot _ h3]
      intro c hc
      simp at hc
    · exact digL_of (digs_ofB h3).2.2
  · rcases h3 with h3 | h3
    · rw [no_dot _ h3]
      exact Nat.zero_le _
    · exact (digs_ofB h3).2.1
  · rw [h5, decide_eq_true h4] at h2
    simp at h2
theorem valL_lt (l : List UInt8) (h : digL l) : valL l < 10 ^ l.length := (digs_val l.length l rfl h).2
theorem valL_app (a : List UInt8) : ∀ b : List UInt8, valL (a ++ b) = valL a * 10 ^ b.length + valL b := by
  induction a with
  | nil => intro b; simp [valL]
  | cons c a ih =>
    intro b
    rw [List.cons_append, valL_cons, valL_cons, ih, List.length_append, Nat.pow_add, Nat.add_mul, Nat.mul_assoc, Nat.add_assoc]
theorem digs_valL : ∀ n d, d < 10 ^ n → valL (digs n d) = d := by
  intro n
  induction n with
  | zero => intro d hd; simp [digs, valL]; simp at hd; exact hd.symm
  | succ n ih =>
    intro d hd
    unfold digs
    rw [valL_snoc, ih _ (by rw [Nat.pow_succ] at hd; omega), ofNat_dig _ (by omega)]
    omega
theorem word_ff (neg : Bool) (R : Nat) (h : R < 9223372036854775808) : mantN (double.word neg R) = mantN R ∧ expN (double.word neg R) = expN R ∧ decide (9223372036854775808 ≤ double.word neg R) = neg := by
  cases neg
  · rw [word_f]
    exact ⟨rfl, rfl, decide_eq_false (by omega)⟩
  · rw [word_t]
    refine ⟨?_, ?_, decide_eq_true (by omega)⟩
    · unfold mantN
      rw [show (9223372036854775808 + R) / 4503599627370496 % 2048 = R / 4503599627370496 % 2048 from by omega, show (9223372036854775808 + R) % 4503599627370496 = R % 4503599627370496 from by omega]
    · unfold expN
      rw [show (9223372036854775808 + R) / 4503599627370496 % 2048 = R / 4503599627370496 % 2048 from by omega]
/-- a weight's text is the shortest one -/
theorem text_short (T : Nat → Nat × Nat) (hT : Good T) (l : List UInt8) (h : decB l = true) : textN T (decF l) = shortB (l.head? == some 45) (headD (strip l)) (tailD (strip l)) := by
  obtain ⟨hh, ht, h1, h9, h6, hz⟩ := dec_parts h
  unfold decF
  rw [← valL_val]
  generalize (l.head? == some 45) = neg
  generalize headD (strip l) = H at *
  generalize tailD (strip l) = P at *
  clear h
  have hpos : 0 < 10 ^ P.length := Nat.pow_pos (by decide)
  have hH := valL_lt H hh
  have hP := valL_lt P ht
  have happ := valL_app H P
  have h9p : 10 ^ H.length ≤ 10 ^ 9 := Nat.pow_le_pow_right (by decide) h9
  have e9 : (10 : Nat) ^ 9 = 1000000000 := by decide
  have hv : valL (H ++ P) < 1000000000 * 10 ^ P.length := by
    rw [happ]
    have : (valL H + 1) * 10 ^ P.length ≤ 1000000000 * 10 ^ P.length := Nat.mul_le_mul_right _ (by omega)
    rw [Nat.add_mul] at this
    omega
  have h6p : 10 ^ P.length ≤ 10 ^ 6 := Nat.pow_le_pow_right (by decide) h6
  have e6 : (10 : Nat) ^ 6 = 1000000 := by decide
  have h15 : valL (H ++ P) < 1000000000000000 := by omega
  rcases Nat.eq_zero_or_pos (valL (H ++ P)) with h0 | h0
  · rw [h0, wt_nought neg _ h6]
    obtain ⟨w1, w2, w3⟩ := word_ff neg 0 (by decide)
    unfold textN
    rw [w1, w3, if_pos (by decide)]
    have hall : ∀ q : List UInt8, digL q → valL q = 0 → q = List.replicate q.length 48 := fun q hq hq0 => by
      have := (digs_val q.length q rfl hq).1
      rw [hq0, digs_zero] at this
      exact this.symm
    rw [happ] at h0
    have hH0 : valL H = 0 := by
      rcases Nat.eq_zero_or_pos (valL H) with hx | hx
      · exact hx
      · have := Nat.mul_pos hx hpos
        omega
    have eH := hall H hh hH0
    have eP := hall P ht (by omega)
    have eH1 : H.length = 1 := by
      rcases Nat.lt_or_ge 1 H.length with hx | hx
      · exfalso
        refine hz hx ?_
        rw [eH, show H.length = H.length - 1 + 1 from by omega, List.replicate_succ]
        rfl
      · omega
    rw [eH1] at eH
    unfold outN shortB
    rw [eP, strip_rep, eH]
    rfl
  · obtain ⟨M, F, m1, m2, f1, f2, hw, a1, a2, a3, a4, a5⟩ := wt_near (valL (H ++ P)) P.length h0 h15 h6 hv
    obtain ⟨q, q1, q2, hb, hs⟩ := short_dec T hT M F _ _ m1 m2 f1 f2 h6 a1 a2 a3 a4 a5
    obtain ⟨w1, w2, w3⟩ := word_ff neg ((1074 - F) * 4503599627370496 + M) (by omega)
    have hm : mantN ((1074 - F) * 4503599627370496 + M) = M := by
      unfold mantN
      rw [if_neg (by omega)]
      omega
    have he : expN ((1074 - F) * 4503599627370496 + M) = 52 - (F : Int) := by
      unfold expN
      rw [if_neg (by omega)]
      omega
    rw [hw neg]
    unfold textN
    rw [w1, w2, w3, hm, he, if_neg (by omega)]
    unfold textD
    rw [bitL_53 M m1 m2, show M * 2 ^ (64 - 53) = M * 2048 from rfl, show (52 : Int) - F - ((64 - 53 : Nat) : Int) - 52 = -(F : Int) - 11 from by omega, hs]
    exact out_short neg H P q hh ht h1 hz (by omega) h0 hb
end Go.Proofs.YtkhflfkedpkelaaGreatDoor.fm
