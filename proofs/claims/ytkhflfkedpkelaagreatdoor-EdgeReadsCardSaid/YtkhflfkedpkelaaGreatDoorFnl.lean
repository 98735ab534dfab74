import Derived.Test.YtkhflfkedpkelaaGreatDoorFnj
namespace Go.Proofs.YtkhflfkedpkelaaGreatDoor.lx
open Ieee Go.Proofs.YtkhflfkedpkelaaGreatDoor.flo Go.Proofs.YtkhflfkedpkelaaGreatDoor.fm Go.Proofs.YtkhflfkedpkelaaGreatDoor.ky
set_option linter.unusedVariables false
/-! what is read can be put out -/
theorem dec_prn (l : List UInt8) (h : decB l = true) : Prn (decF l) := by
  obtain ⟨hh, ht, h1, h9, h6, hz⟩ := dec_parts h
  unfold decF
  rw [← valL_val]
  generalize (l.head? == some 45) = neg
  generalize headD (strip l) = H at *
  generalize tailD (strip l) = P at *
  clear h
  have hpos : 0 < 10 ^ P.length := Nat.pow_pos (by decide)
  have hH := valL_lt H hh
  have hP := valL_lt P ht
  have happ := valL_app H P
  have h9p : 10 ^ H.length ≤ 10 ^ 9 := Nat.pow_le_pow_right (by decide) h9
  have e9 : (10 : Nat) ^ 9 = 1000000000 := by decide
  have hv : valL (H ++ P) < 1000000000 * 10 ^ P.length := by
    rw [happ]
    have : (valL H + 1) * 10 ^ P.length ≤ 1000000000 * 10 ^ P.length := Nat.mul_le_mul_right _ (by omega)
    rw [Nat.add_mul] at this
    omega
  have h6p : 10 ^ P.length ≤ 10 ^ 6 := Nat.pow_le_pow_right (by decide) h6
  have e6 : (10 : Nat) ^ 6 = 1000000 := by decide
  have h15 : valL (H ++ P) < 1000000000000000 := by omega
  rcases Nat.eq_zero_or_pos (valL (H ++ P)) with h0 | h0
  · rw [h0, wt_nought neg _ h6]
    obtain ⟨w1, _, _⟩ := word_ff neg 0 (by decide)
    refine ⟨?_, ?_, .inl (by rw [w1]; decide)⟩
    · cases neg
      · rw [word_f]; decide
      · rw [word_t]; decide
    · cases neg
      · rw [word_f]; decide
      · rw [word_t]; decide
  · obtain ⟨M, F, m1, m2, f1, f2, hw, a1, a2, a3, a4, a5⟩ := wt_near (valL (H ++ P)) P.length h0 h15 h6 hv
    obtain ⟨q, q1, q2, hb, hs⟩ := short_dec TT tt_good M F _ _ m1 m2 f1 f2 h6 a1 a2 a3 a4 a5
    rw [hw neg]
    obtain ⟨x, hx, hx2⟩ : ∃ x, double.word neg ((1074 - F) * 4503599627370496 + M) = x ∧ (x = (1074 - F) * 4503599627370496 + M ∨ x = 9223372036854775808 + ((1074 - F) * 4503599627370496 + M)) := by
      cases neg
      · exact ⟨_, word_f _, .inl rfl⟩
      · exact ⟨_, word_t _, .inr rfl⟩
    rw [hx]
    have hE : x / 4503599627370496 % 2048 = 1075 - F := by rcases hx2 with e | e <;> omega
    have hM : 4503599627370496 + x % 4503599627370496 = M := by rcases hx2 with e | e <;> omega
    refine ⟨by rcases hx2 with e | e <;> omega, by rcases hx2 with e | e <;> omega, .inr ⟨by omega, ?_⟩⟩
    rw [hM, hE, show ((1075 - F : Nat) : Int) - 1086 = -(F : Int) - 11 from by omega, hs]
    exact Nat.mul_pos h0 (Nat.pow_pos (by decide))
theorem dec_text (l : List UInt8) (h : decB l = true) : textW (decF l) = shortB (l.head? == some 45) (headD (strip l)) (tailD (strip l)) := by
  obtain ⟨p1, p2, _⟩ := dec_prn l h
  unfold textW
  have hn : nanB (decF l) = false := by unfold nanB; rw [decide_eq_false_iff_not]; omega
  rw [hn, if_neg (by simp), if_neg (by omega), if_neg (by omega), text_short TT tt_good l h]
/-- the shortest text of a weight's text -/
def shortL (l : List UInt8) : List UInt8 := if decB l = true then shortB (l.head? == some 45) (headD (strip l)) (tailD (strip l)) else l
theorem read_prn (l : List UInt8) : readF l < 18446744073709551616 ∧ (readF l % 9223372036854775808 < 9218868437227405312 → Prn (readF l)) := by
  unfold readF
  split
  · exact ⟨by decide, fun h => absurd h (by decide)⟩
  · split
    · exact ⟨by decide, fun h => absurd h (by decide)⟩
    · split
      · exact ⟨by decide, fun h => absurd h (by decide)⟩
      · split
        · rename_i h
          exact ⟨(dec_prn l h).1, fun _ => dec_prn l h⟩
        · exact ⟨by decide, fun _ => ⟨by decide, by decide, .inl (by decide)⟩⟩
theorem read_text (l : List UInt8) (h : readOk l = true) : textW (readF l) = shortL l := by
  have n1 : decB [110, 97, 110] = false := by decide +kernel
  have n2 : decB [105, 110, 102] = false := by decide +kernel
  have n3 : decB [45, 105, 110, 102] = false := by decide +kernel
  unfold readF shortL
  by_cases h1 : l = [110, 97, 110]
  · rw [if_pos h1, h1, n1, if_neg (by simp)]; decide
  · rw [if_neg h1]
    by_cases h2 : l = [105, 110, 102]
    · rw [if_pos h2, h2, n2, if_neg (by simp)]; decide
    · rw [if_neg h2]
      by_cases h3 : l = [45, 105, 110, 102]
      · rw [if_pos h3, h3, n3, if_neg (by simp)]; decide
      · rw [if_neg h3]
        have hd : decB l = true := by
          unfold readOk at h
          rw [beq_eq_false_iff_ne.2 h1, beq_eq_false_iff_ne.2 h2, beq_eq_false_iff_ne.2 h3] at h
          simpa using h
        rw [if_pos hd, if_pos hd, dec_text l hd]
end Go.Proofs.YtkhflfkedpkelaaGreatDoor.lx
