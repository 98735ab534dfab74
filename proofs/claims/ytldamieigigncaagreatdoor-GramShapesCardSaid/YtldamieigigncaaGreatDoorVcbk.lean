import Derived.Test.YtldamieigigncaaGreatDoorVcbj
import Derived.Test.YtldamieigigncaaGreatDoorVcau
import Derived.Test.YtldamieigigncaaGreatDoorVcba
import Derived.Test.YtldamieigigncaaGreatDoorVcaw
import Derived.Test.YtldamieigigncaaGreatDoorVcbc
import Derived.Test.YtldamieigigncaaGreatDoorVcbd
namespace Go.Proofs.YtldamieigigncaaGreatDoor.lx
open Ieee Go.Proofs.YtldamieigigncaaGreatDoor.flo Go.Proofs.YtldamieigigncaaGreatDoor.fm Go.Proofs.YtldamieigigncaaGreatDoor.ky
set_option linter.unusedVariables false
theorem near_one (y t M F M' F' : Nat) (ht : 0 < t) (hF : F ≤ F') (h1 : 4503599627370496 ≤ M) (h2 : M < 9007199254740992) (h1' : 4503599627370496 ≤ M') (h2' : M' < 9007199254740992)
    (lo : (2 * M - 1) * t ≤ 2 * y * 2 ^ F) (hi : 2 * y * 2 ^ F ≤ (2 * M + 1) * t) (ev : M % 2 = 1 → (2 * M - 1) * t < 2 * y * 2 ^ F) (ev2 : M % 2 = 1 → 2 * y * 2 ^ F < (2 * M + 1) * t) (sk : M = 4503599627370496 → (4 * M - 1) * t ≤ 4 * y * 2 ^ F)
    (lo' : (2 * M' - 1) * t ≤ 2 * y * 2 ^ F') (hi' : 2 * y * 2 ^ F' ≤ (2 * M' + 1) * t) (ev' : M' % 2 = 1 → (2 * M' - 1) * t < 2 * y * 2 ^ F') (ev2' : M' % 2 = 1 → 2 * y * 2 ^ F' < (2 * M' + 1) * t) : M = M' ∧ F = F' := by
  obtain ⟨d, rfl⟩ : ∃ d, F' = F + d := ⟨F' - F, by omega⟩
  rw [Nat.pow_add] at lo' hi' ev' ev2'
  obtain ⟨Y, hY⟩ : ∃ Y, Y = 2 * y * 2 ^ F := ⟨_, rfl⟩
  have e1 : 2 * y * (2 ^ F * 2 ^ d) = Y * 2 ^ d := by rw [hY, Nat.mul_assoc (2 * y)]
  have e2 : 4 * y * 2 ^ F = 2 * Y := by rw [hY, show 4 * y = 2 * (2 * y) from by omega, Nat.mul_assoc 2 (2 * y)]
  rw [e1] at lo' hi' ev' ev2'
  rw [e2] at sk
  rw [← hY] at lo hi ev ev2
  clear hY e1 e2
  have dlt : ∀ a b : Nat, a * t ≤ b * t → a ≤ b := fun a b h => Nat.le_of_mul_le_mul_right h ht
  have llt : ∀ a b : Nat, a * t < b * t → a < b := fun a b h => Nat.lt_of_mul_lt_mul_right h
  -- M is no less than what it is by its place
  have big : (4 * 4503599627370496 - 1) * t ≤ 2 * Y := by
    by_cases h : M = 4503599627370496
    · have := sk h
      rwa [h] at this
    · have h3 : (2 * 4503599627370496 + 1) * t ≤ (2 * M - 1) * t := Nat.mul_le_mul_right _ (by omega)
      have h4 : (4 * 4503599627370496 - 1) * t ≤ (2 * (2 * 4503599627370496 + 1)) * t := Nat.mul_le_mul_right _ (by omega)
      rw [Nat.mul_assoc 2] at h4
      omega
  rcases Nat.eq_zero_or_pos d with rfl | hd
  · rw [Nat.pow_zero, Nat.mul_one] at lo' hi' ev' ev2'
    refine ⟨?_, rfl⟩
    have a1 := dlt _ _ (Nat.le_trans lo hi')
    have a2 := dlt _ _ (Nat.le_trans lo' hi)
    rcases Nat.lt_trichotomy M M' with h | h | h
    · exfalso
      have hm : M' = M + 1 := by omega
      rcases Nat.mod_two_eq_zero_or_one M with h0 | h0
      · have h3 := llt _ _ (Nat.lt_of_lt_of_le (ev' (by omega)) hi)
        omega
      · have h3 := llt _ _ (Nat.lt_of_le_of_lt lo' (ev2 h0))
        omega
    · exact h
    · exfalso
      have hm : M = M' + 1 := by omega
      rcases Nat.mod_two_eq_zero_or_one M' with h0 | h0
      · have h3 := llt _ _ (Nat.lt_of_lt_of_le (ev (by omega)) hi')
        omega
      · have h3 := llt _ _ (Nat.lt_of_le_of_lt lo (ev2' h0))
        omega
  · exfalso
    have hp : 2 ≤ 2 ^ d := by
      have := Nat.pow_le_pow_right (n := 2) (by decide) hd
      exact this
    have h3 : Y * 2 ≤ Y * 2 ^ d := Nat.mul_le_mul_left _ hp
    have h4 : (2 * M' + 1) * t ≤ (2 * 9007199254740991 + 1) * t := Nat.mul_le_mul_right _ (by omega)
    have h5 : (4 * 4503599627370496 - 1) * t = (2 * 9007199254740991 + 1) * t := rfl
    by_cases hM : M' = 9007199254740991
    · have h6 := ev2' (by rw [hM])
      omega
    · have h6 : (2 * M' + 1) * t ≤ (2 * 9007199254740990 + 1) * t := Nat.mul_le_mul_right _ (by omega)
      have h7 : (2 * 9007199254740990 + 1) * t < (2 * 9007199254740991 + 1) * t := Nat.mul_lt_mul_of_pos_right (by decide) ht
      omega
theorem wt_scale (s : Bool) (n k z : Nat) (h0 : 0 < n) (hn : n * 10 ^ z < 1000000000000000) (hk : k + z ≤ 6) (hv : n < 1000000000 * 10 ^ k) : wt s (n * 10 ^ z) (k + z) = wt s n k := by
  have hz : 0 < 10 ^ z := Nat.pow_pos (by decide)
  have hk0 : 0 < 10 ^ k := Nat.pow_pos (by decide)
  have hn1 : n ≤ n * 10 ^ z := Nat.le_mul_of_pos_right _ hz
  obtain ⟨M, F, m1, m2, f1, f2, hw, a1, a2, a3, a4, a5⟩ := wt_near n k h0 (by omega) (by omega) hv
  obtain ⟨M', F', m1', m2', f1', f2', hw', a1', a2', a3', a4', a5'⟩ := wt_near (n * 10 ^ z) (k + z) (Nat.mul_pos h0 hz) hn hk (by rw [Nat.pow_add, ← Nat.mul_assoc]; exact Nat.mul_lt_mul_of_pos_right hv hz)
  have p1 : ∀ c, c * 10 ^ (k + z) = c * 10 ^ k * 10 ^ z := fun c => by rw [Nat.pow_add, Nat.mul_assoc]
  have p2 : ∀ c f, c * (n * 10 ^ z) * f = c * n * f * 10 ^ z := fun c f => by
    rw [← Nat.mul_assoc c, Nat.mul_assoc (c * n), Nat.mul_comm (10 ^ z), ← Nat.mul_assoc]
  simp only [p1, p2] at a1' a2' a3' a4' a5'
  have b1 := Nat.le_of_mul_le_mul_right a1' hz
  have b2 := Nat.le_of_mul_le_mul_right a2' hz
  have b3 := fun h => Nat.lt_of_mul_lt_mul_right (a3' h)
  have b4 := fun h => Nat.lt_of_mul_lt_mul_right (a4' h)
  have b5 := fun h => Nat.le_of_mul_le_mul_right (a5' h) hz
  have e : M = M' ∧ F = F' := by
    rcases Nat.le_total F F' with h | h
    · exact near_one n (10 ^ k) M F M' F' hk0 h m1 m2 m1' m2' a1 a2 a3 a4 a5 b1 b2 b3 b4
    · have := near_one n (10 ^ k) M' F' M F hk0 h m1' m2' m1 m2 b1 b2 b3 b4 b5 a1 a2 a3 a4
      exact ⟨this.1.symm, this.2.symm⟩
  rw [hw s, hw' s, e.1, e.2]
end Go.Proofs.YtldamieigigncaaGreatDoor.lx

namespace Go.Proofs.YtldamieigigncaaGreatDoor.lx
open Ieee Go.Proofs.YtldamieigigncaaGreatDoor.flo Go.Proofs.YtldamieigigncaaGreatDoor.fm Go.Proofs.YtldamieigigncaaGreatDoor.ky
set_option linter.unusedVariables false
theorem dg46 {c : UInt8} (h : digB c = true) : (c != 46) = true := by
  rw [bne_iff_ne]
  rintro rfl
  revert h
  decide
theorem dg45 {c : UInt8} (h : digB c = true) : c ≠ 45 := by
  rintro rfl
  revert h
  decide
theorem hd_all : ∀ (H : List UInt8), (∀ c ∈ H, digB c = true) → ∀ r, (∀ c q, r = c :: q → c = 46) → headD (H ++ r) = H ∧ tailD (H ++ r) = r.tail ∧ dotB (H ++ r) = dotB r
  | [], _, r, hr => by
    cases r with
    | nil => exact ⟨rfl, rfl, rfl⟩
    | cons c q =>
      have := hr c q rfl
      subst this
      exact ⟨rfl, rfl, rfl⟩
  | c :: H, h, r, hr => by
    obtain ⟨i1, i2, i3⟩ := hd_all H (fun d hd => h d (List.mem_cons_of_mem _ hd)) r hr
    have hc := dg46 (h c (List.mem_cons_self ..))
    refine ⟨?_, ?_, ?_⟩
    · unfold headD at i1 ⊢
      rw [List.cons_append, List.takeWhile_cons_of_pos (p := fun c => c != 46) hc, i1]
    · unfold tailD at i2 ⊢
      rw [List.cons_append, List.dropWhile_cons_of_pos (p := fun c => c != 46) hc, i2]
    · unfold dotB at i3 ⊢
      rw [List.cons_append, List.contains_cons, i3]
      have : (46 == c) = false := by
        rw [beq_eq_false_iff_ne]
        rintro rfl
        simp at hc
      rw [this, Bool.false_or]
theorem strip_of (neg : Bool) (H r : List UInt8) (h1 : 1 ≤ H.length) (hH : ∀ c ∈ H, digB c = true) : strip ((if neg then [45] else []) ++ (H ++ r)) = H ++ r ∧ ((((if neg then [45] else []) ++ (H ++ r)) : List UInt8).head? == some 45) = neg := by
  cases H with
  | nil => simp at h1
  | cons c H =>
    have hc := dg45 (hH c (List.mem_cons_self ..))
    cases neg
    · unfold strip
      simp [hc]
    · unfold strip
      simp
theorem stripZ_mem {P : List UInt8} (h : ∀ c ∈ P, digB c = true) : ∀ c ∈ stripZ P, digB c = true := fun c hc => h c (by
  rw [(strip_eq P).1]
  exact List.mem_append_left _ hc)
theorem digs_yes {l : List UInt8} {m : Nat} (h1 : 1 ≤ l.length) (h2 : l.length ≤ m) (h3 : ∀ c ∈ l, digB c = true) : digsB l m = true := by
  unfold digsB
  rw [decide_eq_true h1, decide_eq_true h2, List.all_eq_true.2 h3]
  rfl
theorem dec_digB {l : List UInt8} (h : decB l = true) : (∀ c ∈ headD (strip l), digB c = true) ∧ (∀ c ∈ tailD (strip l), digB c = true) ∧ 1 ≤ (headD (strip l)).length ∧ (headD (strip l)).length ≤ 9 ∧ (tailD (strip l)).length ≤ 6 ∧ (!(decide (1 < (headD (strip l)).length) && (headD (strip l)).head? == some 48)) = true := by
  unfold decB at h
  simp only [Bool.and_eq_true, Bool.or_eq_true] at h
  obtain ⟨⟨h1, h2⟩, h3⟩ := h
  obtain ⟨a1, a2, a3⟩ := digs_ofB h1
  refine ⟨a3, ?_, a1, a2, ?_, h2⟩
  · rcases h3 with h3 | h3
    · rw [no_dot _ (by simpa using h3)]
      intro c hc
      simp at hc
    · exact (digs_ofB h3).2.2
  · rcases h3 with h3 | h3
    · rw [no_dot _ (by simpa using h3)]
      exact Nat.zero_le _
    · exact (digs_ofB h3).2.1
theorem back (l : List UInt8) (h : decB l = true) : decB (shortL l) = true ∧ decF (shortL l) = decF l ∧ shortL (shortL l) = shortL l := by
  obtain ⟨hH, hP, h1, h9, h6, hz⟩ := dec_digB h
  obtain ⟨hdH, hdP, _, _, _, _⟩ := dec_parts h
  unfold shortL
  rw [if_pos h]
  have hdF : decF l = wt (l.head? == some 45) (val (headD (strip l) ++ tailD (strip l))) (tailD (strip l)).length := rfl
  rw [hdF]
  generalize (l.head? == some 45) = neg at *
  generalize headD (strip l) = H at *
  generalize tailD (strip l) = P at *
  clear h hdF
  obtain ⟨Q, hQ⟩ : ∃ Q, stripZ P = Q := ⟨_, rfl⟩
  have hQd := stripZ_mem hP
  obtain ⟨e1, e2⟩ := strip_eq P
  have e3 := strip_idem P
  rw [hQ] at hQd e1 e2 e3
  have hform : shortB neg H P = (if neg then [45] else []) ++ (H ++ (if Q = [] then [] else 46 :: Q)) := by
    unfold shortB
    rw [hQ, List.append_assoc]
  rw [hform]
  obtain ⟨r, hr⟩ : ∃ r : List UInt8, r = (if Q = [] then [] else 46 :: Q) := ⟨_, rfl⟩
  rw [← hr]
  have hrc : ∀ c q, r = c :: q → c = 46 := fun c q e => by
    rw [hr] at e
    split at e
    · cases e
    · injection e with e _
      exact e.symm
  obtain ⟨s1, s2⟩ := strip_of neg H r h1 hH
  obtain ⟨t1, t2, t3⟩ := hd_all H hH r hrc
  have t2' : r.tail = Q := by
    rw [hr]
    split
    · rename_i hq; rw [hq]; rfl
    · rfl
  rw [t2'] at t2
  have hdec : decB ((if neg then [45] else []) ++ (H ++ r)) = true := by
    unfold decB
    rw [s1, t1, t2, t3, digs_yes h1 h9 hH, hz]
    by_cases hq : Q = []
    · rw [hr, if_pos hq]
      rfl
    · rw [digs_yes (len_pos hq) (by omega) hQd]
      simp
  refine ⟨hdec, ?_, ?_⟩
  · unfold decF
    rw [s1, s2, t1, t2]
    -- the weight
    obtain ⟨z, hzl⟩ : ∃ z, P.length - Q.length = z := ⟨_, rfl⟩
    rw [hzl] at e1
    have hPl : P.length = Q.length + z := by omega
    have hval : val (H ++ P) = val (H ++ Q) * 10 ^ z := by
      rw [← valL_val, ← valL_val, e1, ← List.append_assoc, valL_zeros]
    rw [hval, hPl]
    rcases Nat.eq_zero_or_pos (val (H ++ Q)) with h0 | h0
    · rw [h0, Nat.zero_mul, wt_nought neg _ (by omega), wt_nought neg _ (by omega)]
    · have hHl := valL_lt H hdH
      have hQl := valL_lt Q (digL_of hQd)
      have hPl2 := valL_lt P hdP
      have hapQ := valL_app H Q
      have hapP := valL_app H P
      have hposQ : 0 < 10 ^ Q.length := Nat.pow_pos (by decide)
      have hposP : 0 < 10 ^ P.length := Nat.pow_pos (by decide)
      have h9p : 10 ^ H.length ≤ 10 ^ 9 := Nat.pow_le_pow_right (by decide) h9
      have e9 : (10 : Nat) ^ 9 = 1000000000 := by decide
      have h6p : 10 ^ P.length ≤ 10 ^ 6 := Nat.pow_le_pow_right (by decide) h6
      have e6 : (10 : Nat) ^ 6 = 1000000 := by decide
      have hvQ : val (H ++ Q) < 1000000000 * 10 ^ Q.length := by
        rw [← valL_val, hapQ]
        have : (valL H + 1) * 10 ^ Q.length ≤ 1000000000 * 10 ^ Q.length := Nat.mul_le_mul_right _ (by omega)
        rw [Nat.add_mul] at this
        omega
      have hvP : val (H ++ P) < 1000000000000000 := by
        rw [← valL_val, hapP]
        have : (valL H + 1) * 10 ^ P.length ≤ 1000000000 * 10 ^ P.length := Nat.mul_le_mul_right _ (by omega)
        rw [Nat.add_mul] at this
        omega
      rw [hval] at hvP
      exact (wt_scale neg _ Q.length z h0 hvP (by omega) hvQ).symm
  · rw [if_pos hdec]
    rw [s2, s1, t1, t2]
    unfold shortB
    rw [e3, hr, List.append_assoc]
theorem short_len (l : List UInt8) : (shortL l).length ≤ l.length := by
  unfold shortL
  split
  · rename_i h
    obtain ⟨hH, hP, h1, h9, h6, hz⟩ := dec_digB h
    have hl : l.length = (if (l.head? == some 45) then 1 else 0) + (strip l).length := by
      unfold strip
      cases l with
      | nil => rfl
      | cons c l =>
        by_cases hc : c = 45
        · subst hc; simp; omega
        · simp [hc]
    have hj : (strip l).length = (headD (strip l)).length + (if dotB (strip l) = true then 1 + (tailD (strip l)).length else 0) := by
      have := cut_join (strip l)
      have h2 := congrArg List.length this
      rw [List.length_append] at h2
      rw [h2]
      by_cases hd : dotB (strip l) = true
      · rw [if_pos hd, if_pos hd, List.length_cons]; omega
      · rw [if_neg hd, if_neg hd]; rfl
    have hs := (strip_eq (tailD (strip l))).2
    unfold shortB
    rw [List.length_append, List.length_append]
    have hn : ((if (l.head? == some 45) then [45] else [] : List UInt8)).length = (if (l.head? == some 45) then 1 else 0) := by split <;> rfl
    rw [hn, hl, hj]
    by_cases hq : stripZ (tailD (strip l)) = []
    · rw [if_pos hq]
      simp only [List.length_nil]
      omega
    · rw [if_neg hq, List.length_cons]
      have hd : dotB (strip l) = true := by
        by_cases hd : dotB (strip l) = true
        · exact hd
        · exfalso
          have := no_dot (strip l) (by simpa using hd)
          rw [this] at hq
          exact hq rfl
      rw [if_pos hd]
      omega
  · exact Nat.le_refl _
end Go.Proofs.YtldamieigigncaaGreatDoor.lx

namespace Go.Proofs.YtldamieigigncaaGreatDoor.lx
open Go.ChangeShapes Go.WideShapes Go.ChangeAt Go.RowKit
set_option linter.unusedVariables false
end Go.Proofs.YtldamieigigncaaGreatDoor.lx

namespace Go.Proofs.YtldamieigigncaaGreatDoor.lx
open Go.ChangeShapes Go.WideShapes Go.ChangeAt Go.RowKit Go.Proofs.YtldamieigigncaaGreatDoor.ky
set_option linter.unusedVariables false
attribute [local go_sem] x_frombits x_bits
structure Pv (w : World) (b off : Nat) : Prop where
  vs : Vs w b off
  ps : Ps w
theorem Pv.below {w w' : World} {b off : Nat} (h : Pv w b off) (hb : Below w.heap.size w w') : Pv w' b off := ⟨h.vs.below hb, h.ps.below hb⟩
end Go.Proofs.YtldamieigigncaaGreatDoor.lx

namespace Go.Proofs.YtldamieigigncaaGreatDoor.lx
open Go.ChangeShapes Go.WideShapes Go.ChangeAt Go.RowKit Go.Proofs.YtldamieigigncaaGreatDoor.ky
set_option linter.unusedVariables false
attribute [local go_sem] x_frombits x_bits
theorem key_inj {a b : Nat} (ha : a < 18446744073709551616) (hb : b < 18446744073709551616) (h1 : nanB a = false) (h2 : nanB b = false) (h : keyN a = keyN b) : a = b := by
  unfold keyN at h
  rw [h1, h2] at h
  unfold negB at h
  simp only [Bool.false_eq_true, if_false, decide_eq_true_eq] at h
  split at h <;> split at h <;> omega
theorem ok_cases {l : List UInt8} (h : readOk l = true) : l = [110, 97, 110] ∨ l = [105, 110, 102] ∨ l = [45, 105, 110, 102] ∨ decB l = true := by
  unfold readOk at h
  simp only [Bool.or_eq_true, beq_iff_eq] at h
  rcases h with ((h | h) | h) | h
  · exact .inl h
  · exact .inr (.inl h)
  · exact .inr (.inr (.inl h))
  · exact .inr (.inr (.inr h))
theorem decF_of {l : List UInt8} (h : decB l = true) : readF l = decF l ∧ readOk l = true := by
  have n1 : l ≠ [110, 97, 110] := by rintro rfl; revert h; decide +kernel
  have n2 : l ≠ [105, 110, 102] := by rintro rfl; revert h; decide +kernel
  have n3 : l ≠ [45, 105, 110, 102] := by rintro rfl; revert h; decide +kernel
  unfold readF readOk
  rw [if_neg n1, if_neg n2, if_neg n3, if_pos h, h]
  simp
theorem dec_nan {l : List UInt8} (h : decB l = true) : nanB (readF l) = false := by
  rw [(decF_of h).1]
  obtain ⟨p1, p2, _⟩ := dec_prn l h
  unfold nanB
  rw [decide_eq_false_iff_not]
  omega
theorem back_all (l : List UInt8) (h : readOk l = true) : readOk (shortL l) = true ∧ readF (shortL l) = readF l ∧ shortL (shortL l) = shortL l ∧ (1 < (shortL l).length → readOk ((shortL l).take ((shortL l).length - 1)) = true → keyN (readF ((shortL l).take ((shortL l).length - 1))) ≠ keyN (readF l)) := by
  have sp : ∀ t : List UInt8, decB t = false → shortL t = t := fun t ht => by unfold shortL; rw [ht, if_neg (by simp)]
  rcases ok_cases h with rfl | rfl | rfl | hd
  · rw [sp _ (by decide +kernel)]
    exact ⟨by decide +kernel, rfl, sp _ (by decide +kernel), fun _ h => absurd h (by decide +kernel)⟩
  · rw [sp _ (by decide +kernel)]
    exact ⟨by decide +kernel, rfl, sp _ (by decide +kernel), fun _ h => absurd h (by decide +kernel)⟩
  · rw [sp _ (by decide +kernel)]
    exact ⟨by decide +kernel, rfl, sp _ (by decide +kernel), fun _ h => absurd h (by decide +kernel)⟩
  · obtain ⟨b1, b2, b3⟩ := back l hd
    obtain ⟨c1, c2⟩ := decF_of b1
    refine ⟨c2, by rw [c1, b2, (decF_of hd).1], b3, fun hlen hok hkey => ?_⟩
    obtain ⟨u, hu⟩ : ∃ u, u = (shortL l).take ((shortL l).length - 1) := ⟨_, rfl⟩
    rw [← hu] at hok hkey
    have hul : u.length < (shortL l).length := by rw [hu, List.length_take]; omega
    have hnu : nanB (readF l) = false := dec_nan hd
    -- u tells a number
    have hdu : decB u = true := by
      rcases ok_cases hok with rfl | rfl | rfl | hx
      · exfalso
        revert hkey
        unfold keyN
        rw [show nanB (readF [110, 97, 110]) = true from by decide +kernel, hnu]
        obtain ⟨p1, _⟩ := read_prn l
        have := dec_prn l hd
        rw [← (decF_of hd).1] at this
        have h3 := this.2.1
        unfold negB
        simp only [if_true, Bool.false_eq_true, if_false, decide_eq_true_eq]
        split <;> omega
      · exfalso
        have hk := key_inj (by decide +kernel) (read_prn l).1 (by decide +kernel) hnu hkey
        have := dec_prn l hd
        rw [← (decF_of hd).1, ← hk] at this
        exact absurd this.2.1 (by decide +kernel)
      · exfalso
        have hk := key_inj (by decide +kernel) (read_prn l).1 (by decide +kernel) hnu hkey
        have := dec_prn l hd
        rw [← (decF_of hd).1, ← hk] at this
        exact absurd this.2.1 (by decide +kernel)
      · exact hx
    have hk := key_inj (read_prn u).1 (read_prn l).1 (dec_nan hdu) hnu hkey
    have e1 := dec_text u hdu
    have e2 := dec_text l hd
    rw [← (decF_of hdu).1, hk, (decF_of hd).1, e2] at e1
    have e3 : shortL u = shortL l := by
      unfold shortL
      rw [if_pos hdu, if_pos hd]
      exact e1.symm
    have := short_len u
    rw [e3] at this
    omega
end Go.Proofs.YtldamieigigncaaGreatDoor.lx

namespace Go.Proofs.YtldamieigigncaaGreatDoor.lx
open Go.ChangeShapes Go.WideShapes Go.ChangeAt Go.RowKit Go.Proofs.YtldamieigigncaaGreatDoor.ky
set_option linter.unusedVariables false
set_option linter.unusedSimpArgs false
def Told (x : Nat) : Prop := ∃ l : List UInt8, readOk l = true ∧ l.length ≤ 20 ∧ readF l = x
theorem told_zero : Told 0 := ⟨[48], by decide +kernel, by decide, by decide +kernel⟩
set_option maxRecDepth 100000 in
set_option maxHeartbeats 2000000 in
theorem isWeight_any (x : Nat) (h : Told x) (w : World) (b off : Nat) (hv : Pv w b off) : Calls Tryz.prog 101 #[.float .f64 x] w fun e w' => e = .returned (.bool true) ∧ Below w.heap.size w w' := by
  obtain ⟨l, hok, hl, hf⟩ := h
  obtain ⟨a1, a2, _, _⟩ := back_all l hok
  obtain ⟨p1, p2⟩ := read_prn l
  have hrt := read_text l hok
  have hlen := short_len l
  rw [hf] at a2 p1 p2 hrt
  obtain ⟨tl, htl⟩ : ∃ tl, shortL l = tl := ⟨_, rfl⟩
  rw [htl] at a1 a2 hrt hlen
  have htm : tl.length ≤ maxLen := by unfold maxLen; omega
  have ht := text_any x p1 p2 w hv.ps
  rw [hrt] at ht
  have hr := fun w hv => read_any (S tl) htm w b off hv
  rw [show (S tl).data.toList = tl from rfl, a1, a2] at hr
  have hsm := ky.same_any x x
  rw [show decide (keyN x = keyN x) = true from decide_eq_true rfl] at hsm
  have HR := Lib.hid hr
  have HS := Lib.hid (fun w => hsm w p1 p1)
  have HV := Lib.hid hv
  clear hv hr hsm a1 a2 p2 hrt hok hf htl
  go_enter Tryz.func101, Tryz.ntmps101
  go_wp2_with fail
  refine ht.mono ?_
  rintro e w1 ⟨rfl, hb1⟩
  have HV1 := Lib.hid (HV.out.below hb1)
  have HB1 := Lib.hid hb1
  clear hb1 ht
  go_wp2_with fail
  refine (HR.out _ HV1.out.vs).mono ?_
  rintro e w2 ⟨rfl, hb2⟩
  have HB2 := Lib.hid (HB1.out.trans (hb2.mono HB1.out.size))
  clear hb2
  go_wp2_with fail
  refine (HS.out _).mono ?_
  rintro e w3 ⟨rfl, rfl⟩
  go_wp2_with fail
  go_ret
  exact ⟨rfl, HB2.out⟩
theorem told_tell {x : Nat} (h : Told x) {w : World} {b off : Nat} (hv : Pv w b off) : WtTell w x true := fun W hW => isWeight_any x h W b off (hv.below hW)
end Go.Proofs.YtldamieigigncaaGreatDoor.lx

namespace Go.Proofs.YtldamieigigncaaGreatDoor.lx
open Go.ChangeShapes Go.WideShapes Go.ChangeAt Go.RowKit Go.Proofs.YtldamieigigncaaGreatDoor.ky
set_option linter.unusedVariables false
set_option linter.unusedSimpArgs false
def exD : List Dfn := [(0, [101], [(4, 0, [.mk 4 0 [101] [] 63, .mk 7 1 [98] [] 0]), (13, 4609434218613702656, [.mk 18 1 [97] [] 0])])]
def exG : Gra := ⟨[[97], [98]], [[101], [103, 49]], [(0, [1, -2], 0), (0, [-1], 4609434218613702656), (1, [0], 0), (1, [], 0)]⟩
def exL : Ld := ⟨[[101]], [], [[(4, 0, [.mk 4 0 [101] [] 63, .mk 7 1 [98] [] 0]), (13, 4609434218613702656, [.mk 18 1 [97] [] 0])]], 0, []⟩
def exL2 : Ld := ⟨[[101], [103, 49]], [[98], [97]], [[(4, 0, [.mk 4 0 [101] [] 63, .mk 7 1 [98] [] 0]), (13, 4609434218613702656, [.mk 18 1 [97] [] 0])], [(4, 0, [.mk 4 0 [101] [] 0]), (4, 0, [])]], 1, [(0, [1, -1], 0), (0, [-2], 4609434218613702656), (1, [0], 0), (1, [], 0)]⟩
theorem ga1 : readAll [101, 32, 61, 32, 101, 63, 32, 39, 98, 39, 32, 124, 32, 37, 49, 46, 53, 32, 39, 97, 39, 32, 59, 32] = (exD, 0, 0) := by
  unfold readAll
  rw [lexAll_G _ (by decide)]
  kernel_rfl
theorem ga2 : readAll [101, 32, 61, 32, 102, 32, 59] = ([(0, [101], [(4, 0, [.mk 4 0 [102] [] 0])])], 0, 0) := by
  unfold readAll
  rw [lexAll_G _ (by decide)]
  kernel_rfl
theorem exL_ok : ldDefs ld0 exD = .ok exL := by kernel_rfl
theorem exL_want : wnD exL.vars exD = none := by kernel_rfl
theorem exL_go : goP 65 0 exL = .ok exL2 := by kernel_rfl
theorem ex_srt : srt [[98], [97]] = [[97], [98]] := by
  rw [show ([[98], [97]] : List (List UInt8)) = ([] ++ [[98]]) ++ [[97]] from rfl, srt_snoc, srt_snoc, srt_nil]
  kernel_rfl
theorem ex_load : loadAll [101, 32, 61, 32, 101, 63, 32, 39, 98, 39, 32, 124, 32, 37, 49, 46, 53, 32, 39, 97, 39, 32, 59, 32] = (exG, 0, 0) := by
  rw [load_def ga1, loadD_ok exL_ok exL_want exL_go]
  have e2 : orderP exL2 = exG := by
    unfold orderP
    rw [show srt exL2.terms = [[97], [98]] from ex_srt]
    rfl
  show ((orderP exL2, 0, 0) : Gra × Nat × Nat) = (exG, 0, 0)
  rw [e2]
theorem ex_fault : loadAll [101, 32, 61, 32, 102, 32, 59] = (gra0, 9, 4) := by
  rw [load_def ga2]
  have h1 : ldDefs ld0 [(0, [101], [(4, 0, [.mk 4 0 [102] [] 0])])] = .ok ⟨[[101]], [], [[(4, 0, [.mk 4 0 [102] [] 0])]], 0, []⟩ := by kernel_rfl
  rw [loadD_want h1 (q := (9, 4)) (by kernel_rfl)]
def exT (F : Nat) : List UInt8 := if F = 4609434218613702656 then [49, 46, 53] else [48]
theorem ex_told : Told 4609434218613702656 := ⟨[49, 46, 53], by decide +kernel, by decide, by decide +kernel⟩
theorem ex_sorted : SortedL exG.rules := by
  intro k a b ha hb
  match k, ha, hb with
  | 0, ha, hb => cases ha; cases hb; decide
  | 1, ha, hb => cases ha; cases hb; decide
  | 2, ha, hb => cases ha; cases hb; decide
  | 3, ha, hb => cases hb
  | k + 4, ha, hb => cases ha
theorem ex_rules : ∀ r ∈ exG.rules, r = (0, [1, -2], 0) ∨ r = (0, [-1], 4609434218613702656) ∨ r = (1, [0], 0) ∨ r = (1, [], 0) := fun r hr => by
  have hr : r ∈ [(0, [1, -2], 0), (0, [-1], 4609434218613702656), (1, [0], 0), (1, [], 0)] := hr
  simpa using hr
theorem ex_pr : PrOk exG exT := by
  refine ⟨fun x hx => ?_, fun x hx => ?_, by decide, by decide, fun r hr => ?_, fun F => ?_, ex_sorted⟩
  · have hx : x ∈ ([[101], [103, 49]] : List (List UInt8)) := hx
    simp only [List.mem_cons, List.not_mem_nil, or_false] at hx
    rcases hx with rfl | rfl <;> decide
  · have hx : x ∈ ([[97], [98]] : List (List UInt8)) := hx
    simp only [List.mem_cons, List.not_mem_nil, or_false] at hx
    rcases hx with rfl | rfl <;> decide
  · have aux : ∀ s : Int, s ∈ ([1, -2, -1, 0] : List Int) → In64x s ∧ symOk exG.vars.length exG.terms.length s = true := by
      intro s hs
      simp only [List.mem_cons, List.not_mem_nil, or_false] at hs
      rcases hs with rfl | rfl | rfl | rfl <;> exact ⟨by unfold In64x; decide, by decide⟩
    rcases ex_rules r hr with rfl | rfl | rfl | rfl
    · exact ⟨by decide, fun s hs => aux s (by simp at hs ⊢; omega), by decide⟩
    · exact ⟨by decide, fun s hs => aux s (by simp at hs ⊢; omega), by decide⟩
    · exact ⟨by decide, fun s hs => aux s (by simp at hs ⊢; omega), by decide⟩
    · exact ⟨by decide, fun s hs => (by cases hs), by decide⟩
  · unfold exT; split <;> decide
theorem ex_in64 : RulesIn64 exG.rules := fun r hr => by
  rcases ex_rules r hr with rfl | rfl | rfl | rfl
  · exact ⟨by decide, fun x hx => by simp at hx; unfold In64x; omega⟩
  · exact ⟨by decide, fun x hx => by simp at hx; unfold In64x; omega⟩
  · exact ⟨by decide, fun x hx => by simp at hx; unfold In64x; omega⟩
  · exact ⟨by decide, fun x hx => (by cases hx)⟩
theorem ex_wt : Wt64 exG.rules := fun r hr => by
  rcases ex_rules r hr with rfl | rfl | rfl | rfl <;> decide
theorem ex_right : RightOk (fun _ => true) exG := by
  refine ⟨by decide, by decide, by decide, by decide, ?_, ?_, ⟨ex_sorted, ?_, ?_⟩, ?_⟩
  · intro k x h
    match k, h with
    | 0, h => cases h; exact ⟨by decide, by decide⟩
    | 1, h => cases h; exact ⟨by decide, by decide⟩
    | k + 2, h => cases h
  · intro k x h
    match k, h with
    | 0, h => cases h; exact ⟨by decide, fun j y hj => by omega⟩
    | 1, h =>
      cases h
      refine ⟨by decide, fun j y hj hy => ?_⟩
      obtain rfl : j = 0 := by omega
      cases hy
      decide
    | k + 2, h => cases h
  · intro v hv
    have hv : v < 2 := hv
    match v, hv with
    | 0, _ => exact ⟨(0, [1, -2], 0), by decide, rfl⟩
    | 1, _ => exact ⟨(1, [0], 0), by decide, rfl⟩
    | v + 2, h => omega
  · intro k r h
    match k, h with
    | 0, h => cases h; exact ⟨by decide, by decide⟩
    | 1, h => cases h; exact ⟨by decide, by decide⟩
    | 2, h => cases h; exact ⟨by decide, by decide⟩
    | 3, h => cases h; exact ⟨by decide, by decide⟩
    | k + 4, h => cases h
  · intro t ht
    have ht : t < 2 := ht
    match t, ht with
    | 0, _ => decide
    | 1, _ => decide
    | t + 2, h => omega
theorem ex_same : SameG exG exG := ⟨rfl, rfl, rfl, fun k a b ha hb => by
  rw [ha] at hb
  cases hb
  exact ⟨rfl, rfl, rfl⟩⟩
theorem ex_print : printL exG exT exG.vars.length = [101, 32, 61, 32, 103, 49, 32, 39, 98, 39, 32, 124, 32, 37, 49, 46, 53, 32, 39, 97, 39, 32, 59, 10, 103, 49, 32, 61, 32, 101, 32, 124, 32, 59, 10] := by kernel_rfl
theorem ex_word1 : wordL exG.terms 0 [] (pieces ⟨#[32, 98, 32, 97, 32]⟩) = ([1, 0], -1) := by kernel_rfl
theorem ex_word2 : wordL exG.terms 0 [] (pieces ⟨#[98, 32, 99]⟩) = ([], 1) := by kernel_rfl
theorem ex_name : nameL exG (-1) = [39, 97, 39] := by kernel_rfl
theorem ex_from : fromR exG.rules 1 = 2 ∧ toR exG.rules 1 = 4 := ⟨by kernel_rfl, by kernel_rfl⟩
theorem no_right : ¬ RightOk (fun _ => true) gra0 := fun h => by have := h.v1; exact absurd this (by decide)
end Go.Proofs.YtldamieigigncaaGreatDoor.lx

namespace Go.Proofs.YtldamieigigncaaGreatDoor.lx
open Go.ChangeShapes Go.WideShapes Go.ChangeAt Go.RowKit Go.Proofs.YtldamieigigncaaGreatDoor.ky
set_option linter.unusedVariables false
set_option linter.unusedSimpArgs false
theorem word_of2 {t : Tok} (h : okT t) (r : List UInt8) (hf : t.kind = 4 ∨ folO r) : wordAt (fullT t ++ r) = .ok (t.kind, t.text, t.wt, (fullT t).length - 1) ∧ 1 ≤ (fullT t).length ∧ ∃ c y, fullT t = c :: y ∧ skipS false c = (false, false) := by
  rcases hf with hk | hf
  · obtain ⟨k, a, x, w⟩ := t
    have hk : k = 4 := hk
    subst hk
    rcases h with ⟨hk, _⟩ | ⟨hk, _⟩ | ⟨hk, _⟩ | ⟨_, hw, c, hc, hs⟩
    · have hk : 4 = 1 := hk
      omega
    · have hk : 4 = 2 := hk
      omega
    · have hk : 4 = 3 := hk
      omega
    · have hw : w = 0 := hw
      have hc : x = [c] := hc
      subst hw hc
      have hfull : fullT ⟨4, a, [c], 0⟩ = [c] := rfl
      rw [hfull]
      obtain ⟨g1, g2, g3, g4, _, _⟩ := sgn_not c hs
      refine ⟨?_, by simp, c, [], rfl, g4⟩
      rw [List.cons_append, word_cons, g1, g2, g3, hs]
      rfl
  · exact word_of h r hf
theorem fol_one (q : Pc) (y : List UInt8) (h : q.1.all blkB = true ∧ okT q.2) (h2 : sepO q) : folO (q.1 ++ fullT q.2 ++ y) := by
  intro c hc
  obtain ⟨b, t⟩ := q
  obtain ⟨hb, ht⟩ := h
  cases b with
  | cons d b =>
    have hb : (d :: b).all blkB = true := hb
    rw [List.all_cons, Bool.and_eq_true] at hb
    obtain rfl : d = c := by simpa using hc
    exact ⟨(blk_fol d hb.1).1, (blk_fol d hb.1).2.1⟩
  | nil =>
    rcases h2 with h3 | h3
    · exact absurd rfl h3
    · have h3 : t.kind = 4 := h3
      rcases ht with ⟨hk, _⟩ | ⟨hk, _⟩ | ⟨hk, _⟩ | ⟨hk, hw, d, hd, hs⟩
      · have hk : t.kind = 1 := hk
        omega
      · have hk : t.kind = 2 := hk
        omega
      · have hk : t.kind = 3 := hk
        omega
      · have hd : t.text = [d] := hd
        have e : fullT t = [d] := by unfold fullT; rw [if_neg (by omega), if_neg (by omega), hd]
        obtain rfl : d = c := by simpa [e] using hc
        obtain ⟨_, _, _, _, g1, g2⟩ := sgn_not d hs
        exact ⟨g1, g2⟩
def chP : List Pc → Prop
  | [] => True
  | [_] => True
  | p :: q :: r => (p.2.kind = 4 ∨ sepO q) ∧ chP (q :: r)
theorem lex_flat2 : ∀ (ps : List Pc) (P : List UInt8), (∀ p ∈ ps, p.1.all blkB = true ∧ okT p.2) → chP ps → ∃ us, lexA (P ++ flatP ps) (nxt (P ++ flatP ps) P.length) = (us, none) ∧ us.map er = ps.map (fun p => er p.2) ++ [⟨0, 0, [], 0⟩]
  | [], P, _, _ => by
    have e : nxt (P ++ flatP []) P.length = (P ++ flatP []).length := by
      unfold nxt
      rw [List.drop_left]
      simp [flatP, runN]
    rw [e]
    exact ⟨_, lexA_end _, rfl⟩
  | (b, t) :: ps, P, h, hch => by
    obtain ⟨hb, ht⟩ := h (b, t) List.mem_cons_self
    have hb : b.all blkB = true := hb
    have ht : okT t := ht
    have hp : ∀ p ∈ ps, p.1.all blkB = true ∧ okT p.2 := fun p hp => h p (List.mem_cons_of_mem _ hp)
    have hf : t.kind = 4 ∨ folO (flatP ps) := by
      cases ps with
      | nil => exact .inr (fun c hc => by simp [flatP] at hc)
      | cons q r =>
        rcases hch.1 with h1 | h1
        · exact .inl h1
        · refine .inr ?_
          have := fol_one q (flatP r) (hp q List.mem_cons_self) h1
          have e : flatP (q :: r) = q.1 ++ fullT q.2 ++ flatP r := rfl
          rw [e]
          exact this
    have hc2 : chP ps := by
      cases ps with
      | nil => trivial
      | cons q r => exact hch.2
    obtain ⟨w1, w2, c, y, w3, w4⟩ := word_of2 ht (flatP ps) hf
    have es : P ++ flatP ((b, t) :: ps) = (P ++ b) ++ (fullT t ++ flatP ps) := by simp [flatP]
    have es2 : P ++ flatP ((b, t) :: ps) = (P ++ b ++ fullT t) ++ flatP ps := by simp [flatP]
    have en : nxt (P ++ flatP ((b, t) :: ps)) P.length = (P ++ b).length := by
      unfold nxt
      rw [List.drop_left]
      have e3 : flatP ((b, t) :: ps) = b ++ (c :: (y ++ flatP ps)) := by
        show b ++ fullT t ++ flatP ps = _
        rw [w3]
        simp
      rw [e3, runN_blank b _ hb, runN_stop c _ w4]
      simp
    obtain ⟨us, hu, hm⟩ := lex_flat2 ps (P ++ b ++ fullT t) hp hc2
    rw [en]
    have hlt : (P ++ b).length < (P ++ flatP ((b, t) :: ps)).length := by
      have := congrArg List.length es
      simp only [List.length_append] at this ⊢
      omega
    have hd : (P ++ flatP ((b, t) :: ps)).drop (P ++ b).length = fullT t ++ flatP ps := by rw [es, List.drop_left]
    rw [lexA_ok _ _ t.kind t.wt ((fullT t).length - 1) t.text hlt (by rw [hd]; exact w1)]
    have e4 : (P ++ b).length + ((fullT t).length - 1) + 1 = (P ++ b ++ fullT t).length := by
      simp only [List.length_append]
      omega
    rw [e4, es2, hu]
    exact ⟨_, rfl, by simp [hm, er]⟩
theorem lex_written2 (ps : List Pc) (h : ∀ p ∈ ps, p.1.all blkB = true ∧ okT p.2) (h2 : chP ps) (hl : (flatP ps).length ≤ 65536) : ∃ us, lexAll (flatP ps) = (us, 0, 0) ∧ us.map er = ps.map (fun p => er p.2) ++ [⟨0, 0, [], 0⟩] := by
  obtain ⟨us, h3, h4⟩ := lex_flat2 ps [] h h2
  refine ⟨us, ?_, h4⟩
  unfold lexAll
  rw [if_neg (by omega)]
  have h3 : lexA (flatP ps) (nxt (flatP ps) 0) = (us, none) := h3
  rw [h3]
theorem er_at {u t : Tok} (h : er u = t) : u = ⟨t.kind, u.at_, t.text, t.wt⟩ := by subst h; rfl
end Go.Proofs.YtldamieigigncaaGreatDoor.lx

