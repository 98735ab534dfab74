import Derived.Test.YtkhflfkedpkelaaGreatDoorFnq
namespace Go.Proofs.YtkhflfkedpkelaaGreatDoor.lx
open Ieee Go.Proofs.YtkhflfkedpkelaaGreatDoor.flo Go.Proofs.YtkhflfkedpkelaaGreatDoor.fm Go.Proofs.YtkhflfkedpkelaaGreatDoor.ky
set_option linter.unusedVariables false
/-! the shortest text, read again -/
theorem dg46 {c : UInt8} (h : digB c = true) : (c != 46) = true := by
  rw [bne_iff_ne]
  rintro rfl
  revert h
  decide
theorem dg45 {c : UInt8} (h : digB c = true) : c ≠ 45 := by
  rintro rfl
  revert h
  decide
theorem hd_all : ∀ (H : List UInt8), (∀ c ∈ H, digB c = true) → ∀ r, (∀ c q, r = c :: q → c = 46) → headD (H ++ r) = H ∧ tailD (H ++ r) = r.tail ∧ dotB (H ++ r) = dotB r
  | [], _, r, hr => by
    cases r with
    | nil => exact ⟨rfl, rfl, rfl⟩
    | cons c q =>
      have := hr c q rfl
      subst this
      exact ⟨rfl, rfl, rfl⟩
  | c :: H, h, r, hr => by
    obtain ⟨i1, i2, i3⟩ := hd_all H (fun d hd => h d (List.mem_cons_of_mem _ hd)) r hr
    have hc := dg46 (h c (List.mem_cons_self ..))
    refine ⟨?_, ?_, ?_⟩
    · unfold headD at i1 ⊢
      rw [List.cons_append, List.takeWhile_cons_of_pos (p := fun c => c != 46) hc, i1]
    · unfold tailD at i2 ⊢
      rw [List.cons_append, List.dropWhile_cons_of_pos (p := fun c => c != 46) hc, i2]
    · unfold dotB at i3 ⊢
      rw [List.cons_append, List.contains_cons, i3]
      have : (46 == c) = false := by
        rw [beq_eq_false_iff_ne]
        rintro rfl
        simp at hc
      rw [this, Bool.false_or]
theorem strip_of (neg : Bool) (H r : List UInt8) (h1 : 1 ≤ H.length) (hH : ∀ c ∈ H, digB c = true) : strip ((if neg then [45] else []) ++ (H ++ r)) = H ++ r ∧ ((((if neg then [45] else []) ++ (H ++ r)) : List UInt8).head? == some 45) = neg := by
  cases H with
  | nil => simp at h1
  | cons c H =>
    have hc := dg45 (hH c (List.mem_cons_self ..))
    cases neg
    · unfold strip
      simp [hc]
    · unfold strip
      simp
theorem stripZ_mem {P : List UInt8} (h : ∀ c ∈ P, digB c = true) : ∀ c ∈ stripZ P, digB c = true := fun c hc => h c (by
  rw [(strip_eq P).1]
  exact List.mem_append_left _ hc)
theorem digs_yes {l : List UInt8} {m : Nat} (h1 : 1 ≤ l.length) (h2 : l.length ≤ m) (h3 : ∀ c ∈ l, digB c = true) : digsB l m = true := by
  unfold digsB
  rw [decide_eq_true h1, decide_eq_true h2, List.all_eq_true.2 h3]
  rfl
theorem dec_digB {l : List UInt8} (h : decB l = true) : (∀ c ∈ headD (strip l), digB c = true) ∧ (∀ c ∈ tailD (strip l), digB c = true) ∧ 1 ≤ (headD (strip l)).length ∧ (headD (strip l)).length ≤ 9 ∧ (tailD (strip l)).length ≤ 6 ∧ (!(decide (1 < (headD (strip l)).length) && (headD (strip l)).head? == some 48)) = true := by
  unfold decB at h
  simp only [Bool.and_eq_true, Bool.or_eq_true] at h
  obtain ⟨⟨h1, h2⟩, h3⟩ := h
  obtain ⟨a1, a2, a3⟩ := digs_ofB h1
  refine ⟨a3, ?_, a1, a2, ?_, h2⟩
  · rcases h3 with h3 | h3
    · rw [no_dot _ (by simpa using h3)]
      intro c hc
      simp at hc
    · exact (digs_ofB h3).2.2
  · rcases h3 with h3 | h3
    · rw [no_dot _ (by simpa using h3)]
      exact Nat.zero_le _
    · exact (digs_ofB h3).2.1
/-- the shortest text is a weight's, of the same weight, is its own shortest one, and no longer -/
theorem back (l : List UInt8) (h : decB l = true) : decB (shortL l) = true ∧ decF (shortL l) = decF l ∧ shortL (shortL l) = shortL l := by
  obtain ⟨hH, hP, h1, h9, h6, hz⟩ := dec_digB h
  obtain ⟨hdH, hdP, _, _, _, _⟩ := dec_parts h
  unfold shortL
  rw [if_pos h]
  have hdF : decF l = wt (l.head? == some 45) (val (headD (strip l) ++ tailD (strip l))) (tailD (strip l)).length := rfl
  rw [hdF]
  generalize (l.head? == some 45) = neg at *
  generalize headD (strip l) = H at *
  generalize tailD (strip l) = P at *
  clear h hdF
  obtain ⟨Q, hQ⟩ : ∃ Q, stripZ P = Q := ⟨_, rfl⟩
  have hQd := stripZ_mem hP
  obtain ⟨e1, e2⟩ := strip_eq P
  have e3 := strip_idem P
  rw [hQ] at hQd e1 e2 e3
  have hform : shortB neg H P = (if neg then [45] else []) ++ (H ++ (if Q = [] then [] else 46 :: Q)) := by
    unfold shortB
    rw [hQ, List.append_assoc]
  rw [hform]
  obtain ⟨r, hr⟩ : ∃ r : List UInt8, r = (if Q = [] then [] else 46 :: Q) := ⟨_, rfl⟩
  rw [← hr]
  have hrc : ∀ c q, r = c :: q → c = 46 := fun c q e => by
    rw [hr] at e
    split at e
    · cases e
    · injection e with e _
      exact e.symm
  obtain ⟨s1, s2⟩ := strip_of neg H r h1 hH
  obtain ⟨t1, t2, t3⟩ := hd_all H hH r hrc
  have t2' : r.tail = Q := by
    rw [hr]
    split
    · rename_i hq; rw [hq]; rfl
    · rfl
  rw [t2'] at t2
  have hdec : decB ((if neg then [45] else []) ++ (H ++ r)) = true := by
    unfold decB
    rw [s1, t1, t2, t3, digs_yes h1 h9 hH, hz]
    by_cases hq : Q = []
    · rw [hr, if_pos hq]
      rfl
    · rw [digs_yes (len_pos hq) (by omega) hQd]
      simp
  refine ⟨hdec, ?_, ?_⟩
  · unfold decF
    rw [s1, s2, t1, t2]
    -- the weight
    obtain ⟨z, hzl⟩ : ∃ z, P.length - Q.length = z := ⟨_, rfl⟩
    rw [hzl] at e1
    have hPl : P.length = Q.length + z := by omega
    have hval : val (H ++ P) = val (H ++ Q) * 10 ^ z := by
      rw [← valL_val, ← valL_val, e1, ← List.append_assoc, valL_zeros]
    rw [hval, hPl]
    rcases Nat.eq_zero_or_pos (val (H ++ Q)) with h0 | h0
    · rw [h0, Nat.zero_mul, wt_nought neg _ (by omega), wt_nought neg _ (by omega)]
    · have hHl := valL_lt H hdH
      have hQl := valL_lt Q (digL_of hQd)
      have hPl2 := valL_lt P hdP
      have hapQ := valL_app H Q
      have hapP := valL_app H P
      have hposQ : 0 < 10 ^ Q.length := Nat.pow_pos (by decide)
      have hposP : 0 < 10 ^ P.length := Nat.pow_pos (by decide)
      have h9p : 10 ^ H.length ≤ 10 ^ 9 := Nat.pow_le_pow_right (by decide) h9
      have e9 : (10 : Nat) ^ 9 = 1000000000 := by decide
      have h6p : 10 ^ P.length ≤ 10 ^ 6 := Nat.pow_le_pow_right (by decide) h6
      have e6 : (10 : Nat) ^ 6 = 1000000 := by decide
      have hvQ : val (H ++ Q) < 1000000000 * 10 ^ Q.length := by
        rw [← valL_val, hapQ]
        have : (valL H + 1) * 10 ^ Q.length ≤ 1000000000 * 10 ^ Q.length := Nat.mul_le_mul_right _ (by omega)
        rw [Nat.add_mul] at this
        omega
      have hvP : val (H ++ P) < 1000000000000000 := by
        rw [← valL_val, hapP]
        have : (valL H + 1) * 10 ^ P.length ≤ 1000000000 * 10 ^ P.length := Nat.mul_le_mul_right _ (by omega)
        rw [Nat.add_mul] at this
        omega
      rw [hval] at hvP
      exact (wt_scale neg _ Q.length z h0 hvP (by omega) hvQ).symm
  · rw [if_pos hdec]
    rw [s2, s1, t1, t2]
    unfold shortB
    rw [e3, hr, List.append_assoc]
theorem short_len (l : List UInt8) : (shortL l).length ≤ l.length := by
  unfold shortL
  split
  · rename_i h
    obtain ⟨hH, hP, h1, h9, h6, hz⟩ := dec_digB h
    have hl : l.length = (if (l.head? == some 45) then 1 else 0) + (strip l).length := by
      unfold strip
      cases l with
      | nil => rfl
      | cons c l =>
        by_cases hc : c = 45
        · subst hc; simp; omega
        · simp [hc]
    have hj : (strip l).length = (headD (strip l)).length + (if dotB (strip l) = true then 1 + (tailD (strip l)).length else 0) := by
      have := cut_join (strip l)
      have h2 := congrArg List.length this
      rw [List.length_append] at h2
      rw [h2]
      by_cases hd : dotB (strip l) = true
      · rw [if_pos hd, if_pos hd, List.length_cons]; omega
      · rw [if_neg hd, if_neg hd]; rfl
    have hs := (strip_eq (tailD (strip l))).2
    unfold shortB
    rw [List.length_append, List.length_append]
    have hn : ((if (l.head? == some 45) then [45] else [] : List UInt8)).length = (if (l.head? == some 45) then 1 else 0) := by split <;> rfl
    rw [hn, hl, hj]
    by_cases hq : stripZ (tailD (strip l)) = []
    · rw [if_pos hq]
      simp only [List.length_nil]
      omega
    · rw [if_neg hq, List.length_cons]
      have hd : dotB (strip l) = true := by
        by_cases hd : dotB (strip l) = true
        · exact hd
        · exfalso
          have := no_dot (strip l) (by simpa using hd)
          rw [this] at hq
          exact hq rfl
      rw [if_pos hd]
      omega
  · exact Nat.le_refl _
end Go.Proofs.YtkhflfkedpkelaaGreatDoor.lx
