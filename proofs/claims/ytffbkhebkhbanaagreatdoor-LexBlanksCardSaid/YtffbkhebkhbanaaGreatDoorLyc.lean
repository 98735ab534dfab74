import Derived.Test.YtffbkhebkhbanaaGreatDoorLxp
namespace Go.Proofs.YtffbkhebkhbanaaGreatDoor.lx
open Go.ChangeShapes Go.WideShapes Go.ChangeAt Go.RowKit
set_option linter.unusedVariables false
/-! a text whose words stand between other blanks -/
def full (t : Tok) : List UInt8 := if t.kind = 2 then 39 :: (t.text ++ [39]) else if t.kind = 3 then 37 :: t.text else t.text
theorem runP_take (p : UInt8 → Bool) (d : UInt8) (hd : p d = false) (y : List UInt8) : ∀ r : List UInt8, runP p (r.take (runP p r) ++ d :: y) = runP p r
  | [] => by
    unfold runP
    simp [hd]
  | c :: r => by
    have ih := runP_take p d hd y r
    by_cases h : p c = true
    · have e : runP p (c :: r) = runP p r + 1 := by
        unfold runP
        rw [List.takeWhile_cons, if_pos h, List.length_cons]
      rw [e, List.take_succ_cons, List.cons_append]
      have e2 : ∀ z, runP p (c :: z) = runP p z + 1 := fun z => by
        unfold runP
        rw [List.takeWhile_cons, if_pos h, List.length_cons]
      rw [e2, ih]
    · have e : ∀ z, runP p (c :: z) = 0 := fun z => by
        unfold runP
        rw [List.takeWhile_cons, if_neg h]
        rfl
      rw [e, List.take_zero, List.nil_append]
      unfold runP
      rw [List.takeWhile_cons, if_neg (by simp [hd])]
      rfl
theorem blk_no (d : UInt8) (h : blkB d = true) : namB d = false ∧ wgtB d = false := by
  have h' : d = 32 ∨ d = 9 ∨ d = 13 ∨ d = 10 := by
    unfold blkB at h
    simpa [or_assoc] using h
  rcases h' with rfl | rfl | rfl | rfl <;> decide
theorem run_lt (p : UInt8 → Bool) (r : List UInt8) : (r.take (runP p r)).length = runP p r := by
  rw [List.length_take]
  have := runP_le p r
  omega
theorem take_all {r : List UInt8} {n : Nat} (h : (r.take n).length = n) (z : List UInt8) : (r.take n ++ z).take n = r.take n := by
  rw [List.take_append_of_le_length (by omega), List.take_of_length_le (by omega)]
theorem drop_all {r : List UInt8} {n : Nat} (h : (r.take n).length = n) (z : List UInt8) : (r.take n ++ z).drop n = z := by
  rw [List.drop_append_of_le_length (by omega), List.drop_eq_nil_of_le (by omega), List.nil_append]
theorem head_drop {r : List UInt8} {m : Nat} (h : (r.drop m).head? = some 39) : r.take (m + 1) = r.take m ++ [39] := by
  rw [List.take_add_one]
  congr 1
  rw [List.head?_drop] at h
  rw [h]
  rfl
/-- a word by itself, with a blank behind it -/
theorem word_full {l : List UInt8} {k w n : Nat} {t : List UInt8} (h : wordAt l = .ok (k, t, w, n)) (d : UInt8) (hd : blkB d = true) (y : List UInt8) (a : Nat) : full ⟨k, a, t, w⟩ = l.take (n + 1) ∧ wordAt (l.take (n + 1) ++ d :: y) = .ok (k, t, w, n) ∧ (1 ≤ k ∧ k ≤ 4) ∧ (k ≠ 3 → w = 0) := by
  cases l with
  | nil => cases h
  | cons c r =>
    rw [word_cons] at h
    obtain ⟨d1, d2⟩ := blk_no d hd
    by_cases h1 : letB c = true
    · rw [if_pos h1] at h
      by_cases h2 : runP namB r + 1 ≤ 24
      · rw [if_pos h2] at h
        cases h
        refine ⟨rfl, ?_, by decide, fun _ => rfl⟩
        rw [List.take_succ_cons, List.cons_append, word_cons, if_pos h1, runP_take namB d d1, if_pos h2, List.take_succ_cons, take_all (run_lt _ _)]
      · rw [if_neg h2] at h
        cases h
    · rw [if_neg h1] at h
      by_cases h3 : (c == 39) = true
      · rw [if_pos h3] at h
        by_cases h4 : runP quoB r = 0 ∨ (r.drop (runP quoB r)).head? ≠ some 39
        · rw [if_pos h4] at h
          cases h
        · rw [if_neg h4] at h
          by_cases h5 : runP quoB r ≤ 16
          · rw [if_pos h5] at h
            cases h
            have h6 : (r.drop (runP quoB r)).head? = some 39 := by
              by_cases h7 : (r.drop (runP quoB r)).head? = some 39
              · exact h7
              · exact absurd (.inr h7) h4
            have hc : c = 39 := by simpa using h3
            subst hc
            have hh := head_drop h6
            refine ⟨?_, ?_, by decide, fun _ => rfl⟩
            · rw [List.take_succ_cons, hh]
              rfl
            · have e : r.take (runP quoB r) ++ [39] ++ d :: y = r.take (runP quoB r) ++ 39 :: (d :: y) := by simp
              rw [List.take_succ_cons, hh, List.cons_append, e, word_cons, if_neg (by decide), if_pos (by decide), runP_take quoB 39 (by decide), drop_all (run_lt _ _), take_all (run_lt _ _), if_neg (by
                rintro (h7 | h7)
                · exact h4 (.inl h7)
                · exact h7 rfl), if_pos h5]
          · rw [if_neg h5] at h
            cases h
      · rw [if_neg h3] at h
        by_cases h6 : (c == 37) = true
        · rw [if_pos h6] at h
          by_cases h7 : readOk (r.take (runP wgtB r)) = true
          · rw [if_pos h7] at h
            cases h
            have hc : c = 37 := by simpa using h6
            subst hc
            refine ⟨by rw [List.take_succ_cons]; rfl, ?_, by decide, fun h => absurd rfl h⟩
            rw [List.take_succ_cons, List.cons_append, word_cons, if_neg (by decide), if_neg (by decide), if_pos (by decide), runP_take wgtB d d2, take_all (run_lt _ _), if_pos h7]
          · rw [if_neg h7] at h
            cases h
        · rw [if_neg h6] at h
          by_cases h8 : sgnB c = true
          · rw [if_pos h8] at h
            cases h
            refine ⟨by rw [List.take_succ_cons]; rfl, ?_, by decide, fun _ => rfl⟩
            rw [List.take_succ_cons, List.take_zero, List.cons_append, List.nil_append, word_cons, if_neg h1, if_neg h3, if_neg h6, if_pos h8]
          · rw [if_neg h8] at h
            cases h
theorem word_head {l : List UInt8} {k w n : Nat} {t : List UInt8} (h : wordAt l = .ok (k, t, w, n)) (r : List UInt8) : runN skipS false (l.take (n + 1) ++ r) = 0 := by
  cases l with
  | nil => cases h
  | cons c l =>
    have hc : blkB c = false ∧ (c == 35) = false := by
      have h' : ¬ (c = 32 ∨ c = 9 ∨ c = 13 ∨ c = 10 ∨ c = 35) := by
        rw [word_cons] at h
        rintro (rfl | rfl | rfl | rfl | rfl)
        all_goals
          rw [if_neg (by decide), if_neg (by decide), if_neg (by decide), if_neg (by decide)] at h
          cases h
      constructor
      · cases hb : blkB c
        · rfl
        · unfold blkB at hb
          exact absurd (by
            have : c = 32 ∨ c = 9 ∨ c = 13 ∨ c = 10 := by simpa [or_assoc] using hb
            rcases this with rfl | rfl | rfl | rfl <;> simp) h'
      · rw [beq_eq_false_iff_ne]
        rintro rfl
        exact h' (by simp)
    rw [List.take_succ_cons, List.cons_append]
    show (if (skipS false c).1 = true then _ else 0) = 0
    unfold skipS
    rw [if_neg (by simp [hc.1, hc.2])]
/-- what stands between: the n-th of four -/
def sepL (n : Nat) : List UInt8 := if n = 0 then [32] else if n = 1 then [10] else if n = 2 then [9, 35, 32, 120, 32, 39, 10] else [13]
theorem sep_cases (n : Nat) : sepL n = [32] ∨ sepL n = [10] ∨ sepL n = [9, 35, 32, 120, 32, 39, 10] ∨ sepL n = [13] := by
  unfold sepL
  split
  · exact .inl rfl
  · split
    · exact .inr (.inl rfl)
    · split
      · exact .inr (.inr (.inl rfl))
      · exact .inr (.inr (.inr rfl))
theorem sep_len (n : Nat) : 1 ≤ (sepL n).length ∧ (sepL n).length ≤ 7 := by
  rcases sep_cases n with h | h | h | h <;> rw [h] <;> decide
theorem sep_blank (n : Nat) : ∃ d z, sepL n = d :: z ∧ blkB d = true := by
  rcases sep_cases n with h | h | h | h <;> rw [h] <;> exact ⟨_, _, rfl, by decide⟩
theorem skip_cons (r : Bool) (c : UInt8) (l : List UInt8) (b : Bool) (h : skipS r c = (true, b)) : runN skipS r (c :: l) = runN skipS b l + 1 := by
  show (if (skipS r c).1 = true then runN skipS (skipS r c).2 l + 1 else 0) = _
  rw [h]
  rfl
theorem skip_sep (n : Nat) (r : List UInt8) (hr : runN skipS false r = 0) : runN skipS false (sepL n ++ r) = (sepL n).length := by
  rcases sep_cases n with h | h | h | h <;> rw [h]
  · rw [List.cons_append, List.nil_append, skip_cons _ _ _ false (by decide), hr]; rfl
  · rw [List.cons_append, List.nil_append, skip_cons _ _ _ false (by decide), hr]; rfl
  · simp only [List.cons_append, List.nil_append]
    rw [skip_cons _ _ _ false (by decide), skip_cons _ _ _ true (by decide), skip_cons _ _ _ true (by decide), skip_cons _ _ _ true (by decide), skip_cons _ _ _ true (by decide), skip_cons _ _ _ true (by decide), skip_cons _ _ _ false (by decide), hr]; rfl
  · rw [List.cons_append, List.nil_append, skip_cons _ _ _ false (by decide), hr]; rfl
def dress (q : Nat → Nat) : Nat → List Tok → List UInt8
  | _, [] => []
  | k, t :: ts => sepL (q k) ++ (full t ++ dress q (k + 1) ts)
theorem dress_snoc (q : Nat → Nat) (t : Tok) : ∀ (ts : List Tok) (k : Nat), dress q k (ts ++ [t]) = dress q k ts ++ (sepL (q (k + ts.length)) ++ full t)
  | [], k => by simp [dress]
  | u :: ts, k => by
    have ih := dress_snoc q t ts (k + 1)
    show sepL (q k) ++ (full u ++ dress q (k + 1) (ts ++ [t])) = sepL (q k) ++ (full u ++ dress q (k + 1) ts) ++ _
    rw [ih, show k + 1 + ts.length = k + (u :: ts).length from by simp; omega]
    simp
def key (t : Tok) : Nat × List UInt8 × Nat := (t.kind, t.text, t.wt)
/-- the words, each at its place -/
def okay (s : List UInt8) : List Tok → Prop
  | [] => True
  | t :: r => (t.at_ ≤ (r.head?.map Tok.at_).getD s.length ∧ (t.kind = 0 → t.at_ = s.length ∧ r = []) ∧ t.at_ + (full t).length ≤ s.length ∧ (s.drop t.at_).take (full t).length = full t ∧ t.kind ≤ 4) ∧ okay s r
theorem lexA_head (s : List UInt8) (k : Nat) (hk : k ≤ s.length) {ts : List Tok} (h : lexA s k = (ts, none)) : ∃ t r, ts = t :: r ∧ t.at_ = k := by
  by_cases hlt : k < s.length
  · cases hx : wordAt (s.drop k) with
    | error e =>
      rw [lexA_error _ _ e hlt hx] at h
      cases h
    | ok x =>
      obtain ⟨kd, t, w, n⟩ := x
      rw [lexA_ok _ _ kd w n t hlt hx] at h
      exact ⟨_, _, (congrArg Prod.fst h).symm, rfl⟩
  · rw [lexA, dif_neg hlt] at h
    exact ⟨_, _, (congrArg Prod.fst h).symm, rfl⟩
theorem lex_okay (s : List UInt8) : ∀ (m k : Nat), s.length - k < m → k ≤ s.length → ∀ ts, lexA s k = (ts, none) → okay s ts
  | 0, k, h, _, _, _ => by omega
  | m + 1, k, h, hk, ts, hts => by
    by_cases hlt : k < s.length
    · cases hx : wordAt (s.drop k) with
      | error e =>
        rw [lexA_error _ _ e hlt hx] at hts
        cases hts
      | ok x =>
        obtain ⟨kd, t, w, n⟩ := x
        have hn := word_n hx
        rw [List.length_drop] at hn
        have hg := nxt_ge s (k + n + 1)
        have hle := nxt_le s (k + n + 1) (by omega)
        obtain ⟨f1, _, f2, f3⟩ := word_full hx 32 (by decide) [] k
        rw [lexA_ok _ _ kd w n t hlt hx] at hts
        rcases hy : lexA s (nxt s (k + n + 1)) with ⟨us, f⟩
        rw [hy] at hts
        obtain rfl : f = none := congrArg Prod.snd hts
        obtain rfl : ⟨kd, k, t, w⟩ :: us = ts := congrArg Prod.fst hts
        obtain ⟨u, r, rfl, hu⟩ := lexA_head s _ hle hy
        have hl : (full ⟨kd, k, t, w⟩).length = n + 1 := by
          rw [f1, List.length_take, List.length_drop]
          omega
        refine ⟨⟨?_, fun h0 => ?_, ?_, ?_, f2.2⟩, lex_okay s m _ (by omega) hle _ hy⟩
        · show k ≤ u.at_
          omega
        · exact absurd h0 (by show ¬ kd = 0; omega)
        · rw [hl]
          show k + (n + 1) ≤ _
          omega
        · rw [hl]
          exact f1.symm
    · obtain rfl : k = s.length := by omega
      rw [lexA_end] at hts
      obtain rfl : [⟨0, s.length, [], 0⟩] = ts := congrArg Prod.fst hts
      refine ⟨⟨Nat.le_refl _, fun _ => ⟨rfl, rfl⟩, ?_, ?_, Nat.zero_le _⟩, trivial⟩
      · show s.length + 0 ≤ _
        omega
      · rfl
theorem okay_at (s : List UInt8) : ∀ (ts : List Tok) (k : Nat), okay s ts → k < ts.length → (ts.getD k ⟨0, 0, [], 0⟩).at_ ≤ (if k + 1 < ts.length then (ts.getD (k + 1) ⟨0, 0, [], 0⟩).at_ else s.length) ∧ ((ts.getD k ⟨0, 0, [], 0⟩).kind = 0 → (ts.getD k ⟨0, 0, [], 0⟩).at_ = s.length ∧ k + 1 = ts.length) ∧ (ts.getD k ⟨0, 0, [], 0⟩).at_ + (full (ts.getD k ⟨0, 0, [], 0⟩)).length ≤ s.length ∧ (s.drop (ts.getD k ⟨0, 0, [], 0⟩).at_).take (full (ts.getD k ⟨0, 0, [], 0⟩)).length = full (ts.getD k ⟨0, 0, [], 0⟩) ∧ (ts.getD k ⟨0, 0, [], 0⟩).kind ≤ 4
  | [], k, _, h => by simp at h
  | [t], 0, ⟨⟨h1, h2, h3⟩, h4⟩, h => ⟨h1, fun h0 => ⟨(h2 h0).1, rfl⟩, h3⟩
  | t :: u :: ts, 0, ⟨⟨h1, h2, h3⟩, h4⟩, h => ⟨by simpa using h1, fun h0 => absurd (h2 h0).2 (by simp), h3⟩
  | [t], k + 1, _, h => by simp at h
  | t :: u :: ts, k + 1, ⟨_, h4⟩, h => by
    have := okay_at s (u :: ts) k h4 (by simpa using h)
    simpa using this
theorem dress_max (q : Nat → Nat) (s : List UInt8) : ∀ (m k j : Nat), s.length - k < m → k ≤ s.length → ∀ ts, lexA s k = (ts, none) → (dress q j ts).length ≤ 8 * (s.length - k) + 7
  | 0, k, j, h, _, _, _ => by omega
  | m + 1, k, j, h, hk, ts, hts => by
    have hsl := (sep_len (q j)).2
    by_cases hlt : k < s.length
    · cases hx : wordAt (s.drop k) with
      | error e =>
        rw [lexA_error _ _ e hlt hx] at hts
        cases hts
      | ok x =>
        obtain ⟨kd, t, w, n⟩ := x
        have hn := word_n hx
        rw [List.length_drop] at hn
        have hg := nxt_ge s (k + n + 1)
        have hle := nxt_le s (k + n + 1) (by omega)
        obtain ⟨f1, _, f2, f3⟩ := word_full hx 32 (by decide) [] k
        rw [lexA_ok _ _ kd w n t hlt hx] at hts
        rcases hy : lexA s (nxt s (k + n + 1)) with ⟨us, f⟩
        rw [hy] at hts
        obtain rfl : f = none := congrArg Prod.snd hts
        obtain rfl : ⟨kd, k, t, w⟩ :: us = ts := congrArg Prod.fst hts
        have ih := dress_max q s m _ (j + 1) (by omega) hle _ hy
        have hl : (full ⟨kd, k, t, w⟩).length = n + 1 := by
          rw [f1, List.length_take, List.length_drop]
          omega
        show (sepL (q j) ++ (full ⟨kd, k, t, w⟩ ++ dress q (j + 1) us)).length ≤ _
        rw [List.length_append, List.length_append, hl]
        omega
    · obtain rfl : k = s.length := by omega
      rw [lexA_end] at hts
      obtain rfl : [⟨0, s.length, [], 0⟩] = ts := congrArg Prod.fst hts
      show (sepL (q j) ++ ([] ++ [])).length ≤ _
      simp
      omega
def bare (q : Nat → Nat) (j : Nat) : List Tok → List UInt8
  | [] => []
  | t :: ts => full t ++ dress q (j + 1) ts
theorem dress_bare (q : Nat → Nat) (j : Nat) (t : Tok) (ts : List Tok) : dress q j (t :: ts) = sepL (q j) ++ bare q j (t :: ts) := rfl
theorem bare_head (q : Nat → Nat) (j : Nat) (s : List UInt8) (k : Nat) (hk : k ≤ s.length) {ts : List Tok} (h : lexA s k = (ts, none)) : runN skipS false (bare q j ts) = 0 := by
  by_cases hlt : k < s.length
  · cases hx : wordAt (s.drop k) with
    | error e =>
      rw [lexA_error _ _ e hlt hx] at h
      cases h
    | ok x =>
      obtain ⟨kd, t, w, n⟩ := x
      rw [lexA_ok _ _ kd w n t hlt hx] at h
      obtain rfl : _ = ts := congrArg Prod.fst h
      show runN skipS false (full _ ++ _) = 0
      rw [(word_full hx 32 (by decide) [] k).1]
      exact word_head hx _
  · obtain rfl : k = s.length := by omega
    rw [lexA_end] at h
    obtain rfl : _ = ts := congrArg Prod.fst h
    rfl
theorem lex_bare (q : Nat → Nat) (s : List UInt8) : ∀ (m k j : Nat), s.length - k < m → k ≤ s.length → ∀ ts, lexA s k = (ts, none) → ∀ P : List UInt8, ∃ us, lexA (P ++ bare q j ts) P.length = (us, none) ∧ us.map key = ts.map key
  | 0, k, j, h, _, _, _, _ => by omega
  | m + 1, k, j, h, hk, ts, hts, P => by
    by_cases hlt : k < s.length
    · cases hx : wordAt (s.drop k) with
      | error e =>
        rw [lexA_error _ _ e hlt hx] at hts
        cases hts
      | ok x =>
        obtain ⟨kd, t, w, n⟩ := x
        have hn := word_n hx
        rw [List.length_drop] at hn
        have hg := nxt_ge s (k + n + 1)
        have hle := nxt_le s (k + n + 1) (by omega)
        rw [lexA_ok _ _ kd w n t hlt hx] at hts
        rcases hy : lexA s (nxt s (k + n + 1)) with ⟨us, f⟩
        rw [hy] at hts
        obtain rfl : f = none := congrArg Prod.snd hts
        obtain rfl : ⟨kd, k, t, w⟩ :: us = ts := congrArg Prod.fst hts
        obtain ⟨u, r, rfl, hu⟩ := lexA_head s _ hle hy
        have hb := bare_head q (j + 1) s _ hle hy
        obtain ⟨d, z, hd, hdb⟩ := sep_blank (q (j + 1))
        obtain ⟨f1, f2, f3, f4⟩ := word_full hx d hdb (z ++ bare q (j + 1) (u :: r)) k
        have hl : (full ⟨kd, k, t, w⟩).length = n + 1 := by
          rw [f1, List.length_take, List.length_drop]
          omega
        have eb : bare q j (⟨kd, k, t, w⟩ :: u :: r) = full ⟨kd, k, t, w⟩ ++ (sepL (q (j + 1)) ++ bare q (j + 1) (u :: r)) := rfl
        have hw : wordAt ((P ++ bare q j (⟨kd, k, t, w⟩ :: u :: r)).drop P.length) = .ok (kd, t, w, n) := by
          rw [List.drop_left, eb, hd, f1]
          exact f2
        have hD : P.length < (P ++ bare q j (⟨kd, k, t, w⟩ :: u :: r)).length := by
          rw [eb, List.length_append, List.length_append, hl]
          omega
        have hP : P ++ bare q j (⟨kd, k, t, w⟩ :: u :: r) = (P ++ full ⟨kd, k, t, w⟩ ++ sepL (q (j + 1))) ++ bare q (j + 1) (u :: r) := by
          rw [eb]
          simp
        have hN : nxt (P ++ bare q j (⟨kd, k, t, w⟩ :: u :: r)) (P.length + n + 1) = (P ++ full ⟨kd, k, t, w⟩ ++ sepL (q (j + 1))).length := by
          unfold nxt
          rw [show P.length + n + 1 = (P ++ full ⟨kd, k, t, w⟩).length from by rw [List.length_append, hl]; omega]
          rw [show P ++ bare q j (⟨kd, k, t, w⟩ :: u :: r) = (P ++ full ⟨kd, k, t, w⟩) ++ (sepL (q (j + 1)) ++ bare q (j + 1) (u :: r)) from by rw [eb]; simp]
          rw [List.drop_left, skip_sep _ _ hb, @List.length_append _ (P ++ full ⟨kd, k, t, w⟩)]
        obtain ⟨vs, g1, g2⟩ := lex_bare q s m _ (j + 1) (by omega) hle _ hy (P ++ full ⟨kd, k, t, w⟩ ++ sepL (q (j + 1)))
        refine ⟨⟨kd, P.length, t, w⟩ :: vs, ?_, ?_⟩
        · rw [lexA_ok _ _ kd w n t hD hw, hN, hP, g1]
        · rw [List.map_cons, List.map_cons, g2]
          rfl
    · obtain rfl : k = s.length := by omega
      rw [lexA_end] at hts
      obtain rfl : [⟨0, s.length, [], 0⟩] = ts := congrArg Prod.fst hts
      refine ⟨[⟨0, P.length, [], 0⟩], ?_, rfl⟩
      show lexA (P ++ ([] ++ [])) P.length = _
      rw [List.append_nil, List.append_nil, lexA_end]
/-- a text and the same one in other dress -/
theorem lex_blanks (s : List UInt8) (hs : s.length ≤ 600) : (∃ e k, (1 ≤ e ∧ k < s.length) ∧ lexAll s = ([], e, k)) ∨ ∃ x, (x ≠ [] ∧ x.length ≤ s.length + 1 ∧ ∀ t ∈ x, t.at_ ≤ s.length) ∧ lexAll s = (x, 0, 0) ∧ okay s x ∧ ∀ q, (dress q 0 x).length ≤ 8 * s.length + 7 ∧ ∃ y, lexAll (dress q 0 x) = (y, 0, 0) ∧ y.map key = x.map key := by
  have na := lex_ne s _ (nxt s 0) (Nat.lt_succ_self _)
  rcases hA : lexA s (nxt s 0) with ⟨x, f⟩
  rw [hA] at na
  have hs0 := nxt_le s 0 (Nat.zero_le _)
  cases f with
  | some f =>
    obtain ⟨e, k⟩ := f
    refine .inl ⟨e, k, err_ge s hA, ?_⟩
    unfold lexAll
    rw [if_neg (by omega), hA]
  | none =>
    refine .inr ⟨x, ⟨na rfl, ok_ge s hA⟩, ?_, lex_okay s _ _ (Nat.lt_succ_self _) hs0 _ hA, fun q => ?_⟩
    · unfold lexAll
      rw [if_neg (by omega), hA]
    · have hm := dress_max q s _ (nxt s 0) 0 (Nat.lt_succ_self _) hs0 _ hA
      refine ⟨by omega, ?_⟩
      obtain ⟨t, r, rfl, ht⟩ := lexA_head s _ hs0 hA
      have hb := bare_head q 0 s _ hs0 hA
      obtain ⟨y, g1, g2⟩ := lex_bare q s _ (nxt s 0) 0 (Nat.lt_succ_self _) hs0 _ hA (sepL (q 0))
      refine ⟨y, ?_, g2⟩
      have hN : nxt (dress q 0 (t :: r)) 0 = (sepL (q 0)).length := by
        unfold nxt
        rw [List.drop_zero, dress_bare, skip_sep _ _ hb, Nat.zero_add]
      unfold lexAll
      rw [if_neg (by omega), hN, dress_bare, g1]
end Go.Proofs.YtffbkhebkhbanaaGreatDoor.lx
