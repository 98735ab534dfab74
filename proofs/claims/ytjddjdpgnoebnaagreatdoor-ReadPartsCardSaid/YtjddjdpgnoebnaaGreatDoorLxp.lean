import Derived.Test.YtjddjdpgnoebnaaGreatDoorLxo
namespace Go.Proofs.YtjddjdpgnoebnaaGreatDoor.lx
open Go.ChangeShapes Go.WideShapes Go.ChangeAt Go.RowKit
set_option linter.unusedVariables false
/-! two texts with a line's end between -/
theorem runP_cut (p : UInt8 → Bool) (hp : p 10 = false) (x y : List UInt8) : runP p (x ++ 10 :: y) = runP p x := by
  unfold runP
  induction x with
  | nil => simp [hp]
  | cons c x ih =>
    rw [List.cons_append, List.takeWhile_cons, List.takeWhile_cons]
    by_cases h : p c = true
    · rw [if_pos h, if_pos h, List.length_cons, List.length_cons, ih]
    · rw [if_neg h, if_neg h]
theorem head_cut {x y : List UInt8} : (x ++ 10 :: y).head? ≠ some 39 ↔ x.head? ≠ some 39 := by
  cases x with
  | nil => simp
  | cons c x => simp
theorem word_cut (c : UInt8) (r y : List UInt8) : wordAt (c :: (r ++ 10 :: y)) = wordAt (c :: r) := by
  have h1 := runP_cut namB (by decide) r y
  have h2 := runP_cut quoB (by decide) r y
  have h3 := runP_cut wgtB (by decide) r y
  have l1 := runP_le namB r
  have l2 := runP_le quoB r
  have l3 := runP_le wgtB r
  have t1 : (c :: (r ++ 10 :: y)).take (runP namB r + 1) = (c :: r).take (runP namB r + 1) := by
    rw [List.take_succ_cons, List.take_succ_cons, List.take_append_of_le_length l1]
  have t2 : (r ++ 10 :: y).take (runP quoB r) = r.take (runP quoB r) := List.take_append_of_le_length l2
  have t3 : (r ++ 10 :: y).take (runP wgtB r) = r.take (runP wgtB r) := List.take_append_of_le_length l3
  have d2 : (r ++ 10 :: y).drop (runP quoB r) = r.drop (runP quoB r) ++ 10 :: y := List.drop_append_of_le_length l2
  have e2 : (runP quoB r = 0 ∨ ((r ++ 10 :: y).drop (runP quoB r)).head? ≠ some 39) ↔ (runP quoB r = 0 ∨ (r.drop (runP quoB r)).head? ≠ some 39) := by
    rw [d2]
    exact or_congr Iff.rfl head_cut
  rw [word_cons, word_cons, h1, h2, h3, t1, t2, t3]
  simp only [e2]
/-- the state behind a run -/
def runE {σ : Type} (st : σ → UInt8 → Bool × σ) : σ → List UInt8 → σ
  | s, [] => s
  | s, c :: l => runE st (st s c).2 l
theorem runN_app {σ : Type} (st : σ → UInt8 → Bool × σ) : ∀ (x y : List UInt8) (s : σ), runN st s (x ++ y) = if runN st s x = x.length then x.length + runN st (runE st s x) y else runN st s x
  | [], y, s => by simp [runN, runE]
  | c :: x, y, s => by
    have ih := runN_app st x y (st s c).2
    have e1 : runN st s (c :: x ++ y) = if (st s c).1 then runN st (st s c).2 (x ++ y) + 1 else 0 := rfl
    have e2 : runN st s (c :: x) = if (st s c).1 then runN st (st s c).2 x + 1 else 0 := rfl
    rw [e1, e2]
    by_cases h : (st s c).1 = true
    · rw [if_pos h, if_pos h, ih]
      by_cases h2 : runN st (st s c).2 x = x.length
      · rw [if_pos h2, if_pos (by rw [h2]; rfl)]
        show x.length + runN st (runE st (st s c).2 x) y + 1 = (x.length + 1) + runN st (runE st s (c :: x)) y
        have : runE st s (c :: x) = runE st (st s c).2 x := rfl
        rw [this]
        omega
      · rw [if_neg h2, if_neg (by simp only [List.length_cons]; omega)]
    · rw [if_neg h, if_neg h, if_neg (by simp)]
theorem skip_10 (r : Bool) (y : List UInt8) : runN skipS r (10 :: y) = runN skipS false y + 1 := by
  have e : skipS r 10 = (true, false) := by cases r <;> decide
  show (if (skipS r 10).1 then runN skipS (skipS r 10).2 y + 1 else 0) = _
  rw [e]
  rfl
def joinT (a b : List UInt8) : List UInt8 := a ++ 10 :: b
def phi (a b : List UInt8) (k : Nat) : Nat := if k < a.length then k else a.length + 1 + nxt b 0
theorem join_len (a b : List UInt8) : (joinT a b).length = a.length + 1 + b.length := by
  unfold joinT
  simp
  omega
theorem join_left (a b : List UInt8) (k : Nat) (h : k ≤ a.length) : (joinT a b).drop k = a.drop k ++ 10 :: b := List.drop_append_of_le_length h
theorem join_right (a b : List UInt8) (j : Nat) : (joinT a b).drop (a.length + 1 + j) = b.drop j := by
  unfold joinT
  rw [show a ++ 10 :: b = (a ++ [10]) ++ b from by simp, List.drop_append, List.drop_eq_nil_of_le (by simp), List.nil_append]
  congr 1
  simp
theorem nxt_left (a b : List UInt8) (k : Nat) (h : k ≤ a.length) : nxt (joinT a b) k = phi a b (nxt a k) := by
  have hle := runN_le skipS false (a.drop k)
  rw [List.length_drop] at hle
  unfold nxt phi
  rw [join_left a b k h, runN_app, List.length_drop]
  by_cases h2 : runN skipS false (a.drop k) = a.length - k
  · rw [if_pos h2, if_neg (by omega), skip_10]
    unfold nxt
    rw [List.drop_zero]
    omega
  · rw [if_neg h2, if_pos (by omega)]
theorem nxt_right (a b : List UInt8) (j : Nat) : nxt (joinT a b) (a.length + 1 + j) = a.length + 1 + nxt b j := by
  unfold nxt
  rw [join_right]
  omega
def shT (n : Nat) (t : Tok) : Tok := ⟨t.kind, t.at_ + n, t.text, t.wt⟩
theorem lex_right (a b : List UInt8) : ∀ (m j : Nat), b.length - j < m → j ≤ b.length → lexA (joinT a b) (a.length + 1 + j) = ((lexA b j).1.map (shT (a.length + 1)), (lexA b j).2.map fun x => (x.1, x.2 + (a.length + 1)))
  | 0, j, h, _ => by omega
  | m + 1, j, h, hj => by
    by_cases hlt : j < b.length
    · have hw : wordAt ((joinT a b).drop (a.length + 1 + j)) = wordAt (b.drop j) := by rw [join_right]
      have hlt2 : a.length + 1 + j < (joinT a b).length := by rw [join_len]; omega
      cases hx : wordAt (b.drop j) with
      | error e =>
        rw [lexA_error _ _ e hlt2 (hw.trans hx), lexA_error _ _ e hlt hx]
        simp
        omega
      | ok x =>
        obtain ⟨kd, t, w, n⟩ := x
        have hn := word_n hx
        rw [List.length_drop] at hn
        have hg := nxt_ge b (j + n + 1)
        have hle := nxt_le b (j + n + 1) (by omega)
        rw [lexA_ok _ _ kd w n t hlt2 (hw.trans hx), lexA_ok _ _ kd w n t hlt hx, show a.length + 1 + j + n + 1 = a.length + 1 + (j + n + 1) from by omega, nxt_right, lex_right a b m (nxt b (j + n + 1)) (by omega) hle]
        simp [shT]
        omega
    · obtain rfl : j = b.length := by omega
      rw [lexA_end, show a.length + 1 + b.length = (joinT a b).length from (join_len a b).symm, lexA_end, join_len]
      simp [shT]
      omega
theorem lex_ne (s : List UInt8) : ∀ (m k : Nat), s.length - k < m → (lexA s k).2 = none → (lexA s k).1 ≠ []
  | 0, k, h, _ => by omega
  | m + 1, k, h, hn => by
    by_cases hlt : k < s.length
    · cases hx : wordAt (s.drop k) with
      | error e =>
        rw [lexA_error _ _ e hlt hx] at hn
        cases hn
      | ok x =>
        obtain ⟨kd, t, w, n⟩ := x
        rw [lexA_ok _ _ kd w n t hlt hx]
        simp
    · rw [lexA, dif_neg hlt]
      simp
def joinA (a b : List UInt8) (x : List Tok × Option (Nat × Nat)) : List Tok × Option (Nat × Nat) :=
  match x.2 with
  | some f => (x.1, some f)
  | none => (x.1.dropLast ++ (lexA b (nxt b 0)).1.map (shT (a.length + 1)), (lexA b (nxt b 0)).2.map fun x => (x.1, x.2 + (a.length + 1)))
theorem joinA_cons (a b : List UInt8) (t : Tok) (x : List Tok × Option (Nat × Nat)) (h : x.2 = none → x.1 ≠ []) : joinA a b (t :: x.1, x.2) = (t :: (joinA a b x).1, (joinA a b x).2) := by
  obtain ⟨ts, f⟩ := x
  cases f with
  | some f => rfl
  | none =>
    have hne := h rfl
    cases ts with
    | nil => exact absurd rfl hne
    | cons u ts => simp [joinA]
theorem lex_left (a b : List UInt8) : ∀ (m k : Nat), a.length - k < m → k ≤ a.length → lexA (joinT a b) (phi a b k) = joinA a b (lexA a k)
  | 0, k, h, _ => by omega
  | m + 1, k, h, hk => by
    by_cases hlt : k < a.length
    · have hp : phi a b k = k := if_pos hlt
      have hlt2 : k < (joinT a b).length := by rw [join_len]; omega
      have hw : wordAt ((joinT a b).drop k) = wordAt (a.drop k) := by
        rw [join_left a b k hk, List.drop_eq_getElem_cons hlt, List.cons_append, word_cut]
      rw [hp]
      cases hx : wordAt (a.drop k) with
      | error e =>
        rw [lexA_error _ _ e hlt2 (hw.trans hx), lexA_error _ _ e hlt hx]
        rfl
      | ok x =>
        obtain ⟨kd, t, w, n⟩ := x
        have hn := word_n hx
        rw [List.length_drop] at hn
        have hg := nxt_ge a (k + n + 1)
        have hle := nxt_le a (k + n + 1) (by omega)
        rw [lexA_ok _ _ kd w n t hlt2 (hw.trans hx), lexA_ok _ _ kd w n t hlt hx, nxt_left a b (k + n + 1) (by omega), lex_left a b m (nxt a (k + n + 1)) (by omega) hle, joinA_cons a b _ _ (lex_ne a _ _ (Nat.lt_succ_self _))]
    · obtain rfl : k = a.length := by omega
      have hp : phi a b a.length = a.length + 1 + nxt b 0 := if_neg (Nat.lt_irrefl _)
      rw [hp, lexA_end, lex_right a b _ (nxt b 0) (Nat.lt_succ_self _) (nxt_le b 0 (Nat.zero_le _))]
      simp [joinA]
theorem lex_bounds (s : List UInt8) : ∀ (m k : Nat), s.length - k < m → k ≤ s.length → (lexA s k).1.length ≤ s.length - k + 1 ∧ (∀ t ∈ (lexA s k).1, t.at_ ≤ s.length) ∧ ∀ e a, (lexA s k).2 = some (e, a) → 1 ≤ e ∧ a < s.length
  | 0, k, h, _ => by omega
  | m + 1, k, h, hk => by
    by_cases hlt : k < s.length
    · cases hx : wordAt (s.drop k) with
      | error e' =>
        rw [lexA_error _ _ e' hlt hx]
        refine ⟨by simp, fun t ht => by simp at ht, fun e a he => ?_⟩
        cases he
        exact ⟨(word_e hx).1, hlt⟩
      | ok y =>
        obtain ⟨kd, t, w, n⟩ := y
        have hn := word_n hx
        rw [List.length_drop] at hn
        have hg := nxt_ge s (k + n + 1)
        obtain ⟨h1, h2, h3⟩ := lex_bounds s m (nxt s (k + n + 1)) (by omega) (nxt_le s _ (by omega))
        rw [lexA_ok _ _ kd w n t hlt hx]
        refine ⟨by simp only [List.length_cons]; omega, fun t' ht => ?_, h3⟩
        rcases List.mem_cons.1 ht with rfl | ht
        · exact hk
        · exact h2 t' ht
    · rw [lexA, dif_neg hlt]
      refine ⟨by simp, fun t ht => ?_, fun e a he => by cases he⟩
      simp at ht
      subst ht
      exact hk
theorem err_ge (s : List UInt8) {x : List Tok} {e k : Nat} (h : lexA s (nxt s 0) = (x, some (e, k))) : 1 ≤ e ∧ k < s.length := by
  have := (lex_bounds s _ (nxt s 0) (Nat.lt_succ_self _) (nxt_le s 0 (Nat.zero_le _))).2.2 e k
  rw [h] at this
  exact this rfl
theorem ok_ge (s : List UInt8) {x : List Tok} {f : Option (Nat × Nat)} (h : lexA s (nxt s 0) = (x, f)) : x.length ≤ s.length + 1 ∧ ∀ t ∈ x, t.at_ ≤ s.length := by
  have := lex_bounds s _ (nxt s 0) (Nat.lt_succ_self _) (nxt_le s 0 (Nat.zero_le _))
  rw [h] at this
  exact ⟨by have := this.1; simp at this; omega, this.2.1⟩
/-- the words of two texts -/
theorem lex_join (a b : List UInt8) (ha : a.length ≤ 600) (hb : b.length ≤ 600) : (∃ e k, (1 ≤ e ∧ k < a.length) ∧ lexAll a = ([], e, k) ∧ lexAll (joinT a b) = ([], e, k)) ∨ (∃ x e k, (1 ≤ e ∧ k < b.length) ∧ (x ≠ [] ∧ x.length ≤ a.length + 1) ∧ lexAll a = (x, 0, 0) ∧ lexAll b = ([], e, k) ∧ lexAll (joinT a b) = ([], e, k + (a.length + 1))) ∨ (∃ x y, (x ≠ [] ∧ x.length ≤ a.length + 1 ∧ ∀ t ∈ x, t.at_ ≤ a.length) ∧ (y ≠ [] ∧ y.length ≤ b.length + 1 ∧ ∀ t ∈ y, t.at_ ≤ b.length) ∧ lexAll a = (x, 0, 0) ∧ lexAll b = (y, 0, 0) ∧ lexAll (joinT a b) = (x.dropLast ++ y.map (shT (a.length + 1)), 0, 0)) := by
  have hj := join_len a b
  have e0 := nxt_left a b 0 (Nat.zero_le _)
  have e1 := lex_left a b _ (nxt a 0) (Nat.lt_succ_self _) (nxt_le a 0 (Nat.zero_le _))
  have na := lex_ne a _ (nxt a 0) (Nat.lt_succ_self _)
  have nb := lex_ne b _ (nxt b 0) (Nat.lt_succ_self _)
  unfold lexAll
  rw [if_neg (by omega), if_neg (by omega), if_neg (by omega), e0, e1]
  unfold joinA
  rcases hA : lexA a (nxt a 0) with ⟨x, f⟩
  rw [hA] at na
  cases f with
  | some f =>
    obtain ⟨e, k⟩ := f
    exact .inl ⟨e, k, err_ge a hA, rfl, rfl⟩
  | none =>
    rcases hB : lexA b (nxt b 0) with ⟨y, f⟩
    rw [hB] at nb
    cases f with
    | some f =>
      obtain ⟨e, k⟩ := f
      exact .inr (.inl ⟨x, e, k, err_ge b hB, ⟨na rfl, (ok_ge a hA).1⟩, rfl, rfl, rfl⟩)
    | none => exact .inr (.inr ⟨x, y, ⟨na rfl, ok_ge a hA⟩, ⟨nb rfl, ok_ge b hB⟩, rfl, rfl, rfl⟩)
end Go.Proofs.YtjddjdpgnoebnaaGreatDoor.lx
