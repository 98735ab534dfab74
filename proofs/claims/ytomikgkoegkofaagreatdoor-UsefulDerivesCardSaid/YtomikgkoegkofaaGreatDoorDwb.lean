import Derived.Test.YtomikgkoegkofaaGreatDoorDwm
namespace Go.Proofs.YtomikgkoegkofaaGreatDoor.dv
/-! steps in parts, and what stands behind -/
theorem repl_shift (R : List Rl) : ∀ (ks F : List Int) (i j : Nat), (replW R F ks i).1 = (replW R F ks j).1 ∧ (replW R F ks i).2.2 = (replW R F ks j).2.2 ∧ ((replW R F ks i).2.2 ≠ 0 → (replW R F ks i).2.1 + j = (replW R F ks j).2.1 + i)
  | [], F, i, j => ⟨rfl, rfl, fun h => absurd rfl h⟩
  | k :: ks, F, i, j => by
    rw [repl_cons, repl_cons]
    by_cases hE : refW R (fvW F) k = 0
    · rw [if_pos hE, if_pos hE]
      obtain ⟨h1, h2, h3⟩ := repl_shift R ks (stepL R F k) (i + 1) (j + 1)
      exact ⟨h1, h2, fun h => by have := h3 h; omega⟩
    · rw [if_neg hE, if_neg hE]
      exact ⟨rfl, rfl, fun _ => by simp only; omega⟩
theorem repl_err (R : List Rl) : ∀ (ks F : List Int) (i : Nat), (replW R F ks i).2.2 ≠ 0 → (replW R F ks i).1 = []
  | [], F, i, h => absurd rfl h
  | k :: ks, F, i, h => by
    rw [repl_cons] at h ⊢
    by_cases hE : refW R (fvW F) k = 0
    · rw [if_pos hE] at h ⊢
      exact repl_err R ks _ _ h
    · rw [if_neg hE]
theorem lead_neg : ∀ (F : List Int) (x : Int), x ∈ leadW F → x < 0
  | [], x, h => by cases h
  | y :: F, x, h => by
    unfold leadW at h
    rw [List.takeWhile_cons] at h
    split at h
    · rename_i hy
      rcases List.mem_cons.1 h with rfl | h
      · simpa using hy
      · exact lead_neg F x h
    · cases h
theorem lead_step (R : List Rl) (F : List Int) (k : Int) : ∃ X, leadW (stepL R F k) = leadW F ++ X :=
  ⟨_, (lead_app (leadW F) _ (lead_neg F)).1⟩
theorem repl_lead (R : List Rl) : ∀ (ks F : List Int) (i : Nat), (replW R F ks i).2.2 = 0 → ∃ X, leadW (replW R F ks i).1 = leadW F ++ X
  | [], F, i, _ => ⟨[], by simp [replW]⟩
  | k :: ks, F, i, h => by
    rw [repl_cons] at h ⊢
    by_cases hE : refW R (fvW F) k = 0
    · rw [if_pos hE] at h ⊢
      obtain ⟨X, hX⟩ := repl_lead R ks _ _ h
      obtain ⟨Y, hY⟩ := lead_step R F k
      exact ⟨Y ++ X, by rw [hX, hY, List.append_assoc]⟩
    · rw [if_neg hE] at h
      exact absurd h hE
/-- in two parts -/
theorem repl_parts (R : List Rl) (F ks : List Int) (c : Nat) (hc : c ≤ ks.length) (h : (replW R F (ks.take c) 0).2.2 = 0) :
    (replW R F ks 0).1 = (replW R (replW R F (ks.take c) 0).1 (ks.drop c) 0).1 ∧ (replW R F ks 0).2.2 = (replW R (replW R F (ks.take c) 0).1 (ks.drop c) 0).2.2 ∧ ((replW R F ks 0).2.2 ≠ 0 → (replW R F ks 0).2.1 = c + (replW R (replW R F (ks.take c) 0).1 (ks.drop c) 0).2.1) := by
  have e := repl_app R (ks.take c) (ks.drop c) F 0
  rw [List.take_append_drop, if_pos h] at e
  rw [e]
  have hl : 0 + (ks.take c).length = c := by simp; omega
  rw [hl]
  obtain ⟨h1, h2, h3⟩ := repl_shift R (ks.drop c) (replW R F (ks.take c) 0).1 c 0
  exact ⟨h1, h2, fun h => by have := h3 h; omega⟩
theorem repl_part_err (R : List Rl) (F ks : List Int) (c : Nat) (h : (replW R F (ks.take c) 0).2.2 ≠ 0) : replW R F ks 0 = replW R F (ks.take c) 0 := by
  have e := repl_app R (ks.take c) (ks.drop c) F 0
  rwa [List.take_append_drop, if_neg h] at e
theorem rest_var {F : List Int} (h : restW F ≠ []) : ∃ v X, restW F = v :: X ∧ 0 ≤ v := by
  cases hr : restW F with
  | nil => exact absurd hr h
  | cons v X =>
    have := List.head?_dropWhile_not (fun x => decide (x < 0)) F
    rw [show F.dropWhile (fun x => decide (x < 0)) = v :: X from hr] at this
    exact ⟨v, X, rfl, by simpa using this⟩
/-- what stands behind a form that has a variable -/
theorem behind_form (F B : List Int) (h : restW F ≠ []) : leadW (F ++ B) = leadW F ∧ restW (F ++ B) = restW F ++ B ∧ fvW (F ++ B) = fvW F := by
  obtain ⟨v, X, hr, hv⟩ := rest_var h
  have e : F ++ B = leadW F ++ v :: (X ++ B) := by
    conv => lhs; rw [← lead_rest F, hr]
    simp
  obtain ⟨h1, h2, h3⟩ := lead_var (leadW F) (X ++ B) v (lead_neg F) hv
  rw [← e] at h1 h2 h3
  refine ⟨h1, by rw [h2, hr]; rfl, ?_⟩
  rw [h3]
  unfold fvW
  rw [hr]
  rfl
theorem repl_behind (R : List Rl) (B : List Int) : ∀ (ks F : List Int) (i : Nat), (replW R F ks i).2.2 = 0 → replW R (F ++ B) ks i = ((replW R F ks i).1 ++ B, 0, 0)
  | [], F, i, _ => by simp [replW]
  | k :: ks, F, i, h => by
    rw [repl_cons] at h ⊢
    by_cases hE : refW R (fvW F) k = 0
    · rw [if_pos hE] at h
      rw [repl_cons, if_pos hE]
      obtain ⟨h1, h2, h3⟩ := behind_form F B (fv_rest (refW_ok hE).2.2)
      rw [h3, if_pos hE]
      have hs : stepL R (F ++ B) k = stepL R F k ++ B := by
        obtain ⟨v, X, hr, hv⟩ := rest_var (fv_rest (refW_ok hE).2.2)
        unfold stepL
        rw [h1, h2, hr]
        simp
      rw [hs]
      exact repl_behind R B ks _ _ h
    · rw [if_neg hE] at h
      exact absurd h hE
end Go.Proofs.YtomikgkoegkofaaGreatDoor.dv
