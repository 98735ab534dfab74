import Derived.Test.YtomikgkoegkofaaGreatDoorDvk
namespace Go.Proofs.YtomikgkoegkofaaGreatDoor.dv
open Go.ChangeShapes Go.WideShapes Go.ChangeAt Go.RowKit Go.Maps Go.WideMaps Go.WideElems
set_option linter.unusedVariables false
set_option linter.unusedSimpArgs false
/-! replays by mathematics alone -/
theorem repl_cons (R : List Rl) (k : Int) (ks F : List Int) (i : Nat) : replW R F (k :: ks) i = if refW R (fvW F) k = 0 then replW R (stepL R F k) ks (i + 1) else ([], i, refW R (fvW F) k) := by rw [replW]
theorem repl_app (R : List Rl) : ∀ (xs ys F : List Int) (i : Nat), replW R F (xs ++ ys) i = if (replW R F xs i).2.2 = 0 then replW R (replW R F xs i).1 ys (i + xs.length) else replW R F xs i
  | [], ys, F, i => by simp [replW]
  | k :: xs, ys, F, i => by
    rw [List.cons_append, repl_cons, repl_cons]
    by_cases hE : refW R (fvW F) k = 0
    · rw [if_pos hE, if_pos hE, repl_app R xs ys (stepL R F k) (i + 1), List.length_cons, show i + 1 + xs.length = i + (xs.length + 1) by omega]
    · rw [if_neg hE, if_neg hE]
      simp [hE]
theorem repl_ok (R : List Rl) : ∀ (ks F : List Int) (i : Nat), (replW R F ks i).2.2 = 0 → (replW R F ks i).2.1 = 0
  | [], F, i, _ => rfl
  | k :: ks, F, i, h => by
    rw [repl_cons] at h ⊢
    by_cases hE : refW R (fvW F) k = 0
    · rw [if_pos hE] at h ⊢
      exact repl_ok R ks _ _ h
    · rw [if_neg hE] at h
      exact absurd h hE
/-- one step more -/
theorem repl_take (R : List Rl) (F G ks : List Int) (j : Nat) (hj : j < ks.length) (h : replW R F (ks.take j) 0 = (G, 0, 0)) : replW R F (ks.take (j + 1)) 0 = if refW R (fvW G) (ks.getD j 0) = 0 then (stepL R G (ks.getD j 0), 0, 0) else ([], j, refW R (fvW G) (ks.getD j 0)) := by
  have e : ks.take (j + 1) = ks.take j ++ [ks.getD j 0] := by
    rw [List.take_succ_eq_append_getElem hj, List.getD_eq_getElem?_getD, List.getElem?_eq_getElem hj]; rfl
  rw [e, repl_app, h]
  simp only [if_true]
  rw [repl_cons]
  simp [replW, Nat.min_eq_left (Nat.le_of_lt hj)]
theorem fv_rest {G : List Int} (h : 0 ≤ fvW G) : restW G ≠ [] := by
  intro e
  unfold fvW at h
  rw [e] at h
  exact absurd h (by decide)
theorem step_len (R : List Rl) (G : List Int) (k : Int) (h : 0 ≤ fvW G) : (stepL R G k).length + 1 = G.length + (ruleW R k).length ∧ 1 ≤ G.length := by
  have hr := fv_rest h
  have e := congrArg List.length (lead_rest G)
  have ht : (restW G).length = (restW G).tail.length + 1 := by
    cases hx : restW G with
    | nil => exact absurd hx hr
    | cons x l => simp
  simp at e
  unfold stepL
  simp only [List.length_append]
  omega
end Go.Proofs.YtomikgkoegkofaaGreatDoor.dv
