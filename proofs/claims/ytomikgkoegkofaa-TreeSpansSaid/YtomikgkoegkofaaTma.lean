import Derived.Test.YtomikgkoegkofaaDwm
import Derived.Test.YtomikgkoegkofaaDwb
namespace Go.Proofs.Ytomikgkoegkofaa.dt
open Go.Proofs.Ytomikgkoegkofaa.dv
set_option linter.unusedVariables false
/-! the mathematics of trees: a derivation's nodes in their order -/
/-- what is to be gone through, by which rules: its nodes -/
inductive Built (R : List Rl) : List (Int × Nat) → List Int → List (Int × Int × Nat) → Prop
  | nil : Built R [] [] []
  | term {s : Int} {lv : Nat} {st : List (Int × Nat)} {ks : List Int} {out : List (Int × Int × Nat)} (h : s < 0) (hb : Built R st ks out) : Built R ((s, lv) :: st) ks ((s, -1, lv) :: out)
  | var {s k : Int} {lv : Nat} {st : List (Int × Nat)} {ks : List Int} {out : List (Int × Int × Nat)} (h : 0 ≤ s) (hr : refW R s k = 0) (hb : Built R ((ruleW R k).map (fun x => (x, lv + 1)) ++ st) ks out) : Built R ((s, lv) :: st) (k :: ks) ((s, k, lv) :: out)
theorem lead_term {s : Int} (h : s < 0) (F : List Int) : leadW (s :: F) = s :: leadW F := by simp [leadW, h]
theorem rest_term {s : Int} (h : s < 0) (F : List Int) : restW (s :: F) = restW F := by simp [restW, h]
theorem rest_first {s : Int} (h : 0 ≤ s) (F : List Int) : restW (s :: F) = s :: F ∧ leadW (s :: F) = [] := by
  have : ¬ s < 0 := by omega
  simp [restW, leadW, this]
theorem fv_term {s : Int} (h : s < 0) (F : List Int) : fvW (s :: F) = fvW F := by unfold fvW; rw [rest_term h]
theorem fv_first {s : Int} (h : 0 ≤ s) (F : List Int) : fvW (s :: F) = s := by unfold fvW; rw [(rest_first h F).1]; rfl
theorem step_term {s : Int} (h : s < 0) (R : List Rl) (F : List Int) (k : Int) : stepL R (s :: F) k = s :: stepL R F k := by
  unfold stepL
  rw [lead_term h, rest_term h]
  rfl
theorem step_first {s : Int} (h : 0 ≤ s) (R : List Rl) (F : List Int) (k : Int) : stepL R (s :: F) k = ruleW R k ++ F := by
  unfold stepL
  rw [(rest_first h F).1, (rest_first h F).2]
  rfl
theorem repl_term {s : Int} (h : s < 0) (R : List Rl) : ∀ (ks F : List Int) (i : Nat), (replW R (s :: F) ks i).2.2 = (replW R F ks i).2.2 ∧ ((replW R F ks i).2.2 = 0 → (replW R (s :: F) ks i).1 = s :: (replW R F ks i).1)
  | [], F, i => ⟨rfl, fun _ => rfl⟩
  | k :: ks, F, i => by
    rw [repl_cons, repl_cons, fv_term h, step_term h]
    by_cases e : refW R (fvW F) k = 0
    · rw [if_pos e, if_pos e]
      exact repl_term h R ks _ _
    · rw [if_neg e, if_neg e]
      exact ⟨rfl, fun h0 => absurd h0 e⟩
theorem ref_neg {R : List Rl} {v k : Int} (h : refW R v k = 0) : 0 ≤ v := by
  unfold refW at h
  by_cases h1 : isRl R k = true
  · rw [if_pos h1] at h
    by_cases h2 : 0 ≤ v
    · exact h2
    · rw [if_neg h2] at h
      cases h
  · rw [if_neg h1] at h
    cases h
/-- a derivation to a word has nodes -/
theorem built_of (R : List Rl) : ∀ (ks : List Int) (st : List (Int × Nat)), (replW R (st.map (·.1)) ks 0).2.2 = 0 → restW (replW R (st.map (·.1)) ks 0).1 = [] → ∃ out, Built R st ks out
  | [], st => by
    induction st with
    | nil => exact fun _ _ => ⟨_, .nil⟩
    | cons x st ih =>
      intro _ h2
      obtain ⟨s, lv⟩ := x
      have h2' : restW (s :: st.map (·.1)) = [] := h2
      by_cases h : s < 0
      · rw [rest_term h] at h2'
        obtain ⟨out, ho⟩ := ih rfl h2'
        exact ⟨_, .term h ho⟩
      · rw [(rest_first (by omega) _).1] at h2'
        cases h2'
  | k :: ks, st => by
    induction st with
    | nil =>
      intro h1 _
      rw [List.map_nil, repl_cons] at h1
      by_cases e : refW R (fvW []) k = 0
      · have := ref_neg e
        exact absurd this (by decide)
      · rw [if_neg e] at h1
        exact absurd h1 e
    | cons x st ih =>
      intro h1 h2
      obtain ⟨s, lv⟩ := x
      have h1' : (replW R (s :: st.map (·.1)) (k :: ks) 0).2.2 = 0 := h1
      have h2' : restW (replW R (s :: st.map (·.1)) (k :: ks) 0).1 = [] := h2
      by_cases h : s < 0
      · obtain ⟨t1, t2⟩ := repl_term h R (k :: ks) (st.map (·.1)) 0
        rw [t1] at h1'
        rw [t2 h1', rest_term h] at h2'
        obtain ⟨out, ho⟩ := ih h1' h2'
        exact ⟨_, .term h ho⟩
      · have h0 : 0 ≤ s := by omega
        rw [repl_cons, fv_first h0, step_first h0] at h1' h2'
        by_cases e : refW R s k = 0
        · rw [if_pos e] at h1' h2'
          obtain ⟨e1, e2, _⟩ := repl_shift R ks (ruleW R k ++ st.map (·.1)) (0 + 1) 0
          rw [e2] at h1'
          rw [e1] at h2'
          have hm : ((ruleW R k).map (fun x => (x, lv + 1)) ++ st).map (·.1) = ruleW R k ++ st.map (·.1) := by
            rw [List.map_append, List.map_map]
            congr 1
            exact List.map_id' (ruleW R k)
          obtain ⟨out, ho⟩ := built_of R ks _ (by rw [hm]; exact h1') (by rw [hm]; exact h2')
          exact ⟨_, .var h0 e ho⟩
        · rw [if_neg e] at h1'
          exact absurd h1' e
/-- its rules are those -/
theorem built_rules {R : List Rl} {st : List (Int × Nat)} {ks : List Int} {out : List (Int × Int × Nat)} (h : Built R st ks out) : (out.filter fun x => decide (0 ≤ x.1)).map (·.2.1) = ks := by
  induction h with
  | nil => rfl
  | term h hb ih => rw [List.filter_cons_of_neg (by simp; omega)]; exact ih
  | var h hr hb ih => rw [List.filter_cons_of_pos (by simp; omega), List.map_cons, ih]
theorem built_ok {R : List Rl} {st : List (Int × Nat)} {ks : List Int} {out : List (Int × Int × Nat)} (h : Built R st ks out) : (replW R (st.map (·.1)) ks 0).2.2 = 0 := by
  induction h with
  | nil => rfl
  | @term s lv st ks out h hb ih => exact ((repl_term h R ks (st.map (·.1)) 0).1).trans ih
  | @var s k lv st ks out h hr hb ih =>
    show (replW R (s :: st.map (·.1)) (k :: ks) 0).2.2 = 0
    have hm : ((ruleW R k).map (fun x => (x, lv + 1)) ++ st).map (·.1) = ruleW R k ++ st.map (·.1) := by
      rw [List.map_append, List.map_map]
      congr 1
      exact List.map_id' (ruleW R k)
    rw [hm] at ih
    rw [repl_cons, fv_first h, step_first h, if_pos hr, (repl_shift R ks _ (0 + 1) 0).2.1]
    exact ih
/-- its word is what it leads to -/
theorem built_word {R : List Rl} {st : List (Int × Nat)} {ks : List Int} {out : List (Int × Int × Nat)} (h : Built R st ks out) : (out.filter fun x => decide (x.1 < 0)).map (·.1) = (replW R (st.map (·.1)) ks 0).1 := by
  induction h with
  | nil => rfl
  | @term s lv st ks out h hb ih =>
    rw [List.filter_cons_of_pos (by simp; omega), List.map_cons, ih]
    exact ((repl_term h R ks (st.map (·.1)) 0).2 (built_ok hb)).symm
  | @var s k lv st ks out h hr hb ih =>
    rw [List.filter_cons_of_neg (by simp; omega), ih]
    have e1 : (replW R (s :: st.map (·.1)) (k :: ks) 0).1 = (replW R (ruleW R k ++ st.map (·.1)) ks 0).1 := by
      rw [repl_cons, fv_first h, step_first h, if_pos hr]
      exact (repl_shift R ks _ (0 + 1) 0).1
    have hm : ((ruleW R k).map (fun x => (x, lv + 1)) ++ st).map (·.1) = ruleW R k ++ st.map (·.1) := by
      rw [List.map_append, List.map_map]
      congr 1
      exact List.map_id' (ruleW R k)
    rw [hm]
    exact e1.symm
/-- one alone -/
theorem built_one {R : List Rl} {st : List (Int × Nat)} {ks : List Int} {a b : List (Int × Int × Nat)} (h : Built R st ks a) : Built R st ks b → a = b := by
  induction h generalizing b with
  | nil => intro k; cases k; rfl
  | term h hb ih =>
    intro k
    cases k with
    | term h2 hb2 => rw [ih hb2]
    | var h2 => omega
  | var h hr hb ih =>
    intro k
    cases k with
    | term h2 => omega
    | var h2 hr2 hb2 => rw [ih hb2]
end Go.Proofs.Ytomikgkoegkofaa.dt
