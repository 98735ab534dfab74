import Derived.Test.YtomikgkoegkofaaGreatDoorUma
import Derived.Test.YtomikgkoegkofaaGreatDoorDwb
namespace Go.Proofs.YtomikgkoegkofaaGreatDoor.dv
set_option linter.unusedVariables false
/-! whatever stands in a derivation of a word -/
def varsIn (P : Int → Prop) (F : List Int) : Prop := ∀ s ∈ F, 0 ≤ s → P s
theorem rl_at {R : List Rl} {v k : Int} (h : refW R v k = 0) : ∃ r ∈ R, r.left = v ∧ r.right = ruleW R k ∧ 0 ≤ v ∧ R[k.toNat]? = some r := by
  obtain ⟨h0, h1, h2⟩ := refW_ok h
  have hk : k.toNat < R.length := by omega
  refine ⟨R[k.toNat], List.getElem_mem hk, ?_, ?_, h2, List.getElem?_eq_getElem hk⟩
  · unfold refW at h
    have hi : isRl R k = true := by simp [isRl]; omega
    rw [if_pos hi, if_pos h2] at h
    split at h
    · rename_i e
      rw [List.getD_eq_getElem?_getD, List.getElem?_eq_getElem hk] at e
      exact e
    · exact absurd h (by decide)
  · unfold ruleW
    rw [List.getD_eq_getElem?_getD, List.getElem?_eq_getElem hk]
    rfl
theorem split_form {F : List Int} (h : 0 ≤ fvW F) : F = leadW F ++ fvW F :: (restW F).tail := by
  have hr := fv_rest h
  conv => lhs; rw [← lead_rest F]
  cases hx : restW F with
  | nil => exact absurd hx hr
  | cons x l =>
    have : fvW F = x := by unfold fvW; rw [hx]; rfl
    rw [this]
    rfl
/-- what holds of rules from their right to their left holds all along a derivation of terminals -/
theorem back_all {R : List Rl} (P : Int → Prop) (hP : ∀ r ∈ R, varsIn P r.right → P r.left) : ∀ (ks F : List Int) (i : Nat) (G : List Int), replW R F ks i = (G, 0, 0) → (∀ s ∈ G, s < 0) → varsIn P F ∧ ∀ k ∈ ks, ∃ r ∈ R, R[k.toNat]? = some r ∧ 0 ≤ k ∧ P r.left ∧ varsIn P r.right
  | [], F, i, G, h, hG => by
    have : F = G := congrArg Prod.fst h
    subst this
    exact ⟨fun s hs h0 => by have := hG s hs; omega, fun k hk => by cases hk⟩
  | k :: ks, F, i, G, h, hG => by
    rw [repl_cons] at h
    by_cases hE : refW R (fvW F) k = 0
    · rw [if_pos hE] at h
      obtain ⟨r, hr, hl, hrt, hv, hk⟩ := rl_at hE
      obtain ⟨ih1, ih2⟩ := back_all P hP ks _ _ G h hG
      have hright : varsIn P r.right := fun s hs h0 => ih1 s (by unfold stepL; rw [← hrt]; simp [hs]) h0
      have hleft := hP r hr hright
      refine ⟨fun s hs h0 => ?_, fun k' hk' => ?_⟩
      · rw [split_form hv] at hs
        rcases List.mem_append.1 hs with h1 | h1
        · exact ih1 s (by unfold stepL; simp [h1]) h0
        · rcases List.mem_cons.1 h1 with h1 | h1
          · rw [h1, ← hl]; exact hleft
          · exact ih1 s (by unfold stepL; simp [h1]) h0
      · rcases List.mem_cons.1 hk' with rfl | hk'
        · exact ⟨r, hr, hk, (refW_ok hE).1, hleft, hright⟩
        · exact ih2 k' hk'
    · rw [if_neg hE] at h
      exact absurd (congrArg (fun z => z.2.2) h) hE
/-- what holds of rules from their left to their right, if it does of the form -/
theorem forth_all {R : List Rl} (P Q : Int → Prop) (hQ : ∀ r ∈ R, Q r.left → varsIn P r.right → varsIn Q r.right) (hP : ∀ r ∈ R, varsIn P r.right → P r.left) : ∀ (ks F : List Int) (i : Nat) (G : List Int), replW R F ks i = (G, 0, 0) → (∀ s ∈ G, s < 0) → varsIn Q F → ∀ k ∈ ks, ∃ r ∈ R, R[k.toNat]? = some r ∧ Q r.left
  | [], F, i, G, h, hG, hF => fun k hk => by cases hk
  | k :: ks, F, i, G, h, hG, hF => by
    have hb := back_all P hP (k :: ks) F i G h hG
    rw [repl_cons] at h
    by_cases hE : refW R (fvW F) k = 0
    · rw [if_pos hE] at h
      obtain ⟨r, hr, hl, hrt, hv, hk⟩ := rl_at hE
      have hsp := split_form hv
      have hq : Q r.left := by
        rw [hl]
        have hm : fvW F ∈ leadW F ++ fvW F :: (restW F).tail := by simp
        rw [← hsp] at hm
        exact hF _ hm hv
      obtain ⟨r', _, hk2, _, _, hp⟩ := hb.2 k (by simp)
      rw [hk] at hk2
      cases hk2
      have hr2 := hQ r hr hq hp
      have hF2 : varsIn Q (stepL R F k) := fun s hs h0 => by
        unfold stepL at hs
        rw [← hrt] at hs
        rcases List.mem_append.1 hs with h1 | h1
        · exact hF s (by rw [hsp]; simp [h1]) h0
        · rcases List.mem_append.1 h1 with h1 | h1
          · exact hr2 s h1 h0
          · exact hF s (by rw [hsp]; simp [h1]) h0
      intro k' hk'
      rcases List.mem_cons.1 hk' with rfl | hk'
      · exact ⟨r, hr, hk, hq⟩
      · exact forth_all P Q hQ hP ks _ _ G h hG hF2 k' hk'
    · rw [if_neg hE] at h
      exact absurd (congrArg (fun z => z.2.2) h) hE
theorem sumC_app (f : Nat → Nat) (A B : List Int) : sumC f (A ++ B) = sumC f A + sumC f B := by
  unfold sumC
  rw [List.map_append, List.sum_append]
theorem sumC_term (f : Nat → Nat) : ∀ (G : List Int), (∀ s ∈ G, s < 0) → sumC f G = G.length
  | [], _ => rfl
  | s :: G, h => by
    have ih := sumC_term f G (fun t ht => h t (List.mem_cons_of_mem _ ht))
    have h0 := h s (by simp)
    unfold sumC at *
    simp only [List.map_cons, List.sum_cons, List.length_cons, if_pos h0]
    omega
theorem sumC_at (f : Nat → Nat) (F : List Int) (s : Int) (hs : s ∈ F) (h0 : 0 ≤ s) : f s.toNat ≤ sumC f F := by
  induction F with
  | nil => cases hs
  | cons t F ih =>
    unfold sumC at *
    simp only [List.map_cons, List.sum_cons]
    rcases List.mem_cons.1 hs with rfl | hs
    · rw [if_neg (by omega)]; omega
    · have := ih hs; omega
/-- no word is shorter than its form costs -/
theorem cost_all {R : List Rl} {f : Nat → Nat} (hT : InT R f) : ∀ (ks F : List Int) (i : Nat) (G : List Int), replW R F ks i = (G, 0, 0) → (∀ s ∈ G, s < 0) → sumC f F ≤ G.length ∧ ∀ k ∈ ks, ∃ r ∈ R, R[k.toNat]? = some r ∧ f r.left.toNat ≤ G.length
  | [], F, i, G, h, hG => by
    have : F = G := congrArg Prod.fst h
    subst this
    exact ⟨Nat.le_of_eq (sumC_term f F hG), fun k hk => by cases hk⟩
  | k :: ks, F, i, G, h, hG => by
    rw [repl_cons] at h
    by_cases hE : refW R (fvW F) k = 0
    · rw [if_pos hE] at h
      obtain ⟨r, hr, hl, hrt, hv, hk⟩ := rl_at hE
      obtain ⟨ih1, ih2⟩ := cost_all hT ks _ _ G h hG
      have h1 := hT r hr
      have e1 : sumC f (stepL R F k) = sumC f (leadW F) + (sumC f r.right + sumC f (restW F).tail) := by
        unfold stepL
        rw [sumC_app, sumC_app, hrt]
      have e2 : sumC f F = sumC f (leadW F) + (f r.left.toNat + sumC f (restW F).tail) := by
        conv => lhs; rw [split_form hv]
        rw [sumC_app]
        unfold sumC
        simp only [List.map_cons, List.sum_cons]
        rw [if_neg (by omega), hl]
      have hsum : sumC f F ≤ G.length := by omega
      refine ⟨hsum, fun k' hk' => ?_⟩
      rcases List.mem_cons.1 hk' with rfl | hk'
      · exact ⟨r, hr, hk, by omega⟩
      · exact ih2 k' hk'
    · rw [if_neg hE] at h
      exact absurd (congrArg (fun z => z.2.2) h) hE
/-- where the word is empty -/
theorem back_empty {R : List Rl} (P : Int → Prop) (hP : ∀ r ∈ R, (∀ s ∈ r.right, 0 ≤ s ∧ P s) → P r.left) : ∀ (ks F : List Int) (i : Nat), replW R F ks i = ([], 0, 0) → ∀ s ∈ F, 0 ≤ s ∧ P s
  | [], F, i, h => by
    have : F = [] := congrArg Prod.fst h
    subst this
    exact fun s hs => by cases hs
  | k :: ks, F, i, h => by
    rw [repl_cons] at h
    by_cases hE : refW R (fvW F) k = 0
    · rw [if_pos hE] at h
      obtain ⟨r, hr, hl, hrt, hv, hk⟩ := rl_at hE
      have ih := back_empty P hP ks _ _ h
      have hleft := hP r hr fun s hs => ih s (by unfold stepL; rw [← hrt]; simp [hs])
      intro s hs
      rw [split_form hv] at hs
      rcases List.mem_append.1 hs with h1 | h1
      · exact ih s (by unfold stepL; simp [h1])
      · rcases List.mem_cons.1 h1 with h1 | h1
        · rw [h1]; exact ⟨hv, by rw [← hl]; exact hleft⟩
        · exact ih s (by unfold stepL; simp [h1])
    · rw [if_neg hE] at h
      exact absurd (congrArg (fun z => z.2.2) h) hE
/-! the derivation by first rules -/
inductive Exps (R : List Rl) (W : List Way) : List Int → List Int → Prop
  | nil : Exps R W [] []
  | term {s : Int} {F ks : List Int} (h0 : s < 0) (h : Exps R W F ks) : Exps R W (s :: F) ks
  | var {s : Int} {k : Nat} {r : Rl} {F ks : List Int} (h0 : 0 ≤ s) (h1 : (W.getD s.toNat noW).2.2 = k) (h2 : R[k]? = some r) (h : Exps R W (r.right ++ F) ks) : Exps R W (s :: F) ((k : Int) :: ks)
theorem fv_app {D X : List Int} {s : Int} (h : ∀ x ∈ D, x < 0) (hs : 0 ≤ s) : fvW (D ++ s :: X) = s ∧ leadW (D ++ s :: X) = D ∧ restW (D ++ s :: X) = s :: X := by
  obtain ⟨h1, h2, h3⟩ := lead_var D X s h hs
  exact ⟨h3, h1, h2⟩
theorem exps_ok {R : List Rl} {n : Nat} {W : List Way} (hI : Inv R n W) (hd : Done R W) {F ks : List Int} (h : Exps R W F ks) : ∀ (D : List Int) (i : Nat), (∀ x ∈ D, x < 0) →
    ∃ G, replW R (D ++ F) ks i = (G, 0, 0) ∧ (∀ x ∈ G, x < 0) ∧ G.length = D.length + sumC (fun v => (W.getD v noW).1) F := by
  induction h with
  | nil =>
    intro D i hD
    exact ⟨D, by simp [replW], hD, by simp [sumC]⟩
  | @term s F ks h0 _ ih =>
    intro D i hD
    obtain ⟨G, h1, h2, h3⟩ := ih (D ++ [s]) i (fun x hx => by
      rcases List.mem_append.1 hx with h | h
      · exact hD x h
      · rw [List.mem_singleton.1 h]; exact h0)
    refine ⟨G, by simpa using h1, h2, ?_⟩
    rw [h3]
    unfold sumC
    simp [h0]
    omega
  | @var s k r F ks h0 h1 h2 _ ih =>
    intro D i hD
    obtain ⟨e1, e2, e3, _⟩ := way_eq hI hd h1 h2
    obtain ⟨f1, f2, f3⟩ := fv_app (X := F) hD h0
    have hk : k < R.length := (List.getElem?_eq_some_iff.1 h2).1
    have hE : refW R (fvW (D ++ s :: F)) k = 0 := by
      rw [f1]
      unfold refW
      rw [if_pos (by simp [isRl]; omega), if_pos h0, List.getD_eq_getElem?_getD, Int.toNat_natCast, h2, if_pos]
      show r.left = s
      omega
    have hst : stepL R (D ++ s :: F) k = D ++ (r.right ++ F) := by
      unfold stepL ruleW
      rw [f2, f3, List.getD_eq_getElem?_getD, Int.toNat_natCast, h2]
      rfl
    obtain ⟨G, g1, g2, g3⟩ := ih D (i + 1) hD
    refine ⟨G, ?_, g2, ?_⟩
    · rw [repl_cons, if_pos hE, hst]
      exact g1
    · rw [g3, sumC_app]
      have e : cS W r.right = sumC (fun v => (W.getD v noW).1) r.right := by
        unfold cS sumC
        congr 1
        apply List.map_congr_left
        intro s _
        unfold wat
        split <;> rfl
      rw [← e, ← e3]
      unfold sumC
      simp only [List.map_cons, List.sum_cons]
      rw [if_neg (by omega)]
theorem exps_best {R : List Rl} {n : Nat} {W : List Way} (hI : Inv R n W) (hd : Done R W) {F ks : List Int} (h : Exps R W F ks) : ∀ k ∈ ks, ∃ r, R[k.toNat]? = some r ∧ 0 ≤ k ∧ (W.getD r.left.toNat noW).2.2 = k := by
  induction h with
  | nil => intro k hk; cases hk
  | term _ _ ih => exact ih
  | @var s k r F ks h0 h1 h2 _ ih =>
    intro k' hk
    rcases List.mem_cons.1 hk with rfl | hk
    · obtain ⟨e1, _⟩ := way_eq hI hd h1 h2
      refine ⟨r, by simpa using h2, by omega, ?_⟩
      rw [show r.left.toNat = s.toNat by omega]
      exact h1
    · exact ih k' hk
/-- how many steps are left, and symbols -/
def todoM (W : List Way) (F : List Int) : Nat := 16 * sS W F + F.length
theorem todo_term (W : List Way) {s : Int} (h : s < 0) (F : List Int) : todoM W F < todoM W (s :: F) := by
  unfold todoM sS
  simp only [List.map_cons, List.sum_cons, List.length_cons]
  omega
theorem todo_var (W : List Way) {s : Int} {r : Rl} (h0 : 0 ≤ s) (h8 : r.right.length ≤ 8) (h : (W.getD s.toNat noW).2.1 = 1 + sS W r.right) (F : List Int) : todoM W (r.right ++ F) < todoM W (s :: F) := by
  unfold todoM sS at *
  simp only [List.map_append, List.sum_append, List.length_append, List.map_cons, List.sum_cons, List.length_cons, wat_var h0]
  omega
end Go.Proofs.YtomikgkoegkofaaGreatDoor.dv
