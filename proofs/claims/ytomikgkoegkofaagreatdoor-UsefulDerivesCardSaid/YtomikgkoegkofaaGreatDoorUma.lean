import Derived.Test.YtomikgkoegkofaaGreatDoorDvi
namespace Go.Proofs.YtomikgkoegkofaaGreatDoor.dv
set_option linter.unusedVariables false
/-! marks -/
def at_ (S : List Bool) (s : Int) : Bool := S.getD s.toNat false
def le (S X : List Bool) : Prop := ∀ v : Nat, S.getD v false = true → X.getD v false = true
theorem le.refl (S : List Bool) : le S S := fun _ h => h
theorem le.trans {A B C : List Bool} (h : le A B) (k : le B C) : le A C := fun v hv => k v (h v hv)
theorem le.anti {A B : List Bool} (h : le A B) (k : le B A) (hl : A.length = B.length) : A = B := by
  apply List.ext_getElem hl
  intro i h1 h2
  have a := h i
  have b := k i
  rw [List.getD_eq_getElem?_getD, List.getD_eq_getElem?_getD, List.getElem?_eq_getElem h1, List.getElem?_eq_getElem h2] at a b
  simp only [Option.getD_some] at a b
  cases x : A[i] <;> cases y : B[i] <;> simp_all
/-- all variables of a form are marked; none: and it has no terminals -/
def allB (S : List Bool) (none : Bool) (r : List Int) : Bool := r.all fun s => if s < 0 then !none else at_ S s
theorem allB_mono {S X : List Bool} {none : Bool} {r : List Int} (h : le S X) (ha : allB S none r = true) : allB X none r = true := by
  unfold allB at *
  rw [List.all_eq_true] at *
  intro s hs
  have := ha s hs
  by_cases h0 : s < 0
  · rw [if_pos h0] at *; exact this
  · rw [if_neg h0] at *; exact h _ this
def Closed (R : List Rl) (none : Bool) (S : List Bool) : Prop := ∀ r ∈ R, allB S none r.right = true → at_ S r.left = true
def cnt (S : List Bool) : Nat := (S.filter id).length
theorem cnt_le (S : List Bool) : cnt S ≤ S.length := List.length_filter_le _ _
theorem set_at (S : List Bool) (k v : Nat) : (S.set k true).getD v false = true ↔ (S.getD v false = true ∨ (v = k ∧ k < S.length)) := by
  rw [List.getD_eq_getElem?_getD, List.getD_eq_getElem?_getD, List.getElem?_set]
  by_cases h : k = v
  · subst h
    rw [if_pos rfl]
    by_cases hl : k < S.length
    · simp [hl]
    · simp [hl]
  · rw [if_neg h]
    constructor
    · exact fun h => .inl h
    · rintro (h1 | ⟨h1, _⟩)
      · exact h1
      · exact absurd h1.symm h
theorem cnt_set : ∀ (S : List Bool) (k : Nat), k < S.length → S.getD k false = false → cnt (S.set k true) = cnt S + 1
  | [], k, h, _ => by simp at h
  | b :: S, 0, _, h => by
    obtain rfl : b = false := by simpa using h
    simp [cnt]
  | b :: S, k + 1, h, h2 => by
    have := cnt_set S k (by simpa using h) (by simpa using h2)
    unfold cnt at *
    cases b <;> simp_all
theorem cnt_mono : ∀ (S X : List Bool), S.length = X.length → le S X → cnt S ≤ cnt X ∧ (cnt S = cnt X → S = X)
  | [], [], _, _ => ⟨Nat.le_refl _, fun _ => rfl⟩
  | b :: S, c :: X, hl, h => by
    have h1 := cnt_mono S X (by simpa using hl) (fun v hv => by have := h (v + 1); simp at this; exact this (by simpa using hv))
    have h0 := h 0
    have hS := h1.2
    unfold cnt at *
    cases b <;> cases c <;> simp_all <;> omega
theorem cnt_full {S : List Bool} (h : cnt S = S.length) (v : Nat) (hv : v < S.length) : S.getD v false = true := by
  have h2 : S.filter id = S := (List.filter_sublist).eq_of_length h
  have := List.filter_eq_self.1 h2 S[v] (List.getElem_mem _)
  rw [List.getD_eq_getElem?_getD, List.getElem?_eq_getElem hv]
  simpa using this
/-- one round of the document's -/
def roundB (none : Bool) (S : List Bool) : List Rl → List Bool → List Bool
  | [], N => N
  | r :: R, N => roundB none S R (if allB S none r.right then N.set r.left.toNat true else N)
theorem round_len (none : Bool) (S : List Bool) : ∀ (R : List Rl) (N : List Bool), (roundB none S R N).length = N.length
  | [], N => rfl
  | r :: R, N => by
    unfold roundB
    rw [round_len none S R]
    split <;> simp
theorem round_ge (none : Bool) (S : List Bool) : ∀ (R : List Rl) (N : List Bool), le N (roundB none S R N)
  | [], N => le.refl _
  | r :: R, N => by
    unfold roundB
    refine le.trans ?_ (round_ge none S R _)
    split
    · exact fun v hv => (set_at _ _ _).2 (.inl hv)
    · exact le.refl _
theorem round_has (none : Bool) (S : List Bool) : ∀ (R : List Rl) (N : List Bool) (r : Rl), r ∈ R → allB S none r.right = true → r.left.toNat < N.length → at_ (roundB none S R N) r.left = true
  | r' :: R, N, r, hm, ha, hl => by
    unfold roundB
    rcases List.mem_cons.1 hm with rfl | hm
    · rw [if_pos ha]
      exact round_ge none S R _ _ ((set_at _ _ _).2 (.inr ⟨rfl, hl⟩))
    · refine round_has none S R _ r hm ha ?_
      split <;> simpa using hl
theorem round_le (none : Bool) (S : List Bool) {X : List Bool} {R0 : List Rl} (hX : Closed R0 none X) (hS : le S X) : ∀ (R : List Rl) (N : List Bool), (∀ r ∈ R, r ∈ R0) → le N X → le (roundB none S R N) X
  | [], N, _, h => h
  | r :: R, N, hR, h => by
    unfold roundB
    refine round_le none S hX hS R _ (fun r' hr => hR r' (List.mem_cons_of_mem _ hr)) ?_
    split
    · rename_i ha
      intro v hv
      rcases (set_at _ _ _).1 hv with h1 | ⟨rfl, _⟩
      · exact h v h1
      · exact hX r (hR r (by simp)) (allB_mono hS ha)
    · exact h
/-- k rounds -/
def roundsB (R : List Rl) (none : Bool) : Nat → List Bool → List Bool
  | 0, S => S
  | k + 1, S => roundsB R none k (roundB none S R S)
theorem rounds_len (R : List Rl) (none : Bool) : ∀ (k : Nat) (S : List Bool), (roundsB R none k S).length = S.length
  | 0, S => rfl
  | k + 1, S => by rw [roundsB, rounds_len R none k, round_len]
theorem rounds_le (R : List Rl) (none : Bool) {X : List Bool} (hX : Closed R none X) : ∀ (k : Nat) (S : List Bool), le S X → le (roundsB R none k S) X
  | 0, S, h => h
  | k + 1, S, h => rounds_le R none hX k _ (round_le none S hX h R S (fun r hr => hr) h)
theorem round_closed {R : List Rl} {none : Bool} {S : List Bool} (hl : ∀ r ∈ R, r.left.toNat < S.length) (h : roundB none S R S = S) : Closed R none S := fun r hr ha => by
  have := round_has none S R S r hr ha (hl r hr)
  rwa [h] at this
theorem rounds_fix {R : List Rl} {none : Bool} {S : List Bool} (h : roundB none S R S = S) : ∀ k, roundsB R none k S = S
  | 0 => rfl
  | k + 1 => by rw [roundsB, h]; exact rounds_fix h k
theorem rounds_closed {R : List Rl} {none : Bool} : ∀ (k : Nat) (S : List Bool), (∀ r ∈ R, r.left.toNat < S.length) → S.length ≤ k + cnt S → Closed R none (roundsB R none k S)
  | 0, S, hl, hc => fun r hr _ => by
    have h1 := cnt_le S
    exact cnt_full (S := S) (by omega) _ (hl r hr)
  | k + 1, S, hl, hc => by
    have hlen := round_len none S R S
    by_cases h : roundB none S R S = S
    · rw [rounds_fix h]
      exact round_closed hl h
    · rw [roundsB]
      have hm := cnt_mono S (roundB none S R S) hlen.symm (round_ge none S R S)
      refine rounds_closed k _ (fun r hr => by rw [hlen]; exact hl r hr) ?_
      have hne : cnt S ≠ cnt (roundB none S R S) := fun e => h (hm.2 e).symm
      rw [hlen]
      omega
/-- what is closed and stands below all that is closed is the rounds' end -/
theorem least_rounds {R : List Rl} {none : Bool} {n : Nat} {S : List Bool} (hn : S.length = n) (hl : ∀ r ∈ R, r.left.toNat < n) (hc : Closed R none S) (hm : ∀ X : List Bool, X.length = n → Closed R none X → le S X) : S = roundsB R none n (List.replicate n false) := by
  have hlen : (roundsB R none n (List.replicate n false)).length = n := by rw [rounds_len]; simp
  refine le.anti (hm _ hlen (rounds_closed n _ (fun r hr => by simpa using hl r hr) (by simp))) (rounds_le R none hc n _ fun v hv => ?_) (by rw [hn, hlen])
  rw [List.getD_eq_getElem?_getD, List.getElem?_replicate] at hv
  split at hv <;> simp at hv
/-! what stands in a derivation of a word: rules in their place -/
def ClosedU (R : List Rl) (W : List Bool) (S : List Bool) : Prop := ∀ r ∈ R, at_ S r.left = true → allB W false r.right = true → ∀ s ∈ r.right, 0 ≤ s → at_ S s = true
/-- the variables of a form, one behind the other -/
def markF (W : List Bool) (r : Rl) : List Int → List Bool → List Bool
  | [], S => S
  | s :: F, S => markF W r F (if 0 ≤ s ∧ at_ S r.left = true ∧ allB W false r.right = true then S.set s.toNat true else S)
def markR (W : List Bool) : List Rl → List Bool → List Bool
  | [], S => S
  | r :: R, S => markR W R (markF W r r.right S)
def marksR (W : List Bool) (R : List Rl) : Nat → List Bool → List Bool
  | 0, S => S
  | k + 1, S => marksR W R k (markR W R S)
theorem markF_len (W : List Bool) (r : Rl) : ∀ (F : List Int) (S : List Bool), (markF W r F S).length = S.length
  | [], S => rfl
  | s :: F, S => by
    unfold markF
    rw [markF_len W r F]
    split <;> simp
theorem markF_ge (W : List Bool) (r : Rl) : ∀ (F : List Int) (S : List Bool), le S (markF W r F S)
  | [], S => le.refl _
  | s :: F, S => by
    unfold markF
    refine le.trans ?_ (markF_ge W r F _)
    split
    · exact fun v hv => (set_at _ _ _).2 (.inl hv)
    · exact le.refl _
theorem markR_len (W : List Bool) : ∀ (R : List Rl) (S : List Bool), (markR W R S).length = S.length
  | [], S => rfl
  | r :: R, S => by rw [markR, markR_len W R, markF_len]
theorem markR_ge (W : List Bool) : ∀ (R : List Rl) (S : List Bool), le S (markR W R S)
  | [], S => le.refl _
  | r :: R, S => le.trans (markF_ge W r r.right S) (markR_ge W R _)
theorem markF_le (W : List Bool) (r : Rl) {X : List Bool} (hX : at_ X r.left = true → allB W false r.right = true → ∀ s ∈ r.right, 0 ≤ s → at_ X s = true) : ∀ (F : List Int) (S : List Bool), (∀ s ∈ F, s ∈ r.right) → le S X → le (markF W r F S) X
  | [], S, _, h => h
  | s :: F, S, hF, h => by
    unfold markF
    refine markF_le W r hX F _ (fun t ht => hF t (List.mem_cons_of_mem _ ht)) ?_
    split
    · rename_i hc
      intro v hv
      rcases (set_at _ _ _).1 hv with h1 | ⟨rfl, _⟩
      · exact h v h1
      · exact hX (h _ hc.2.1) hc.2.2 s (hF s (by simp)) hc.1
    · exact h
theorem markR_le (W : List Bool) {X : List Bool} {R0 : List Rl} (hX : ClosedU R0 W X) : ∀ (R : List Rl) (S : List Bool), (∀ r ∈ R, r ∈ R0) → le S X → le (markR W R S) X
  | [], S, _, h => h
  | r :: R, S, hR, h => markR_le W hX R _ (fun t ht => hR t (List.mem_cons_of_mem _ ht)) (markF_le W r (hX r (hR r (by simp))) r.right S (fun _ h => h) h)
theorem marksR_len (W : List Bool) (R : List Rl) : ∀ (k : Nat) (S : List Bool), (marksR W R k S).length = S.length
  | 0, S => rfl
  | k + 1, S => by rw [marksR, marksR_len W R k, markR_len]
theorem marksR_le (W : List Bool) (R : List Rl) {X : List Bool} (hX : ClosedU R W X) : ∀ (k : Nat) (S : List Bool), le S X → le (marksR W R k S) X
  | 0, S, h => h
  | k + 1, S, h => marksR_le W R hX k _ (markR_le W hX R S (fun _ h => h) h)
theorem marksR_ge (W : List Bool) (R : List Rl) : ∀ (k : Nat) (S : List Bool), le S (marksR W R k S)
  | 0, S => le.refl _
  | k + 1, S => le.trans (markR_ge W R S) (marksR_ge W R k _)
/-- whatever is marked from is marked then -/
theorem markF_has (W : List Bool) (r : Rl) : ∀ (F : List Int) (S : List Bool) (s : Int), s ∈ F → 0 ≤ s → s.toNat < S.length → at_ S r.left = true → allB W false r.right = true → at_ (markF W r F S) s = true
  | t :: F, S, s, hm, h0, hl, hs, ha => by
    unfold markF
    rcases List.mem_cons.1 hm with rfl | hm
    · rw [if_pos ⟨h0, hs, ha⟩]
      exact markF_ge W r F _ _ ((set_at _ _ _).2 (.inr ⟨rfl, hl⟩))
    · refine markF_has W r F _ s hm h0 (by split <;> simpa using hl) ?_ ha
      split
      · exact (set_at _ _ _).2 (.inl hs)
      · exact hs
theorem markR_has (W : List Bool) : ∀ (R : List Rl) (S : List Bool) (r : Rl) (s : Int), r ∈ R → s ∈ r.right → 0 ≤ s → s.toNat < S.length → at_ S r.left = true → allB W false r.right = true → at_ (markR W R S) s = true
  | q :: R, S, r, s, hm, hs, h0, hl, ha, hb => by
    rw [markR]
    rcases List.mem_cons.1 hm with rfl | hm
    · exact markR_ge W R _ _ (markF_has W r r.right S s hs h0 hl ha hb)
    · exact markR_has W R _ r s hm hs h0 (by rw [markF_len]; exact hl) (markF_ge W q q.right S _ ha) hb
theorem markR_closed {W : List Bool} {R : List Rl} {S : List Bool} (hv : ∀ r ∈ R, ∀ s ∈ r.right, 0 ≤ s → s.toNat < S.length) (h : markR W R S = S) : ClosedU R W S := fun r hr ha hb s hs h0 => by
  have := markR_has W R S r s hr hs h0 (hv r hr s hs h0) ha hb
  rwa [h] at this
theorem marksR_fix {W : List Bool} {R : List Rl} {S : List Bool} (h : markR W R S = S) : ∀ k, marksR W R k S = S
  | 0 => rfl
  | k + 1 => by rw [marksR, h]; exact marksR_fix h k
theorem marksR_closed {W : List Bool} {R : List Rl} : ∀ (k : Nat) (S : List Bool), (∀ r ∈ R, ∀ s ∈ r.right, 0 ≤ s → s.toNat < S.length) → S.length ≤ k + cnt S → ClosedU R W (marksR W R k S)
  | 0, S, hv, hc => fun r hr _ _ s hs h0 => by
    have h1 := cnt_le S
    exact cnt_full (S := S) (by omega) _ (hv r hr s hs h0)
  | k + 1, S, hv, hc => by
    have hlen := markR_len W R S
    by_cases h : markR W R S = S
    · rw [marksR_fix h]
      exact markR_closed hv h
    · rw [marksR]
      have hm := cnt_mono S (markR W R S) hlen.symm (markR_ge W R S)
      refine marksR_closed k _ (fun r hr => by rw [hlen]; exact hv r hr) ?_
      have hne : cnt S ≠ cnt (markR W R S) := fun e => h (hm.2 e).symm
      rw [hlen]
      omega
/-- what is closed, has the first ones and stands below all such is the passes' end -/
theorem least_marks {W : List Bool} {R : List Rl} {n : Nat} {S S0 : List Bool} (h0 : S0.length = n) (hn : S.length = n) (hv : ∀ r ∈ R, ∀ s ∈ r.right, 0 ≤ s → s.toNat < n) (hc : ClosedU R W S) (hs : le S0 S) (hm : ∀ X : List Bool, X.length = n → ClosedU R W X → le S0 X → le S X) : S = marksR W R n S0 := by
  have hlen : (marksR W R n S0).length = n := by rw [marksR_len]; exact h0
  exact le.anti (hm _ hlen (marksR_closed n _ (fun r hr s h => by rw [h0]; exact hv r hr s h) (by omega)) (marksR_ge W R n S0)) (marksR_le W R hc n _ hs) (by rw [hn, hlen])
/-! how long shortest words are -/
def Far : Nat := 1073741824
def sumC (f : Nat → Nat) (F : List Int) : Nat := (F.map fun s => if s < 0 then 1 else f s.toNat).sum
theorem sumC_mono {f g : Nat → Nat} : ∀ (F : List Int), (∀ s ∈ F, 0 ≤ s → f s.toNat ≤ g s.toNat) → sumC f F ≤ sumC g F
  | [], _ => Nat.le_refl _
  | s :: F, h => by
    have h1 := sumC_mono F (fun t ht => h t (List.mem_cons_of_mem _ ht))
    have h2 := h s (by simp)
    unfold sumC at *
    simp only [List.map_cons, List.sum_cons]
    split
    · omega
    · have := h2 (by omega)
      omega
theorem sumC_more {f g : Nat → Nat} (hfg : ∀ v, f v ≤ g v) : ∀ (F : List Int), (∃ s ∈ F, 0 ≤ s ∧ f s.toNat + 1 ≤ g s.toNat) → sumC f F + 1 ≤ sumC g F
  | [], ⟨s, hs, _⟩ => by cases hs
  | s :: F, ⟨t, ht, h0, h1⟩ => by
    have hm : sumC f F ≤ sumC g F := sumC_mono F (fun t _ _ => hfg _)
    rcases List.mem_cons.1 ht with rfl | ht
    · unfold sumC at *
      simp only [List.map_cons, List.sum_cons]
      rw [if_neg (by omega), if_neg (by omega)]
      omega
    · have h2 := sumC_more hfg F ⟨t, ht, h0, h1⟩
      have := hfg s.toNat
      unfold sumC at *
      simp only [List.map_cons, List.sum_cons]
      split <;> omega
theorem sumC_eq {f g : Nat → Nat} (F : List Int) (h : ∀ s ∈ F, 0 ≤ s → f s.toNat = g s.toNat) : sumC f F = sumC g F :=
  Nat.le_antisymm (sumC_mono F fun s hs h0 => Nat.le_of_eq (h s hs h0)) (sumC_mono F fun s hs h0 => Nat.le_of_eq (h s hs h0).symm)
theorem sumC_far {f : Nat → Nat} : ∀ (F : List Int), (∃ s ∈ F, 0 ≤ s ∧ Far ≤ f s.toNat) → Far ≤ sumC f F
  | [], ⟨s, hs, _⟩ => by cases hs
  | s :: F, ⟨t, ht, h0, h1⟩ => by
    rcases List.mem_cons.1 ht with rfl | ht
    · unfold sumC
      simp only [List.map_cons, List.sum_cons]
      rw [if_neg (by omega)]
      omega
    · have := sumC_far F ⟨t, ht, h0, h1⟩
      unfold sumC at *
      simp only [List.map_cons, List.sum_cons]
      omega
/-- no rule makes anything shorter -/
def InT (R : List Rl) (f : Nat → Nat) : Prop := ∀ r ∈ R, f r.left.toNat ≤ sumC f r.right
def upd (f : Nat → Nat) (k u : Nat) : Nat → Nat := fun v => if v = k then u else f v
/-- one pass of the document's -/
def passF : List Rl → (Nat → Nat) → Nat → Nat
  | [], f => f
  | r :: R, f => passF R (upd f r.left.toNat (min (f r.left.toNat) (sumC f r.right)))
def passesF (R : List Rl) : Nat → (Nat → Nat) → Nat → Nat
  | 0, f => f
  | k + 1, f => passesF R k (passF R f)
theorem upd_le (f : Nat → Nat) (k u : Nat) (h : u ≤ f k) (v : Nat) : upd f k u v ≤ f v := by
  unfold upd
  split
  · rename_i e; rw [e]; exact h
  · exact Nat.le_refl _
theorem pass_le : ∀ (R : List Rl) (f : Nat → Nat) (v : Nat), passF R f v ≤ f v
  | [], f, v => Nat.le_refl _
  | r :: R, f, v => Nat.le_trans (pass_le R _ v) (upd_le f _ _ (Nat.min_le_left _ _) v)
theorem pass_ge {R0 : List Rl} {D : Nat → Nat} (hD : InT R0 D) : ∀ (R : List Rl) (f : Nat → Nat), (∀ r ∈ R, r ∈ R0) → (∀ v, D v ≤ f v) → ∀ v, D v ≤ passF R f v
  | [], f, _, h, v => h v
  | r :: R, f, hR, h, v => by
    refine pass_ge hD R _ (fun t ht => hR t (List.mem_cons_of_mem _ ht)) (fun u => ?_) v
    unfold upd
    split
    · rename_i e
      rw [e]
      have h1 := hD r (hR r (by simp))
      have h2 := sumC_mono (f := D) (g := f) r.right (fun s _ _ => h _)
      have h3 := h r.left.toNat
      omega
    · exact h u
/-- a rule whose variables are known makes its own known -/
theorem pass_has {R0 : List Rl} {D : Nat → Nat} (hD : InT R0 D) : ∀ (R : List Rl) (f : Nat → Nat), (∀ r ∈ R, r ∈ R0) → (∀ v, D v ≤ f v) → ∀ r ∈ R, sumC D r.right ≤ D r.left.toNat → (∀ s ∈ r.right, 0 ≤ s → f s.toNat = D s.toNat) → passF R f r.left.toNat = D r.left.toNat
  | q :: R, f, hR, h, r, hr, hs, hf => by
    have hge : ∀ v, D v ≤ upd f q.left.toNat (min (f q.left.toNat) (sumC f q.right)) v := pass_ge hD [q] f (fun t ht => by rw [List.mem_singleton.1 ht]; exact hR q (by simp)) h
    have hle : ∀ v, upd f q.left.toNat (min (f q.left.toNat) (sumC f q.right)) v ≤ f v := fun v => upd_le f _ _ (Nat.min_le_left _ _) v
    have hR' : ∀ t ∈ R, t ∈ R0 := fun t ht => hR t (List.mem_cons_of_mem _ ht)
    rcases List.mem_cons.1 hr with rfl | hr
    · have e := sumC_eq r.right hf
      have h1 : upd f r.left.toNat (min (f r.left.toNat) (sumC f r.right)) r.left.toNat ≤ D r.left.toNat := by
        unfold upd
        rw [if_pos rfl, e]
        omega
      have h2 := pass_le R (upd f r.left.toNat (min (f r.left.toNat) (sumC f r.right))) r.left.toNat
      have h3 := pass_ge hD R _ hR' hge r.left.toNat
      show passF R _ _ = _
      omega
    · exact pass_has hD R _ hR' hge r hr hs (fun s hs' h0 => Nat.le_antisymm (Nat.le_trans (hle _) (Nat.le_of_eq (hf s hs' h0))) (hge _))
/-- among those that aren't known yet is one that will be -/
theorem next_known {R : List Rl} {n : Nat} {D f : Nat → Nat} (hD : InT R D) (hF : ∀ v, D v ≤ Far) (hn : ∀ v, n ≤ v → D v = Far) (hmax : ∀ g : Nat → Nat, InT R g → (∀ v, g v ≤ Far) → ∀ v, g v ≤ D v) (hf : ∀ v, D v ≤ f v) (hff : ∀ v, f v ≤ Far) (v : Nat) (hv : f v ≠ D v) :
    ∃ r ∈ R, f r.left.toNat ≠ D r.left.toNat ∧ sumC D r.right ≤ D r.left.toNat ∧ ∀ s ∈ r.right, 0 ≤ s → f s.toNat = D s.toNat := by
  apply Classical.byContradiction
  intro hno
  have hY : InT R (fun u => if f u = D u then D u else min (D u + 1) Far) := by
    intro r hr
    have hge : ∀ u, D u ≤ (if f u = D u then D u else min (D u + 1) Far) := fun u => by
      have := hF u
      split <;> omega
    have h1 := hD r hr
    have h2 := sumC_mono (f := D) (g := fun u => if f u = D u then D u else min (D u + 1) Far) r.right (fun s _ _ => hge _)
    show (if f r.left.toNat = D r.left.toNat then D r.left.toNat else min (D r.left.toNat + 1) Far) ≤ _
    by_cases hl : f r.left.toNat = D r.left.toNat
    · rw [if_pos hl]; omega
    · rw [if_neg hl]
      by_cases hall : ∀ s ∈ r.right, 0 ≤ s → f s.toNat = D s.toNat
      · have : ¬ sumC D r.right ≤ D r.left.toNat := fun h => hno ⟨r, hr, hl, h, hall⟩
        omega
      · have hex : ∃ s ∈ r.right, 0 ≤ s ∧ f s.toNat ≠ D s.toNat := by
          apply Classical.byContradiction
          intro h
          exact hall fun s hs h0 => Classical.byContradiction fun e => h ⟨s, hs, h0, e⟩
        obtain ⟨s, hs, h0, hne⟩ := hex
        by_cases hfar : D s.toNat < Far
        · have := sumC_more (f := D) (g := fun u => if f u = D u then D u else min (D u + 1) Far) hge r.right ⟨s, hs, h0, by
            show D s.toNat + 1 ≤ (if f s.toNat = D s.toNat then D s.toNat else min (D s.toNat + 1) Far)
            rw [if_neg hne]; omega⟩
          omega
        · have h3 := hf s.toNat
          have h4 := hff s.toNat
          omega
  have hb := hmax _ hY (fun u => by
    have := hF u
    show (if f u = D u then D u else min (D u + 1) Far) ≤ Far
    split <;> omega) v
  have h1 := hf v
  have h2 := hff v
  rw [if_neg hv] at hb
  omega
def uns (n : Nat) (D f : Nat → Nat) : Nat := ((List.range n).filter fun v => decide (f v ≠ D v)).length
theorem filter_lt {p q : Nat → Bool} : ∀ (l : List Nat), (∀ v ∈ l, q v = true → p v = true) → (∃ v ∈ l, p v = true ∧ q v = false) → (l.filter q).length + 1 ≤ (l.filter p).length
  | [], _, ⟨v, hv, _⟩ => by cases hv
  | a :: l, h, ⟨v, hv, h1, h2⟩ => by
    have hsub : (l.filter q).length ≤ (l.filter p).length := by
      rw [← List.countP_eq_length_filter, ← List.countP_eq_length_filter]
      exact List.countP_mono_left fun v hv hq => h v (List.mem_cons_of_mem _ hv) hq
    rcases List.mem_cons.1 hv with rfl | hv
    · rw [List.filter_cons, List.filter_cons, if_pos h1, h2]
      simp
      omega
    · have ih := filter_lt l (fun v hv => h v (List.mem_cons_of_mem _ hv)) ⟨v, hv, h1, h2⟩
      have ha := h a (by simp)
      rw [List.filter_cons, List.filter_cons]
      cases hq : q a
      · cases hp : p a <;> simp <;> omega
      · rw [ha hq]; simp; omega
theorem passes_known {R : List Rl} {n : Nat} {D : Nat → Nat} (hl : ∀ r ∈ R, r.left.toNat < n) (hD : InT R D) (hF : ∀ v, D v ≤ Far) (hn : ∀ v, n ≤ v → D v = Far) (hmax : ∀ g : Nat → Nat, InT R g → (∀ v, g v ≤ Far) → ∀ v, g v ≤ D v) :
    ∀ (k : Nat) (f : Nat → Nat), (∀ v, D v ≤ f v) → (∀ v, f v ≤ Far) → uns n D f ≤ k → ∀ v, passesF R k f v = D v
  | 0, f, hf, hff, hu, v => by
    apply Classical.byContradiction
    intro hv
    by_cases hvn : v < n
    · have hm : v ∈ (List.range n).filter fun v => decide (f v ≠ D v) := by
        rw [List.mem_filter]
        exact ⟨by simpa using hvn, decide_eq_true (show f v ≠ D v from hv)⟩
      have := List.length_pos_of_mem hm
      unfold uns at hu
      omega
    · have h1 := hn v (by omega)
      have h2 := hf v
      have h3 := hff v
      exact hv (show f v = D v by omega)
  | k + 1, f, hf, hff, hu, v => by
    refine passes_known hl hD hF hn hmax k _ (pass_ge hD R f (fun _ h => h) hf) (fun v => Nat.le_trans (pass_le R f v) (hff v)) ?_ v
    have hle := pass_le R f
    have hge := pass_ge hD R f (fun _ h => h) hf
    by_cases hall : ∀ v, f v = D v
    · have : uns n D (passF R f) = 0 := by
        unfold uns
        rw [List.length_eq_zero_iff, List.filter_eq_nil_iff]
        intro v _
        have h1 := hall v
        have h2 := hle v
        have h3 := hge v
        simp
        omega
      omega
    · have hex : ∃ v, f v ≠ D v := by
        apply Classical.byContradiction
        intro h
        exact hall fun v => Classical.byContradiction fun e => h ⟨v, e⟩
      obtain ⟨u, hu2⟩ := hex
      obtain ⟨r, hr, h1, h2, h3⟩ := next_known hD hF hn hmax hf hff u hu2
      have h4 := pass_has hD R f (fun _ h => h) hf r hr h2 h3
      have := filter_lt (p := fun v => decide (f v ≠ D v)) (q := fun v => decide (passF R f v ≠ D v)) (List.range n) (fun v _ hq => by
        have a := hle v
        have b := hge v
        simp at hq ⊢
        omega) ⟨r.left.toNat, by simpa using hl r hr, by simpa using h1, by simpa using h4⟩
      unfold uns at *
      omega
/-! ways: of how many terminals, by how many steps, and by which rule first -/
abbrev Way := Nat × Nat × Int
def noW : Way := (Far, Far, -1)
def wat (W : List Way) (s : Int) : Way := if s < 0 then (1, 0, -1) else W.getD s.toNat noW
def cS (W : List Way) (F : List Int) : Nat := (F.map fun s => (wat W s).1).sum
def sS (W : List Way) (F : List Int) : Nat := (F.map fun s => (wat W s).2.1).sum
def wayB (W : List Way) (i : Nat) (F : List Int) : Way := if Far ≤ cS W F then noW else (cS W F, min (1 + sS W F) Far, (i : Int))
/-- w is ahead of o -/
def ahd (w o : Way) : Prop := w.1 < o.1 ∨ (w.1 = o.1 ∧ w.2.1 < o.2.1)
/-- w isn't behind o -/
def leq (w o : Way) : Prop := w.1 < o.1 ∨ (w.1 = o.1 ∧ w.2.1 ≤ o.2.1)
theorem leq.refl (w : Way) : leq w w := .inr ⟨rfl, Nat.le_refl _⟩
theorem leq.trans {a b c : Way} (h : leq a b) (k : leq b c) : leq a c := by unfold leq at *; omega
theorem not_ahd {w o : Way} (h : leq o w) : ¬ ahd w o := by unfold leq ahd at *; omega
theorem ahd.leq {w o : Way} (h : ahd w o) : leq w o := by unfold ahd at h; unfold dv.leq; omega
theorem leq_of_not {w o : Way} (h : ¬ ahd w o) : leq o w := by unfold ahd at h; unfold leq; omega
theorem sum_ge (g : Int → Nat) : ∀ (F : List Int) (s : Int), s ∈ F → g s ≤ (F.map g).sum
  | t :: F, s, h => by
    simp only [List.map_cons, List.sum_cons]
    rcases List.mem_cons.1 h with rfl | h
    · omega
    · have := sum_ge g F s h; omega
structure Inv (R : List Rl) (n : Nat) (W : List Way) : Prop where
  len : W.length = n
  small : ∀ v, (W.getD v noW).1 ≤ Far ∧ (W.getD v noW).2.1 ≤ Far
  form : ∀ v, W.getD v noW = noW ∨ ((W.getD v noW).1 < Far ∧ ∃ (k : Nat) (r : Rl), (W.getD v noW).2.2 = k ∧ R[k]? = some r ∧ r.left = v ∧ leq (wayB W k r.right) (W.getD v noW))
  rank : ∃ rk : Nat → Nat, ∀ v (k : Nat) (r : Rl), (W.getD v noW).2.2 = k → R[k]? = some r → ∀ s ∈ r.right, 0 ≤ s → rk s.toNat < rk v
theorem far_lt {W : List Way} {F : List Int} (h : cS W F < Far) (s : Int) (hs : s ∈ F) : (wat W s).1 < Far := by
  have := sum_ge (fun s => (wat W s).1) F s hs
  unfold cS at h
  omega
theorem wat_var {W : List Way} {s : Int} (h : 0 ≤ s) : wat W s = W.getD s.toNat noW := by unfold wat; rw [if_neg (by omega)]
/-- what a way is made of isn't behind it -/
theorem way_ge {W : List Way} {i : Nat} {F : List Int} {s : Int} (hs : s ∈ F) (h0 : 0 ≤ s) (hsm : (W.getD s.toNat noW).1 ≤ Far ∧ (W.getD s.toNat noW).2.1 ≤ Far) : leq (W.getD s.toNat noW) (wayB W i F) := by
  have h1 := sum_ge (fun s => (wat W s).1) F s hs
  have h2 := sum_ge (fun s => (wat W s).2.1) F s hs
  simp only [wat_var h0] at h1 h2
  unfold wayB
  split
  · unfold leq noW at *; simp only at *; omega
  · unfold leq cS sS at *; simp only at *; omega
/-- from x one comes to v by first rules -/
inductive Rch (R : List Rl) (W : List Way) (v : Nat) : Nat → Prop
  | self : Rch R W v v
  | step {x : Nat} {k : Nat} {r : Rl} {s : Int} (h1 : (W.getD x noW).2.2 = k) (h2 : R[k]? = some r) (h3 : s ∈ r.right) (h4 : 0 ≤ s) (h5 : Rch R W v s.toNat) : Rch R W v x
theorem rch_leq {R : List Rl} {n : Nat} {W : List Way} (hI : Inv R n W) {v x : Nat} (h : Rch R W v x) : leq (W.getD v noW) (W.getD x noW) := by
  induction h with
  | self => exact leq.refl _
  | @step x k r s h1 h2 h3 h4 _ ih =>
    refine ih.trans ?_
    rcases hI.form x with he | ⟨_, k', r', e1, e2, _, e3⟩
    · rw [he] at h1
      unfold noW at h1
      simp only at h1
      omega
    · obtain rfl : k = k' := by omega
      rw [h2] at e2
      cases e2
      exact (way_ge h3 h4 (hI.small _)).trans e3
theorem getD_set (W : List Way) (k v : Nat) (w : Way) : (W.set k w).getD v noW = if v = k ∧ k < W.length then w else W.getD v noW := by
  rw [List.getD_eq_getElem?_getD, List.getD_eq_getElem?_getD, List.getElem?_set]
  by_cases h : k = v
  · subst h
    rw [if_pos rfl]
    by_cases hl : k < W.length
    · simp [hl]
    · simp [hl]
  · rw [if_neg h, if_neg (by omega)]
theorem sum_mono {g h : Int → Nat} : ∀ (F : List Int), (∀ s ∈ F, g s ≤ h s) → (F.map g).sum ≤ (F.map h).sum
  | [], _ => Nat.le_refl _
  | s :: F, hh => by
    have h1 := sum_mono F (fun t ht => hh t (List.mem_cons_of_mem _ ht))
    have h2 := hh s (by simp)
    simp only [List.map_cons, List.sum_cons]
    omega
/-- with better ones a way is no worse -/
theorem sums_leq {W W' : List Way} (h : ∀ s, leq (wat W' s) (wat W s)) : ∀ (F : List Int), cS W' F < cS W F ∨ (cS W' F = cS W F ∧ sS W' F ≤ sS W F)
  | [] => .inr ⟨rfl, Nat.le_refl _⟩
  | s :: F => by
    have h1 := h s
    have h2 := sums_leq h F
    unfold leq at h1
    unfold cS sS at *
    simp only [List.map_cons, List.sum_cons]
    omega
theorem way_mono {W W' : List Way} (h : ∀ s, leq (wat W' s) (wat W s)) (i : Nat) (F : List Int) : leq (wayB W' i F) (wayB W i F) := by
  have := sums_leq h F
  unfold wayB
  split
  · rename_i h1
    rw [if_pos (by omega)]
    exact leq.refl _
  · rename_i h1
    split
    · unfold leq noW; simp only; omega
    · unfold leq; simp only; omega
/-- a better way is taken -/
theorem inv_step {R : List Rl} {n : Nat} {W : List Way} (hI : Inv R n W) {i : Nat} {r : Rl} (hr : R[i]? = some r) (h0 : 0 ≤ r.left) (hl : r.left.toNat < n) (ha : ahd (wayB W i r.right) (W.getD r.left.toNat noW)) : Inv R n (W.set r.left.toNat (wayB W i r.right)) := by
  have hlen := hI.len
  have hc : ¬ Far ≤ cS W r.right := fun h => by
    unfold wayB at ha
    rw [if_pos h] at ha
    have := hI.small r.left.toNat
    unfold ahd noW at ha
    simp only at ha
    unfold noW at *
    omega
  have hw : wayB W i r.right = (cS W r.right, min (1 + sS W r.right) Far, (i : Int)) := by unfold wayB; rw [if_neg hc]
  have hget : ∀ v, (W.set r.left.toNat (wayB W i r.right)).getD v noW = if v = r.left.toNat then wayB W i r.right else W.getD v noW := fun v => by
    rw [getD_set]
    by_cases hv : v = r.left.toNat
    · rw [if_pos ⟨hv, by omega⟩, if_pos hv]
    · rw [if_neg (fun h => hv h.1), if_neg hv]
  have hle : ∀ s, leq (wat (W.set r.left.toNat (wayB W i r.right)) s) (wat W s) := fun s => by
    unfold wat
    split
    · exact leq.refl _
    · rw [hget]
      split
      · rename_i e
        rw [e]
        exact ha.leq
      · exact leq.refl _
  have hno : ∀ s ∈ r.right, 0 ≤ s → ¬ Rch R W r.left.toNat s.toNat := fun s hs hs0 hrc =>
    not_ahd ((rch_leq hI hrc).trans (way_ge (i := i) hs hs0 (hI.small _))) ha
  obtain ⟨rk, hrk⟩ := hI.rank
  refine ⟨by simpa using hlen, fun v => ?_, fun v => ?_, ?_⟩
  · rw [hget]
    split
    · rw [hw]
      simp only
      omega
    · exact hI.small v
  · rw [hget]
    split
    · rename_i e
      subst e
      refine .inr ⟨by rw [hw]; simp only; omega, i, r, by rw [hw], hr, by omega, ?_⟩
      exact way_mono hle i r.right
    · rename_i e
      rcases hI.form v with h | ⟨h1, k, q, h2, h3, h4, h5⟩
      · exact .inl h
      · exact .inr ⟨h1, k, q, h2, h3, h4, (way_mono hle k q.right).trans h5⟩
  · refine ⟨fun x => (@ite _ (Rch R W r.left.toNat x) (Classical.propDecidable _) (rk x + (1 + (r.right.map fun s => rk s.toNat).sum)) (rk x)), ?_⟩
    intro v k q h1 h2 s hs hs0
    rw [hget] at h1
    by_cases hv : v = r.left.toNat
    · rw [if_pos hv, hw] at h1
      simp only at h1
      obtain rfl : i = k := by omega
      rw [hr] at h2
      cases h2
      have hn := hno s hs hs0
      have hsum := sum_ge (fun s => rk s.toNat) r.right s hs
      simp only [if_neg hn, if_pos (show Rch R W r.left.toNat v from hv ▸ Rch.self)]
      omega
    · rw [if_neg hv] at h1
      have hlt := hrk v k q h1 h2 s hs hs0
      by_cases hs2 : Rch R W r.left.toNat s.toNat
      · simp only [if_pos hs2, if_pos (Rch.step h1 h2 hs hs0 hs2)]
        omega
      · simp only [if_neg hs2]
        split <;> omega
/-- what comes rule by rule, round by round -/
inductive Trc (R : List Rl) (n : Nat) : Nat → List Way → Prop
  | start : Trc R n 0 (List.replicate n noW)
  | keep {k : Nat} {W : List Way} {r : Rl} : Trc R n k W → R[k % R.length]? = some r → ¬ ahd (wayB W (k % R.length) r.right) (W.getD r.left.toNat noW) → Trc R n (k + 1) W
  | put {k : Nat} {W : List Way} {r : Rl} : Trc R n k W → R[k % R.length]? = some r → ahd (wayB W (k % R.length) r.right) (W.getD r.left.toNat noW) → Trc R n (k + 1) (W.set r.left.toNat (wayB W (k % R.length) r.right))
theorem Trc.one {R : List Rl} {n : Nat} : ∀ {k : Nat} {W X : List Way}, Trc R n k W → Trc R n k X → W = X := by
  intro k
  induction k with
  | zero =>
    intro W X h h'
    cases h
    cases h'
    rfl
  | succ k ih =>
    intro W X h h'
    cases h with
    | keep h1 h2 h3 =>
      cases h' with
      | keep k1 k2 k3 => exact ih h1 k1
      | put k1 k2 k3 =>
        obtain rfl := ih h1 k1
        rw [h2] at k2
        cases k2
        exact absurd k3 h3
    | put h1 h2 h3 =>
      cases h' with
      | keep k1 k2 k3 =>
        obtain rfl := ih h1 k1
        rw [h2] at k2
        cases k2
        exact absurd h3 k3
      | put k1 k2 k3 =>
        obtain rfl := ih h1 k1
        rw [h2] at k2
        cases k2
        rfl
/-- the trace at a place of a round -/
def AtW (R : List Rl) (n i : Nat) (W : List Way) : Prop := ∃ m, Trc R n (m * R.length + i) W
theorem AtW.start (R : List Rl) (n : Nat) : AtW R n 0 (List.replicate n noW) := ⟨0, by rw [Nat.zero_mul]; exact .start⟩
theorem AtW.turn {R : List Rl} {n : Nat} {W : List Way} (h : AtW R n R.length W) : AtW R n 0 W := by
  obtain ⟨m, h⟩ := h
  exact ⟨m + 1, by rw [Nat.add_mul, Nat.one_mul]; exact h⟩
theorem at_mod {L m i : Nat} (h : i < L) : (m * L + i) % L = i := by rw [Nat.mul_comm, Nat.mul_add_mod, Nat.mod_eq_of_lt h]
theorem AtW.keep {R : List Rl} {n i : Nat} {W : List Way} {r : Rl} (h : AtW R n i W) (hr : R[i]? = some r) (hn : ¬ ahd (wayB W i r.right) (W.getD r.left.toNat noW)) : AtW R n (i + 1) W := by
  obtain ⟨m, h⟩ := h
  have hi := at_mod (m := m) (List.getElem?_eq_some_iff.1 hr).1
  have := Trc.keep (r := r) h (by rw [hi]; exact hr) (by rw [hi]; exact hn)
  exact ⟨m, this⟩
theorem AtW.put {R : List Rl} {n i : Nat} {W : List Way} {r : Rl} (h : AtW R n i W) (hr : R[i]? = some r) (hn : ahd (wayB W i r.right) (W.getD r.left.toNat noW)) : AtW R n (i + 1) (W.set r.left.toNat (wayB W i r.right)) := by
  obtain ⟨m, h⟩ := h
  have hi := at_mod (m := m) (List.getElem?_eq_some_iff.1 hr).1
  have := Trc.put (r := r) h (by rw [hi]; exact hr) (by rw [hi]; exact hn)
  rw [hi] at this
  exact ⟨m, this⟩
/-- nothing gets better any more; and it came rule by rule -/
def Done (R : List Rl) (W : List Way) : Prop := (∀ (i : Nat) (r : Rl), R[i]? = some r → ¬ ahd (wayB W i r.right) (W.getD r.left.toNat noW)) ∧ AtW R W.length 0 W
theorem Done.stay {R : List Rl} {n k : Nat} {W : List Way} (hd : Done R W) (h : Trc R n k W) : ∀ (d : Nat) (X : List Way), Trc R n (k + d) X → X = W
  | 0, X, hx => hx.one h
  | d + 1, X, hx => by
    have hx' : Trc R n (k + d + 1) X := hx
    cases hx' with
    | keep h1 h2 h3 => exact hd.stay h d _ h1
    | put h1 h2 h3 =>
      obtain rfl := hd.stay h d _ h1
      exact absurd h3 (hd.1 _ _ h2)
theorem done_one {R : List Rl} {W X : List Way} (hd : Done R W) (he : Done R X) (hl : W.length = X.length) : W = X := by
  obtain ⟨m, hm⟩ := hd.2
  obtain ⟨k, hk⟩ := he.2
  rw [hl] at hm
  rcases Nat.le_total (m * R.length + 0) (k * R.length + 0) with h | h
  · exact (hd.stay hm (k * R.length + 0 - (m * R.length + 0)) X (by rw [Nat.add_sub_cancel' h]; exact hk)).symm
  · exact he.stay hk (m * R.length + 0 - (k * R.length + 0)) W (by rw [Nat.add_sub_cancel' h]; exact hm)
theorem way_eq {R : List Rl} {n : Nat} {W : List Way} (hI : Inv R n W) (hd : Done R W) {v k : Nat} {r : Rl} (h : (W.getD v noW).2.2 = k) (hr : R[k]? = some r) : r.left = v ∧ cS W r.right < Far ∧ (W.getD v noW).1 = cS W r.right ∧ (W.getD v noW).2.1 = min (1 + sS W r.right) Far := by
  rcases hI.form v with he | ⟨h1, k', r', e1, e2, e3, e4⟩
  · rw [he] at h
    unfold noW at h
    simp only at h
    omega
  · obtain rfl : k = k' := by omega
    rw [hr] at e2
    cases e2
    have h5 := leq_of_not (hd.1 k r hr)
    rw [show r.left.toNat = v by omega] at h5
    have h6 : ¬ Far ≤ cS W r.right := fun hf => by
      unfold wayB at e4
      rw [if_pos hf] at e4
      unfold leq noW at e4
      simp only at e4
      unfold noW at *
      omega
    unfold wayB at e4 h5
    rw [if_neg h6] at e4 h5
    unfold leq at e4 h5
    simp only at e4 h5
    exact ⟨e3, by omega, by omega, by omega⟩
theorem cost_inT {R : List Rl} {n : Nat} {W : List Way} (hI : Inv R n W) (hd : Done R W) (hl : ∀ r ∈ R, 0 ≤ r.left) : InT R (fun v => (W.getD v noW).1) := fun r hr => by
  obtain ⟨i, hi, rfl⟩ := List.mem_iff_getElem.1 hr
  have h5 := leq_of_not (hd.1 i _ (List.getElem?_eq_getElem hi))
  have hs := hI.small R[i].left.toNat
  have e : cS W R[i].right = sumC (fun v => (W.getD v noW).1) R[i].right := by
    unfold cS sumC
    congr 1
    apply List.map_congr_left
    intro s _
    unfold wat
    split <;> rfl
  show (W.getD R[i].left.toNat noW).1 ≤ _
  rw [← e]
  unfold wayB at h5
  split at h5
  · omega
  · unfold leq at h5
    try simp only at h5
    omega
/-- what the ways cost is the greatest that no rule undercuts -/
theorem cost_max {R : List Rl} {n : Nat} {W : List Way} (hI : Inv R n W) (hd : Done R W) {g : Nat → Nat} (hg : InT R g) (hF : ∀ v, g v ≤ Far) : ∀ v, g v ≤ (W.getD v noW).1 := by
  obtain ⟨rk, hrk⟩ := hI.rank
  have main : ∀ (d v : Nat), rk v ≤ d → g v ≤ (W.getD v noW).1 := by
    intro d
    induction d with
    | zero =>
      intro v hv
      rcases hI.form v with he | ⟨h1, k, r, e1, e2, e3, e4⟩
      · rw [he]; exact hF v
      · obtain ⟨_, _, e5, _⟩ := way_eq hI hd e1 e2
        have hv2 := hg r (List.mem_of_getElem? e2)
        rw [show r.left.toNat = v by omega] at hv2
        refine Nat.le_trans hv2 (e5 ▸ ?_)
        have e : cS W r.right = sumC (fun v => (W.getD v noW).1) r.right := by
          unfold cS sumC
          congr 1
          apply List.map_congr_left
          intro s _
          unfold wat
          split <;> rfl
        rw [e]
        exact sumC_mono r.right (fun s hs h0 => absurd (hrk v k r e1 e2 s hs h0) (by omega))
    | succ d ih =>
      intro v hv
      rcases hI.form v with he | ⟨h1, k, r, e1, e2, e3, e4⟩
      · rw [he]; exact hF v
      · obtain ⟨_, _, e5, _⟩ := way_eq hI hd e1 e2
        have hv2 := hg r (List.mem_of_getElem? e2)
        rw [show r.left.toNat = v by omega] at hv2
        refine Nat.le_trans hv2 (e5 ▸ ?_)
        have e : cS W r.right = sumC (fun v => (W.getD v noW).1) r.right := by
          unfold cS sumC
          congr 1
          apply List.map_congr_left
          intro s _
          unfold wat
          split <;> rfl
        rw [e]
        exact sumC_mono r.right (fun s hs h0 => ih _ (by have := hrk v k r e1 e2 s hs h0; omega))
  exact fun v => main (rk v) v (Nat.le_refl _)
theorem cost_passes {R : List Rl} {n : Nat} {W : List Way} (hI : Inv R n W) (hd : Done R W) (hl : ∀ r ∈ R, 0 ≤ r.left ∧ r.left < n) (v : Nat) : passesF R n (fun _ => Far) v = (W.getD v noW).1 := by
  refine passes_known (n := n) (D := fun v => (W.getD v noW).1) (fun r hr => by have := hl r hr; omega) (cost_inT hI hd (fun r hr => (hl r hr).1)) (fun v => (hI.small v).1) (fun v hv => ?_) (fun g h1 h2 v => cost_max hI hd h1 h2 v) n _ (fun v => (hI.small v).1) (fun _ => Nat.le_refl _) ?_ v
  · show (W.getD v noW).1 = Far
    rw [List.getD_eq_getElem?_getD, List.getElem?_eq_none (by have := hI.len; omega)]
    rfl
  · unfold uns
    exact Nat.le_trans (List.length_filter_le _ _) (by simp)
/-- ranks below n -/
theorem small_rank {R : List Rl} {n : Nat} {W : List Way} (hI : Inv R n W) : ∃ rk : Nat → Nat, (∀ v, v < n → rk v < n) ∧ ∀ v (k : Nat) (r : Rl), (W.getD v noW).2.2 = k → R[k]? = some r → ∀ s ∈ r.right, 0 ≤ s → s.toNat < n → rk s.toNat < rk v := by
  obtain ⟨rk, h⟩ := hI.rank
  have key : ∀ a b, a < n → rk a < rk b → ((List.range n).filter fun u => decide (rk u < rk a)).length + 1 ≤ ((List.range n).filter fun u => decide (rk u < rk b)).length := fun a b ha hab =>
    filter_lt (List.range n) (fun u _ hu => by simp at hu ⊢; omega) ⟨a, by simpa using ha, by simpa using hab, by simp⟩
  refine ⟨fun v => ((List.range n).filter fun u => decide (rk u < rk v)).length, fun v hv => ?_, fun v k r h1 h2 s hs h0 hn => ?_⟩
  · have := filter_lt (p := fun _ => true) (q := fun u => decide (rk u < rk v)) (List.range n) (fun _ _ _ => rfl) ⟨v, by simpa using hv, rfl, decide_eq_false (Nat.lt_irrefl _)⟩
    have e : ((List.range n).filter fun _ => true).length = n := by rw [List.filter_eq_self.2 (fun _ _ => rfl), List.length_range]
    have e2 := Nat.lt_of_lt_of_le (Nat.lt_of_succ_le this) (Nat.le_of_eq e)
    exact e2
  · exact Nat.lt_of_succ_le (key _ _ hn (h v k r h1 h2 s hs h0))
theorem pow9 (d : Nat) : 1 + 8 * 9 ^ d ≤ 9 ^ (d + 1) := by
  have := Nat.pow_pos (n := d) (show 0 < 9 by decide)
  rw [Nat.pow_succ]
  omega
theorem sum_le (g : Int → Nat) (B : Nat) : ∀ (F : List Int), (∀ s ∈ F, g s ≤ B) → (F.map g).sum ≤ F.length * B
  | [], _ => by simp
  | s :: F, h => by
    have h1 := sum_le g B F (fun t ht => h t (List.mem_cons_of_mem _ ht))
    have h2 := h s (by simp)
    simp only [List.map_cons, List.sum_cons, List.length_cons, Nat.succ_mul]
    omega
/-- children have ways, too -/
theorem child_way {R : List Rl} {n : Nat} {W : List Way} (hI : Inv R n W) {F : List Int} (h : cS W F < Far) {s : Int} (hs : s ∈ F) (h0 : 0 ≤ s) : s.toNat < n ∧ ∃ (k : Nat) (r : Rl), (W.getD s.toNat noW).2.2 = k ∧ R[k]? = some r := by
  have h1 := far_lt h s hs
  rw [wat_var h0] at h1
  have hne : W.getD s.toNat noW ≠ noW := fun e => by
    rw [e] at h1
    exact Nat.lt_irrefl _ h1
  refine ⟨?_, ?_⟩
  · apply Classical.byContradiction
    intro hn
    apply hne
    rw [List.getD_eq_getElem?_getD, List.getElem?_eq_none (by rw [hI.len]; omega)]
    rfl
  · rcases hI.form s.toNat with he | ⟨_, k, r, e1, e2, _⟩
    · exact absurd he hne
    · exact ⟨k, r, e1, e2⟩
/-- the steps of a way are told as they are: none has too many for the sums -/
theorem steps_small {R : List Rl} {n : Nat} {W : List Way} (hI : Inv R n W) (hd : Done R W) (h8 : ∀ r ∈ R, r.right.length ≤ 8) (hn : n ≤ 8) : ∃ rk : Nat → Nat, (∀ v, v < n → rk v < n) ∧ ∀ (d v k : Nat) (r : Rl), v < n → rk v ≤ d → (W.getD v noW).2.2 = k → R[k]? = some r → (W.getD v noW).2.1 ≤ 9 ^ d ∧ (d ≤ 8 → (W.getD v noW).2.1 = 1 + sS W r.right) ∧ ∀ s ∈ r.right, 0 ≤ s → s.toNat < n ∧ rk s.toNat < rk v := by
  obtain ⟨rk, h1, h2⟩ := small_rank hI
  refine ⟨rk, h1, ?_⟩
  intro d
  induction d with
  | zero =>
    intro v k r hv hrk hk hr
    obtain ⟨_, e2, _, e4⟩ := way_eq hI hd hk hr
    have hch : ∀ s ∈ r.right, 0 ≤ s → s.toNat < n ∧ rk s.toNat < rk v := fun s hs h0 => by
      have hc := (child_way hI e2 hs h0).1
      exact ⟨hc, h2 v k r hk hr s hs h0 hc⟩
    have hz : sS W r.right ≤ r.right.length * 0 := sum_le (fun s => (wat W s).2.1) 0 r.right (fun s hs => by
      by_cases h0 : 0 ≤ s
      · have := (hch s hs h0).2
        omega
      · unfold wat
        rw [if_pos (by omega)]
        exact Nat.le_refl _)
    have hF : (1 : Nat) ≤ Far := by decide
    have e : min (1 + sS W r.right) Far = 1 := by omega
    have ez : sS W r.right = 0 := by omega
    exact ⟨by rw [e4, e]; decide, fun _ => by rw [e4, e, ez], hch⟩
  | succ d ih =>
    intro v k r hv hrk hk hr
    obtain ⟨_, e2, _, e4⟩ := way_eq hI hd hk hr
    have hch : ∀ s ∈ r.right, 0 ≤ s → s.toNat < n ∧ rk s.toNat < rk v := fun s hs h0 => by
      have hc := (child_way hI e2 hs h0).1
      exact ⟨hc, h2 v k r hk hr s hs h0 hc⟩
    have hz : sS W r.right ≤ r.right.length * 9 ^ d := sum_le (fun s => (wat W s).2.1) (9 ^ d) r.right (fun s hs => by
      by_cases h0 : 0 ≤ s
      · obtain ⟨hc1, k2, r2, hc2, hc3⟩ := child_way hI e2 hs h0
        show (wat W s).2.1 ≤ _
        rw [wat_var h0]
        exact (ih s.toNat k2 r2 hc1 (by have := (hch s hs h0).2; omega) hc2 hc3).1
      · unfold wat
        rw [if_pos (by omega)]
        exact Nat.zero_le _)
    have hlen := h8 r (List.mem_of_getElem? hr)
    have hp := pow9 d
    have hmul : r.right.length * 9 ^ d ≤ 8 * 9 ^ d := Nat.mul_le_mul_right _ hlen
    refine ⟨by rw [e4]; omega, fun h => ?_, hch⟩
    have hpow : 9 ^ (d + 1) ≤ 9 ^ 8 := Nat.pow_le_pow_right (by decide) h
    have hF : (9 : Nat) ^ 8 ≤ Far := by decide
    rw [e4]
    omega
/-! steps by the first rules, counted up to a bound -/
def capF (f : Nat → Nat) (C : Nat) : Nat → List Int → Nat
  | n, [] => n
  | n, s :: F => capF f C (if 0 ≤ s then min (n + f s.toNat) C else n) F
def varS (f : Nat → Nat) (F : List Int) : Nat := (F.map fun s => if 0 ≤ s then f s.toNat else 0).sum
theorem cap_sum (f : Nat → Nat) (C : Nat) : ∀ (F : List Int) (n : Nat), n ≤ C → capF f C n F = min (n + varS f F) C
  | [], n, h => by unfold capF varS; simp; omega
  | s :: F, n, h => by
    unfold capF
    rw [cap_sum f C F _ (by split <;> omega)]
    unfold varS
    simp only [List.map_cons, List.sum_cons]
    split <;> omega
theorem cap_min (g : Nat → Nat) (C : Nat) : ∀ (F : List Int) (a : Nat), min (a + varS (fun v => min (g v) C) F) C = min (a + varS g F) C
  | [], a => rfl
  | s :: F, a => by
    have e1 := cap_min g C F (a + (if 0 ≤ s then min (g s.toNat) C else 0))
    have e2 := cap_min g C F (a + (if 0 ≤ s then g s.toNat else 0))
    unfold varS at *
    simp only [List.map_cons, List.sum_cons] at *
    by_cases h : 0 ≤ s
    · simp only [if_pos h] at *
      omega
    · simp only [if_neg h] at *
      omega
def wst (R : List Rl) (W : List Way) (f : Nat → Nat) (u : Nat) : Nat := if 0 ≤ (W.getD u noW).2.2 then capF f 1048576 1 (R.getD (W.getD u noW).2.2.toNat ⟨0, [], 0⟩).right else 1
def wpass (R : List Rl) (W : List Way) : List Nat → (Nat → Nat) → Nat → Nat
  | [], f => f
  | u :: us, f => wpass R W us (upd f u (wst R W f u))
def wpasses (R : List Rl) (W : List Way) (n : Nat) : Nat → (Nat → Nat) → Nat → Nat
  | 0, f => f
  | k + 1, f => wpasses R W n k (wpass R W (List.range n) f)
theorem sS_var (W : List Way) : ∀ (F : List Int), sS W F = varS (fun v => (W.getD v noW).2.1) F
  | [] => rfl
  | s :: F => by
    have ih := sS_var W F
    unfold sS varS at *
    simp only [List.map_cons, List.sum_cons]
    rw [ih]
    unfold wat
    split
    · rw [if_neg (by omega)]
    · rw [if_pos (by omega)]
theorem varS_congr {f g : Nat → Nat} : ∀ (F : List Int), (∀ s ∈ F, 0 ≤ s → f s.toNat = g s.toNat) → varS f F = varS g F
  | [], _ => rfl
  | s :: F, h => by
    have ih := varS_congr F (fun t ht => h t (List.mem_cons_of_mem _ ht))
    have h1 := h s (by simp)
    unfold varS at *
    simp only [List.map_cons, List.sum_cons]
    rw [ih]
    split
    · rename_i h0
      rw [h1 h0]
    · rfl
theorem wide_known {R : List Rl} {n : Nat} {W : List Way} (hI : Inv R n W) (hd : Done R W) (h8 : ∀ r ∈ R, r.right.length ≤ 8) (hn : n ≤ 8) (f : Nat → Nat) (v k : Nat) (r : Rl) (hv : v < n) (hk : (W.getD v noW).2.2 = k) (hr : R[k]? = some r) : wpasses R W n n f v = min (W.getD v noW).2.1 1048576 := by
  obtain ⟨rk, hb, hs⟩ := steps_small hI hd h8 hn
  have hstep : ∀ (v k : Nat) (r : Rl), v < n → (W.getD v noW).2.2 = k → R[k]? = some r → (W.getD v noW).2.1 = 1 + sS W r.right ∧ ∀ s ∈ r.right, 0 ≤ s → s.toNat < n ∧ rk s.toNat < rk v ∧ ∃ (k' : Nat) (r' : Rl), (W.getD s.toNat noW).2.2 = k' ∧ R[k']? = some r' := fun v k r hv hk hr => by
    have hrv := hb v hv
    obtain ⟨_, h2, h3⟩ := hs 8 v k r hv (by omega) hk hr
    obtain ⟨_, e2, _⟩ := way_eq hI hd hk hr
    exact ⟨h2 (Nat.le_refl _), fun s hs' h0 => ⟨(h3 s hs' h0).1, (h3 s hs' h0).2, (child_way hI e2 hs' h0).2⟩⟩
  let K : Nat → (Nat → Nat) → Prop := fun j f => ∀ (v k : Nat) (r : Rl), v < n → rk v < j → (W.getD v noW).2.2 = k → R[k]? = some r → f v = min (W.getD v noW).2.1 1048576
  have one : ∀ (j : Nat) (f : Nat → Nat) (u k : Nat) (r : Rl), K j f → u < n → rk u < j + 1 → (W.getD u noW).2.2 = k → R[k]? = some r → wst R W f u = min (W.getD u noW).2.1 1048576 := fun j f u k r hK hu hru hk hr => by
    obtain ⟨h1, h2⟩ := hstep u k r hu hk hr
    unfold wst
    rw [if_pos (by omega), hk, List.getD_eq_getElem?_getD, Int.toNat_natCast, hr]
    show capF f 1048576 1 r.right = _
    rw [cap_sum _ _ _ _ (by decide), varS_congr (g := fun v => min (W.getD v noW).2.1 1048576) r.right (fun s hs' h0 => by
      obtain ⟨a1, a2, k', r', a3, a4⟩ := h2 s hs' h0
      exact hK s.toNat k' r' a1 (by omega) a3 a4), cap_min, h1, sS_var]
  have pass : ∀ (j : Nat) (us : List Nat) (f : Nat → Nat), (∀ u ∈ us, u < n) → K j f → K j (wpass R W us f) ∧ ∀ (v k : Nat) (r : Rl), v < n → rk v < j + 1 → (W.getD v noW).2.2 = k → R[k]? = some r → (v ∈ us ∨ f v = min (W.getD v noW).2.1 1048576) → wpass R W us f v = min (W.getD v noW).2.1 1048576 := by
    intro j us
    induction us with
    | nil =>
      intro f _ hK
      refine ⟨hK, fun v k r _ _ _ _ h => ?_⟩
      rcases h with h | h
      · cases h
      · exact h
    | cons u us ih =>
      intro f hus hK
      have hK2 : K j (upd f u (wst R W f u)) := fun v k r hv hrv hk hr => by
        unfold upd
        split
        · rename_i e
          subst e
          exact one j f v k r hK hv (by omega) hk hr
        · exact hK v k r hv hrv hk hr
      obtain ⟨i1, i2⟩ := ih (upd f u (wst R W f u)) (fun x hx => hus x (List.mem_cons_of_mem _ hx)) hK2
      refine ⟨i1, fun v k r hv hrv hk hr h => i2 v k r hv hrv hk hr ?_⟩
      by_cases e : v = u
      · right
        subst e
        unfold upd
        rw [if_pos rfl]
        exact one j f v k r hK hv hrv hk hr
      · rcases h with h | h
        · exact .inl ((List.mem_cons.1 h).resolve_left e)
        · right
          unfold upd
          rw [if_neg e]
          exact h
  have all : ∀ (m j : Nat) (f : Nat → Nat), K j f → K (j + m) (wpasses R W n m f) := by
    intro m
    induction m with
    | zero => intro j f h; exact h
    | succ m ih =>
      intro j f h
      have := ih (j + 1) (wpass R W (List.range n) f) (fun v k r hv hrv hk hr => (pass j (List.range n) f (fun u hu => by simpa using hu) h).2 v k r hv hrv hk hr (.inl (by simpa using hv)))
      rw [show j + 1 + m = j + (m + 1) by omega] at this
      exact this
  exact all n 0 f (fun v k r _ h => by omega) v k r hv (by have := hb v hv; omega) hk hr
end Go.Proofs.YtomikgkoegkofaaGreatDoor.dv
