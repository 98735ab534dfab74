import Derived.Test.YtomikgkoegkofaaGreatDoorUsu
namespace Go.Proofs.YtomikgkoegkofaaGreatDoor.dv
open Go.ChangeShapes Go.WideShapes Go.ChangeAt Go.RowKit Go.Maps Go.WideMaps Go.WideElems Go.Shelf
set_option linter.unusedVariables false
set_option linter.unusedSimpArgs false
/-! Shortest: what is to do -/
theorem iv_inj : ∀ (a b : List Int), IV a = IV b → a = b
  | [], [], _ => rfl
  | [], y :: b, h => by simp [IV] at h
  | x :: a, [], h => by simp [IV] at h
  | x :: a, y :: b, h => by
    simp only [IV, List.map_cons, List.cons.injEq, Value.int.injEq, true_and] at h
    rw [h.1, iv_inj a b h.2]
/-- what is to do, as memory has it -/
def TodoAt (B bt : Nat) (T : List Int) (W : World) : Prop := ∃ tv, Blk W bt 28 #[tv] ∧ W.ownsRow B 3 1 tv T.length (IV T)
theorem todo_fun {B bt : Nat} {S : List Way} (X Y : List Int) (W : World) (h : TodoAt B bt X W) (k : TodoAt B bt Y W) : todoM S X.reverse = todoM S Y.reverse := by
  obtain ⟨a, h1, h2⟩ := h
  obtain ⟨b, k1, k2⟩ := k
  have e := (show W.heap[bt]? = _ from h1).symm.trans k1
  simp at e
  subst e
  have hl : X.length = Y.length := by
    rcases h2.2 with ⟨e1, e2⟩ | ⟨g, cap, cur, e1, _⟩ <;> rcases k2.2 with ⟨f1, f2⟩ | ⟨g2, cap2, cur2, f1, _⟩
    · rw [e2, f2]
    · rw [e1] at f1; cases f1
    · rw [e1] at f1; cases f1
    · rw [e1] at f1; exact (Value.slice.inj f1).2.1
  have e2 : IV X = IV Y := by
    rcases h2.2 with ⟨e1, e2⟩ | ⟨g, cap, cur, e1, _, hg, _, _, _, ht⟩ <;> rcases k2.2 with ⟨f1, f2⟩ | ⟨g2, cap2, cur2, f1, _, kg, _, _, _, kt⟩
    · have hx : X = [] := List.length_eq_zero_iff.1 e2
      have hy : Y = [] := List.length_eq_zero_iff.1 f2
      rw [hx, hy]
    · rw [e1] at f1; cases f1
    · rw [e1] at f1; cases f1
    · rw [e1] at f1
      obtain ⟨f2, _, _⟩ := Value.slice.inj f1
      have f3 : g = g2 := by simpa using f2
      subst f3
      rw [hg] at kg
      simp at kg
      subst kg
      rw [← ht, ← kt, hl]
  rw [iv_inj _ _ e2]
/-- what is to do has rules -/
def GoodT (R : List Rl) (S : List Way) (T : List Int) : Prop := ∀ s ∈ T, 0 ≤ s → s.toNat < S.length ∧ ∃ (k : Nat) (r : Rl), (S.getD s.toNat noW).2.2 = k ∧ R[k]? = some r
theorem sS_le {S : List Way} {F : List Int} {s : Int} (h : s ∈ F) (h0 : 0 ≤ s) : (S.getD s.toNat noW).2.1 ≤ sS S F := by
  have := sum_ge (fun s => (wat S s).2.1) F s h
  rw [wat_var h0] at this
  exact this
theorem good_kids {R : List Rl} {n : Nat} {S : List Way} (hI : Inv R n S) (hd : Done R S) {v k : Nat} {r : Rl} (h : (S.getD v noW).2.2 = k) (hr : R[k]? = some r) : GoodT R S r.right := fun s hs h0 => by
  obtain ⟨_, e2, _⟩ := way_eq hI hd h hr
  obtain ⟨h1, h2⟩ := child_way hI e2 hs h0
  exact ⟨by rw [hI.len]; exact h1, h2⟩
end Go.Proofs.YtomikgkoegkofaaGreatDoor.dv
