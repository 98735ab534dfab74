import Derived.Test.YtkhflfkedpkelaaGreatDoorLxi
namespace Go.Proofs.YtkhflfkedpkelaaGreatDoor.lx
open Go.ChangeShapes Go.WideShapes Go.ChangeAt Go.RowKit
set_option linter.unusedVariables false
/-! the document's own reading of a weight's text -/
theorem dig_dot {c : UInt8} (h : digB c = true) : (c != 46) = true := by
  have := dig_bt h
  rw [bne_iff_ne]
  rintro rfl
  revert this
  decide
theorem head_digs : ∀ (x r : List UInt8), (∀ c ∈ x, digB c = true) → headD (x ++ r) = x ++ headD r ∧ tailD (x ++ r) = tailD r ∧ dotB (x ++ r) = dotB r
  | [], r, _ => ⟨rfl, rfl, rfl⟩
  | c :: x, r, h => by
    have hc := dig_dot (h c (by simp))
    obtain ⟨h1, h2, h3⟩ := head_digs x r (fun c' hc' => h c' (by simp [hc']))
    have hc3 : (46 == c) = false := by
      rw [beq_eq_false_iff_ne]
      intro e
      rw [bne_iff_ne] at hc
      exact hc e.symm
    refine ⟨?_, ?_, ?_⟩
    · unfold headD at h1 ⊢
      rw [List.cons_append, List.takeWhile_cons_of_pos (p := fun c => c != 46) hc, h1]
      rfl
    · unfold tailD at h2 ⊢
      rw [List.cons_append, List.dropWhile_cons_of_pos (p := fun c => c != 46) hc, h2]
    · unfold dotB at h3 ⊢
      rw [List.cons_append]
      simp only [List.contains_cons, hc3, Bool.false_or, h3]
/-- the digits ahead are T's first k bytes -/
structure HeadK (T : List UInt8) (k : Nat) : Prop where
  le : k ≤ T.length
  dig : (T.take k).all digB = true
theorem HeadK.parts {T : List UInt8} {k : Nat} (h : HeadK T k) : headD T = T.take k ++ headD (T.drop k) ∧ tailD T = tailD (T.drop k) ∧ dotB T = dotB (T.drop k) := by
  have := head_digs (T.take k) (T.drop k) (fun c hc => List.all_eq_true.1 h.dig c hc)
  rwa [List.take_append_drop] at this
theorem HeadK.whole {T : List UInt8} (h : HeadK T T.length) : headD T = T ∧ tailD T = [] ∧ dotB T = false := by
  have := h.parts
  rw [List.take_length, List.drop_length] at this
  exact ⟨by rw [this.1]; simp [headD], this.2.1, this.2.2⟩
theorem HeadK.point {T : List UInt8} {k : Nat} (h : HeadK T k) (r : List UInt8) (hr : T.drop k = 46 :: r) : headD T = T.take k ∧ tailD T = r ∧ dotB T = true := by
  have := h.parts
  rw [hr] at this
  refine ⟨by rw [this.1]; simp [headD], by rw [this.2.1]; simp [tailD], by rw [this.2.2]; simp [dotB]⟩
theorem HeadK.none {T : List UInt8} {k : Nat} (h : HeadK T k) (c : UInt8) (r : List UInt8) (hr : T.drop k = c :: r) (hc : c ≠ 46) (hd : digB c = false) : digsB (headD T) 9 = false := by
  have := h.parts
  have e : headD (c :: r) = c :: headD r := by
    unfold headD
    rw [List.takeWhile_cons_of_pos (p := fun c => c != 46) (by simpa using hc)]
  rw [this.1, hr, e]
  unfold digsB
  rw [List.all_append, List.all_cons, hd]
  simp
def leadB (H : List UInt8) : Bool := decide (1 < H.length) && H.head? == some 48
theorem dec_eq (l : List UInt8) : decB l = (digsB (headD (strip l)) 9 && !leadB (headD (strip l)) && (!dotB (strip l) || digsB (tailD (strip l)) 6)) := rfl
theorem digs_head {T : List UInt8} {k : Nat} (h : HeadK T k) : digsB (T.take k) 9 = (decide (1 ≤ k) && decide (k ≤ 9)) := by
  have hl : (T.take k).length = k := by rw [List.length_take]; exact Nat.min_eq_left h.le
  unfold digsB
  rw [hl, h.dig, Bool.and_true]
theorem lead_head {T : List UInt8} {k : Nat} (h : HeadK T k) : leadB (T.take k) = (decide (1 < k) && T.head? == some 48) := by
  have hl : (T.take k).length = k := by rw [List.length_take]; exact Nat.min_eq_left h.le
  unfold leadB
  rw [hl]
  by_cases h1 : 1 < k
  · cases T with
    | nil => have := h.le; simp at this; omega
    | cons c T =>
      rw [show k = (k - 1) + 1 from by omega, List.take_succ_cons]
      rfl
  · rw [decide_eq_false h1]
    rfl
/-- what Parts tells, way by way -/
theorem dec_no {l T : List UInt8} {k : Nat} (hT : strip l = T) (h : HeadK T k) (hk : k < 1 ∨ 9 < k ∨ (1 < k ∧ T.head? = some 48)) (hend : k = T.length ∨ ∃ c r, T.drop k = c :: r ∧ digB c = false) : decB l = false := by
  rw [dec_eq, hT]
  rcases hend with rfl | ⟨c, r, hr, hd⟩
  · have e1 := digs_head h
    have e2 := lead_head h
    obtain ⟨p1, _, _⟩ := h.whole
    rw [List.take_length] at e1 e2
    rw [p1, e1, e2]
    rcases hk with hk | hk | ⟨hk, hh⟩
    · rw [decide_eq_false (show ¬ 1 ≤ T.length by omega)]; rfl
    · rw [decide_eq_false (show ¬ T.length ≤ 9 by omega)]; simp
    · rw [decide_eq_true hk, hh]; simp
  · by_cases hc : c = 46
    · subst hc
      have e1 := digs_head h
      have e2 := lead_head h
      obtain ⟨p1, _, _⟩ := h.point r hr
      rw [p1, e1, e2]
      rcases hk with hk | hk | ⟨hk, hh⟩
      · rw [decide_eq_false (show ¬ 1 ≤ k by omega)]; rfl
      · rw [decide_eq_false (show ¬ k ≤ 9 by omega)]; simp
      · rw [decide_eq_true hk, hh]; simp
    · rw [h.none c r hr hc hd]; rfl
theorem dec_whole {l T : List UInt8} (hT : strip l = T) (h : HeadK T T.length) (h1 : 1 ≤ T.length) (h9 : T.length ≤ 9) (hl : ¬ (1 < T.length ∧ T.head? = some 48)) : decB l = true ∧ headD (strip l) = T ∧ tailD (strip l) = [] := by
  have e1 := digs_head h
  have e2 := lead_head h
  obtain ⟨p1, p2, p3⟩ := h.whole
  rw [List.take_length] at e1 e2
  refine ⟨?_, by rw [hT, p1], by rw [hT, p2]⟩
  rw [dec_eq, hT, p1, e1, e2, p3, decide_eq_true h1, decide_eq_true h9]
  have : (decide (1 < T.length) && T.head? == some 48) = false := by
    rw [Bool.and_eq_false_iff, decide_eq_false_iff_not, beq_eq_false_iff_ne]
    exact Classical.not_and_iff_not_or_not.1 hl
  rw [this]
  rfl
theorem dec_none {l T : List UInt8} {k : Nat} (hT : strip l = T) (h : HeadK T k) (c : UInt8) (r : List UInt8) (hr : T.drop k = c :: r) (hc : c ≠ 46) (hd : digB c = false) : decB l = false := by
  rw [dec_eq, hT, h.none c r hr hc hd]
  rfl
theorem dec_tail {l T : List UInt8} {k : Nat} (hT : strip l = T) (h : HeadK T k) (r : List UInt8) (hr : T.drop k = 46 :: r) (hn : digsB r 6 = false) : decB l = false := by
  obtain ⟨p1, p2, p3⟩ := h.point r hr
  rw [dec_eq, hT, p1, p2, p3, hn]
  simp
theorem dec_point {l T : List UInt8} {k : Nat} (hT : strip l = T) (h : HeadK T k) (r : List UInt8) (hr : T.drop k = 46 :: r) (h1 : 1 ≤ k) (h9 : k ≤ 9) (hl : ¬ (1 < k ∧ T.head? = some 48)) (hn : digsB r 6 = true) : decB l = true ∧ headD (strip l) = T.take k ∧ tailD (strip l) = r := by
  have e1 := digs_head h
  have e2 := lead_head h
  obtain ⟨p1, p2, p3⟩ := h.point r hr
  refine ⟨?_, by rw [hT, p1], by rw [hT, p2]⟩
  rw [dec_eq, hT, p1, e1, e2, p2, p3, hn, decide_eq_true h1, decide_eq_true h9]
  have : (decide (1 < k) && T.head? == some 48) = false := by
    rw [Bool.and_eq_false_iff, decide_eq_false_iff_not, beq_eq_false_iff_ne]
    exact Classical.not_and_iff_not_or_not.1 hl
  rw [this]
  rfl
end Go.Proofs.YtkhflfkedpkelaaGreatDoor.lx
