import Derived.Test.YtldamieigigncaaGreatDoorVaaw
import Derived.Test.YtldamieigigncaaGreatDoorVaad
namespace Go.Proofs.YtldamieigigncaaGreatDoor.lx
open Go.ChangeShapes Go.WideShapes Go.ChangeAt Go.RowKit
set_option linter.unusedVariables false
/-! the definitions of two texts -/
def VDs (k : Nat) : List Dfn → List Dfn → Prop
  | [], [] => True
  | d :: ds, d' :: ds' => VD k d d' ∧ VDs k ds ds'
  | _, _ => False
theorem sh_text {E : Tok} (hE : E.kind = 0) (k : Nat) : ∀ (f : Nat) (u : List Tok), u.length < f → match pText f (u ++ [E]), pText f ((u ++ [E]).map (shT k)) with
    | .error q, .error q' => q' = (q.1, q.2 + k)
    | .ok ds, .ok ds' => VDs k ds ds'
    | _, _ => False
  | 0, u, h => by omega
  | f + 1, u, h => by
    have h2 := sh_def hE k u
    have h4 := loc_def hE (R := [E]) (by simp) u
    cases ha : pDef (u ++ [E]) with
    | error q =>
      cases hb : pDef ((u ++ [E]).map (shT k)) with
      | error q' =>
        rw [ha, hb] at h2
        rw [text_err _ _ _ ha, text_err _ _ _ hb]
        exact h2
      | ok y => rw [ha, hb] at h2; exact h2.elim
    | ok x =>
      cases hb : pDef ((u ++ [E]).map (shT k)) with
      | error q' => rw [ha, hb] at h2; exact h2.elim
      | ok y =>
        rw [ha, hb] at h2
        obtain ⟨d, r⟩ := x
        obtain ⟨d', r'⟩ := y
        obtain ⟨hV, rfl, v, rfl, hv⟩ := h2
        rw [ha] at h4
        obtain ⟨t, v', he, hv', _⟩ := h4
        obtain rfl : v = v' := List.append_cancel_right he
        have hvl := hv'.length_le
        have hvl : v.length + 1 ≤ u.length := by simpa using hvl
        rw [text_eq, text_eq, ha, hb]
        have hk : (hd ((v ++ [E]).map (shT k))).kind = (hd (v ++ [E])).kind := by cases v <;> rfl
        show match (if (hd (v ++ [E])).kind = 0 then (.ok [d] : Except (Nat × Nat) (List Dfn)) else match pText f (v ++ [E]) with
          | .error e => .error e
          | .ok ds => .ok (d :: ds)), (if (hd ((v ++ [E]).map (shT k))).kind = 0 then (.ok [d'] : Except (Nat × Nat) (List Dfn)) else match pText f ((v ++ [E]).map (shT k)) with
          | .error e => .error e
          | .ok ds => .ok (d' :: ds)) with
          | .error q, .error q' => q' = (q.1, q.2 + k)
          | .ok ds, .ok ds' => VDs k ds ds'
          | _, _ => False
        rw [hk]
        by_cases h0 : (hd (v ++ [E])).kind = 0
        · rw [if_pos h0, if_pos h0]
          exact ⟨hV, trivial⟩
        · rw [if_neg h0, if_neg h0]
          have ih := sh_text hE k f v (by omega)
          cases hc : pText f (v ++ [E]) with
          | error q =>
            cases hd' : pText f ((v ++ [E]).map (shT k)) with
            | error q' =>
              rw [hc, hd'] at ih
              exact ih
            | ok y => rw [hc, hd'] at ih; exact ih.elim
          | ok ds =>
            cases hd' : pText f ((v ++ [E]).map (shT k)) with
            | error q' => rw [hc, hd'] at ih; exact ih.elim
            | ok ds' =>
              rw [hc, hd'] at ih
              exact ⟨hV, ih⟩
/-- more fuel turns nothing -/
theorem fuel_text {E : Tok} (hE : E.kind = 0) : ∀ (m : Nat) (u : List Tok) (f1 f2 : Nat), u.length < m → u.length < f1 → u.length < f2 → pText f1 (u ++ [E]) = pText f2 (u ++ [E])
  | 0, u, f1, f2, h, _, _ => by omega
  | m + 1, u, f1, f2, h, h1, h2 => by
    obtain ⟨f1, rfl⟩ : ∃ f, f1 = f + 1 := ⟨f1 - 1, by omega⟩
    obtain ⟨f2, rfl⟩ : ∃ f, f2 = f + 1 := ⟨f2 - 1, by omega⟩
    have h4 := loc_def hE (R := [E]) (by simp) u
    rw [text_eq, text_eq]
    cases ha : pDef (u ++ [E]) with
    | error q => rfl
    | ok x =>
      obtain ⟨d, r⟩ := x
      rw [ha] at h4
      obtain ⟨t, v, rfl, hv, _⟩ := h4
      have hvl := hv.length_le
      have hvl : v.length + 1 ≤ u.length := by simpa using hvl
      have ih := fuel_text hE m v f1 f2 (by omega) (by omega) (by omega)
      show (if (hd (v ++ [E])).kind = 0 then (.ok [d] : Except (Nat × Nat) (List Dfn)) else match pText f1 (v ++ [E]) with
        | .error e => .error e
        | .ok ds => .ok (d :: ds)) = (if (hd (v ++ [E])).kind = 0 then (.ok [d] : Except (Nat × Nat) (List Dfn)) else match pText f2 (v ++ [E]) with
        | .error e => .error e
        | .ok ds => .ok (d :: ds))
      rw [ih]
/-! what is wrong has a number -/
def PosR {α : Type} (a : Res α) : Prop := match a with
  | .error q => 0 < q.1
  | .ok _ => True
theorem pos_item {sub : List Tok → Res (List Altn)} (hs : ∀ ts, PosR (sub ts)) (ts : List Tok) : PosR (pItem sub ts) := by
  unfold pItem
  split
  · trivial
  · split
    · trivial
    · have h := hs ts
      cases ha : sub ts with
      | error q => rw [ha] at h; exact h
      | ok x => trivial
theorem pos_items {sub : List Tok → Res (List Altn)} (hs : ∀ ts, PosR (sub ts)) : ∀ (f : Nat) (ts : List Tok), PosR (pItems sub f ts)
  | 0, ts => by show 0 < 99; decide
  | f + 1, ts => by
    rw [items_eq]
    split
    · have h := pos_item hs ts
      cases ha : pItem sub ts with
      | error q => rw [ha] at h; exact h
      | ok x =>
        obtain ⟨i, r⟩ := x
        have h3 := pos_items hs f r
        show PosR (match pItems sub f r with
          | .error e => .error e
          | .ok (is, r2) => .ok (i :: is, r2))
        cases hb : pItems sub f r with
        | error q => rw [hb] at h3; exact h3
        | ok y => trivial
    · trivial
theorem pos_alt {sub : List Tok → Res (List Altn)} (hs : ∀ ts, PosR (sub ts)) (ts : List Tok) : PosR (pAlt sub ts) := by
  unfold pAlt
  have h3 := pos_items hs (wtTl ts).length (wtTl ts)
  cases hb : pItems sub (wtTl ts).length (wtTl ts) with
  | error q => rw [hb] at h3; exact h3
  | ok y => trivial
theorem pos_more {sub : List Tok → Res (List Altn)} (hs : ∀ ts, PosR (sub ts)) : ∀ (f : Nat) (ts : List Tok), PosR (pMore sub f ts)
  | 0, ts => by show 0 < 99; decide
  | f + 1, ts => by
    rw [mores_eq]
    split
    · have h := pos_alt hs ts.tail
      cases ha : pAlt sub ts.tail with
      | error q => rw [ha] at h; exact h
      | ok x =>
        obtain ⟨i, r⟩ := x
        have h3 := pos_more hs f r
        show PosR (match pMore sub f r with
          | .error e => .error e
          | .ok (as_, r2) => .ok (i :: as_, r2))
        cases hb : pMore sub f r with
        | error q => rw [hb] at h3; exact h3
        | ok y => trivial
    · trivial
theorem pos_alts {sub : List Tok → Res (List Altn)} (hs : ∀ ts, PosR (sub ts)) (ts : List Tok) : PosR (pAlts sub ts) := by
  unfold pAlts
  have h := pos_alt hs ts
  cases ha : pAlt sub ts with
  | error q => rw [ha] at h; exact h
  | ok x =>
    obtain ⟨i, r⟩ := x
    have h3 := pos_more hs r.length r
    show PosR (match pMore sub r.length r with
      | .error e => .error e
      | .ok (as_, r2) => .ok (i :: as_, r2))
    cases hb : pMore sub r.length r with
    | error q => rw [hb] at h3; exact h3
    | ok y => trivial
theorem pos_shut (c : Nat) {a : Res (List Altn)} (h : PosR a) : PosR (pShut c a) := by
  cases a with
  | error q => exact h
  | ok x =>
    obtain ⟨bs, r⟩ := x
    show PosR (if sg r = c then .ok (bs, r.tail) else .error (5, (hd r).at_))
    split
    · trivial
    · show 0 < 5; decide
theorem pos_pA : ∀ (d : Nat) (ts : List Tok), PosR (pA d ts)
  | 0, ts => by
    rw [pA_sub]
    exact pos_alts (fun ts => by show 0 < 6; decide) ts
  | d + 1, ts => by
    rw [pA_sub]
    exact pos_alts (fun ts => pos_shut 41 (pos_pA d ts.tail)) ts
theorem pos_def (ts : List Tok) : PosR (pDef ts) := by
  unfold pDef
  split
  · split
    · have h := pos_shut 59 (pos_pA 16 ts.tail.tail)
      cases ha : pShut 59 (pA 16 ts.tail.tail) with
      | error q => rw [ha] at h; exact h
      | ok x => trivial
    · show 0 < 5; decide
  · show 0 < 5; decide
theorem pos_text : ∀ (f : Nat) (ts : List Tok) (q : Nat × Nat), pText f ts = .error q → 0 < q.1
  | 0, ts, q, h => by
    cases h
    decide
  | f + 1, ts, q, h => by
    rw [text_eq] at h
    have h2 := pos_def ts
    cases ha : pDef ts with
    | error q' =>
      rw [ha] at h h2
      cases h
      exact h2
    | ok x =>
      obtain ⟨d, r⟩ := x
      rw [ha] at h
      have h : (if (hd r).kind = 0 then (.ok [d] : Except (Nat × Nat) (List Dfn)) else match pText f r with
        | .error e => .error e
        | .ok ds => .ok (d :: ds)) = .error q := h
      split at h
      · cases h
      · cases hb : pText f r with
        | error q' =>
          rw [hb] at h
          cases h
          exact pos_text f r q hb
        | ok ds =>
          rw [hb] at h
          cases h
end Go.Proofs.YtldamieigigncaaGreatDoor.lx
namespace Go.Proofs.YtldamieigigncaaGreatDoor.lx
open Go.ChangeShapes Go.WideShapes Go.ChangeAt Go.RowKit
set_option linter.unusedVariables false
/-! the document's own reading of a weight's text -/
theorem dig_dot {c : UInt8} (h : digB c = true) : (c != 46) = true := by
  have := dig_bt h
  rw [bne_iff_ne]
  rintro rfl
  revert this
  decide
theorem head_digs : ∀ (x r : List UInt8), (∀ c ∈ x, digB c = true) → headD (x ++ r) = x ++ headD r ∧ tailD (x ++ r) = tailD r ∧ dotB (x ++ r) = dotB r
  | [], r, _ => ⟨rfl, rfl, rfl⟩
  | c :: x, r, h => by
    have hc := dig_dot (h c (by simp))
    obtain ⟨h1, h2, h3⟩ := head_digs x r (fun c' hc' => h c' (by simp [hc']))
    have hc3 : (46 == c) = false := by
      rw [beq_eq_false_iff_ne]
      intro e
      rw [bne_iff_ne] at hc
      exact hc e.symm
    refine ⟨?_, ?_, ?_⟩
    · unfold headD at h1 ⊢
      rw [List.cons_append, List.takeWhile_cons_of_pos (p := fun c => c != 46) hc, h1]
      rfl
    · unfold tailD at h2 ⊢
      rw [List.cons_append, List.dropWhile_cons_of_pos (p := fun c => c != 46) hc, h2]
    · unfold dotB at h3 ⊢
      rw [List.cons_append]
      simp only [List.contains_cons, hc3, Bool.false_or, h3]
/-- the digits ahead are T's first k bytes -/
structure HeadK (T : List UInt8) (k : Nat) : Prop where
  le : k ≤ T.length
  dig : (T.take k).all digB = true
theorem HeadK.parts {T : List UInt8} {k : Nat} (h : HeadK T k) : headD T = T.take k ++ headD (T.drop k) ∧ tailD T = tailD (T.drop k) ∧ dotB T = dotB (T.drop k) := by
  have := head_digs (T.take k) (T.drop k) (fun c hc => List.all_eq_true.1 h.dig c hc)
  rwa [List.take_append_drop] at this
theorem HeadK.whole {T : List UInt8} (h : HeadK T T.length) : headD T = T ∧ tailD T = [] ∧ dotB T = false := by
  have := h.parts
  rw [List.take_length, List.drop_length] at this
  exact ⟨by rw [this.1]; simp [headD], this.2.1, this.2.2⟩
theorem HeadK.point {T : List UInt8} {k : Nat} (h : HeadK T k) (r : List UInt8) (hr : T.drop k = 46 :: r) : headD T = T.take k ∧ tailD T = r ∧ dotB T = true := by
  have := h.parts
  rw [hr] at this
  refine ⟨by rw [this.1]; simp [headD], by rw [this.2.1]; simp [tailD], by rw [this.2.2]; simp [dotB]⟩
theorem HeadK.none {T : List UInt8} {k : Nat} (h : HeadK T k) (c : UInt8) (r : List UInt8) (hr : T.drop k = c :: r) (hc : c ≠ 46) (hd : digB c = false) : digsB (headD T) 9 = false := by
  have := h.parts
  have e : headD (c :: r) = c :: headD r := by
    unfold headD
    rw [List.takeWhile_cons_of_pos (p := fun c => c != 46) (by simpa using hc)]
  rw [this.1, hr, e]
  unfold digsB
  rw [List.all_append, List.all_cons, hd]
  simp
def leadB (H : List UInt8) : Bool := decide (1 < H.length) && H.head? == some 48
theorem dec_eq (l : List UInt8) : decB l = (digsB (headD (strip l)) 9 && !leadB (headD (strip l)) && (!dotB (strip l) || digsB (tailD (strip l)) 6)) := rfl
theorem digs_head {T : List UInt8} {k : Nat} (h : HeadK T k) : digsB (T.take k) 9 = (decide (1 ≤ k) && decide (k ≤ 9)) := by
  have hl : (T.take k).length = k := by rw [List.length_take]; exact Nat.min_eq_left h.le
  unfold digsB
  rw [hl, h.dig, Bool.and_true]
theorem lead_head {T : List UInt8} {k : Nat} (h : HeadK T k) : leadB (T.take k) = (decide (1 < k) && T.head? == some 48) := by
  have hl : (T.take k).length = k := by rw [List.length_take]; exact Nat.min_eq_left h.le
  unfold leadB
  rw [hl]
  by_cases h1 : 1 < k
  · cases T with
    | nil => have := h.le; simp at this; omega
    | cons c T =>
      rw [show k = (k - 1) + 1 from by omega, List.take_succ_cons]
      rfl
  · rw [decide_eq_false h1]
    rfl
/-- what Parts tells, way by way -/
theorem dec_no {l T : List UInt8} {k : Nat} (hT : strip l = T) (h : HeadK T k) (hk : k < 1 ∨ 9 < k ∨ (1 < k ∧ T.head? = some 48)) (hend : k = T.length ∨ ∃ c r, T.drop k = c :: r ∧ digB c = false) : decB l = false := by
  rw [dec_eq, hT]
  rcases hend with rfl | ⟨c, r, hr, hd⟩
  · have e1 := digs_head h
    have e2 := lead_head h
    obtain ⟨p1, _, _⟩ := h.whole
    rw [List.take_length] at e1 e2
    rw [p1, e1, e2]
    rcases hk with hk | hk | ⟨hk, hh⟩
    · rw [decide_eq_false (show ¬ 1 ≤ T.length by omega)]; rfl
    · rw [decide_eq_false (show ¬ T.length ≤ 9 by omega)]; simp
    · rw [decide_eq_true hk, hh]; simp
  · by_cases hc : c = 46
    · subst hc
      have e1 := digs_head h
      have e2 := lead_head h
      obtain ⟨p1, _, _⟩ := h.point r hr
      rw [p1, e1, e2]
      rcases hk with hk | hk | ⟨hk, hh⟩
      · rw [decide_eq_false (show ¬ 1 ≤ k by omega)]; rfl
      · rw [decide_eq_false (show ¬ k ≤ 9 by omega)]; simp
      · rw [decide_eq_true hk, hh]; simp
    · rw [h.none c r hr hc hd]; rfl
theorem dec_whole {l T : List UInt8} (hT : strip l = T) (h : HeadK T T.length) (h1 : 1 ≤ T.length) (h9 : T.length ≤ 9) (hl : ¬ (1 < T.length ∧ T.head? = some 48)) : decB l = true ∧ headD (strip l) = T ∧ tailD (strip l) = [] := by
  have e1 := digs_head h
  have e2 := lead_head h
  obtain ⟨p1, p2, p3⟩ := h.whole
  rw [List.take_length] at e1 e2
  refine ⟨?_, by rw [hT, p1], by rw [hT, p2]⟩
  rw [dec_eq, hT, p1, e1, e2, p3, decide_eq_true h1, decide_eq_true h9]
  have : (decide (1 < T.length) && T.head? == some 48) = false := by
    rw [Bool.and_eq_false_iff, decide_eq_false_iff_not, beq_eq_false_iff_ne]
    exact Classical.not_and_iff_not_or_not.1 hl
  rw [this]
  rfl
theorem dec_none {l T : List UInt8} {k : Nat} (hT : strip l = T) (h : HeadK T k) (c : UInt8) (r : List UInt8) (hr : T.drop k = c :: r) (hc : c ≠ 46) (hd : digB c = false) : decB l = false := by
  rw [dec_eq, hT, h.none c r hr hc hd]
  rfl
theorem dec_tail {l T : List UInt8} {k : Nat} (hT : strip l = T) (h : HeadK T k) (r : List UInt8) (hr : T.drop k = 46 :: r) (hn : digsB r 6 = false) : decB l = false := by
  obtain ⟨p1, p2, p3⟩ := h.point r hr
  rw [dec_eq, hT, p1, p2, p3, hn]
  simp
theorem dec_point {l T : List UInt8} {k : Nat} (hT : strip l = T) (h : HeadK T k) (r : List UInt8) (hr : T.drop k = 46 :: r) (h1 : 1 ≤ k) (h9 : k ≤ 9) (hl : ¬ (1 < k ∧ T.head? = some 48)) (hn : digsB r 6 = true) : decB l = true ∧ headD (strip l) = T.take k ∧ tailD (strip l) = r := by
  have e1 := digs_head h
  have e2 := lead_head h
  obtain ⟨p1, p2, p3⟩ := h.point r hr
  refine ⟨?_, by rw [hT, p1], by rw [hT, p2]⟩
  rw [dec_eq, hT, p1, e1, e2, p2, p3, hn, decide_eq_true h1, decide_eq_true h9]
  have : (decide (1 < k) && T.head? == some 48) = false := by
    rw [Bool.and_eq_false_iff, decide_eq_false_iff_not, beq_eq_false_iff_ne]
    exact Classical.not_and_iff_not_or_not.1 hl
  rw [this]
  rfl
end Go.Proofs.YtldamieigigncaaGreatDoor.lx
