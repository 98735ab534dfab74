import Derived.Test.YtldamieigigncaaGreatDoorVaak
namespace Go.Proofs.YtldamieigigncaaGreatDoor.lx
open Go.ChangeShapes Go.WideShapes Go.ChangeAt Go.RowKit
set_option linter.unusedVariables false
/-! words with an end, and the same words with others behind them -/
def Loc {α : Type} (E : Tok) (R : List Tok) (n : List Tok) (a b : Res α) : Prop := match a with
  | .error q => q.2 = E.at_ ∨ b = .error q
  | .ok (x, r) => ∃ v, r = v ++ [E] ∧ v <:+ n ∧ (v = [] ∨ b = .ok (x, v ++ R))
theorem sg_end {E : Tok} (hE : E.kind = 0) : sg [E] = 0 := by
  show sgOf E = 0
  unfold sgOf
  rw [if_neg (by omega)]
theorem atIt_end {E : Tok} (hE : E.kind = 0) : atIt (hd [E]) = false := by
  show (E.kind == 1 || E.kind == 2 || sgOf E == 40) = false
  rw [hE, show sgOf E = 0 from sg_end hE]
  rfl
theorem op_end {E : Tok} (hE : E.kind = 0) : opOf [E] = 0 ∧ opTl [E] = [E] := by
  unfold opOf opTl
  rw [sg_end hE]
  exact ⟨rfl, rfl⟩
/-- behind an item's own words -/
theorem loc_op {α : Type} {E : Tok} (hE : E.kind = 0) {R : List Tok} {n : List Tok} (f : Nat → α) (v : List Tok) (hv : v <:+ n) : Loc E R n (.ok (f (opOf (v ++ [E])), opTl (v ++ [E]))) (.ok (f (opOf (v ++ R)), opTl (v ++ R))) := by
  cases v with
  | nil =>
    rw [List.nil_append, (op_end hE).1, (op_end hE).2]
    exact ⟨[], rfl, List.nil_suffix, .inl rfl⟩
  | cons t v =>
    have h1 : opOf (t :: v ++ [E]) = opOf (t :: v ++ R) := rfl
    rw [h1]
    by_cases ho : isOp (sgOf t) = true
    · have e1 : opTl (t :: v ++ [E]) = v ++ [E] := if_pos ho
      have e2 : opTl (t :: v ++ R) = v ++ R := if_pos ho
      rw [e1, e2]
      exact ⟨v, rfl, (List.suffix_cons t v).trans hv, .inr rfl⟩
    · have e1 : opTl (t :: v ++ [E]) = t :: v ++ [E] := if_neg ho
      have e2 : opTl (t :: v ++ R) = t :: v ++ R := if_neg ho
      rw [e1, e2]
      exact ⟨t :: v, rfl, hv, .inr rfl⟩
def LocF {α : Type} (E : Tok) (R : List Tok) (sub : List Tok → Res α) : Prop := ∀ t u, Loc E R u (sub (t :: u ++ [E])) (sub (t :: u ++ R))
theorem loc_item {E : Tok} (hE : E.kind = 0) {R : List Tok} {sub : List Tok → Res (List Altn)} (hs : LocF E R sub) : LocF E R (pItem sub) := by
  intro t u
  have e1 : ∀ Z, hd (t :: u ++ Z) = t := fun _ => rfl
  have e2 : ∀ Z, (t :: u ++ Z).tail = u ++ Z := fun _ => rfl
  unfold pItem
  rw [e1, e1, e2, e2]
  by_cases k1 : t.kind = 1
  · rw [if_pos k1, if_pos k1]
    exact loc_op hE (fun o => Itm.mk t.at_ 0 t.text [] o) u (List.suffix_refl _)
  · rw [if_neg k1, if_neg k1]
    by_cases k2 : t.kind = 2
    · rw [if_pos k2, if_pos k2]
      exact loc_op hE (fun o => Itm.mk t.at_ 1 t.text [] o) u (List.suffix_refl _)
    · rw [if_neg k2, if_neg k2]
      have h := hs t u
      cases ha : sub (t :: u ++ [E]) with
      | error q =>
        rw [ha] at h
        rcases h with h | h
        · exact .inl h
        · rw [h]
          exact .inr rfl
      | ok x =>
        obtain ⟨bs, r⟩ := x
        rw [ha] at h
        obtain ⟨v, rfl, hv, h | h⟩ := h
        · subst h
          have ho := op_end hE
          show Loc E R u (.ok (Itm.mk t.at_ 2 [] bs (opOf ([] ++ [E])), opTl ([] ++ [E]))) _
          rw [List.nil_append, ho.1, ho.2]
          exact ⟨[], rfl, List.nil_suffix, .inl rfl⟩
        · rw [h]
          exact loc_op hE (fun o => Itm.mk t.at_ 2 [] bs o) v hv
theorem items_eq (sub : List Tok → Res (List Altn)) (f : Nat) (ts : List Tok) : pItems sub (f + 1) ts = if atIt (hd ts) then
      (match pItem sub ts with
      | .error e => .error e
      | .ok (i, r) => match pItems sub f r with
        | .error e => .error e
        | .ok (is, r2) => .ok (i :: is, r2))
    else .ok ([], ts) := rfl
theorem loc_items {E : Tok} (hE : E.kind = 0) {R : List Tok} {sub : List Tok → Res (List Altn)} (hs : LocF E R sub) : ∀ (m : Nat) (u : List Tok) (f1 f2 : Nat), u.length < m → u.length < f1 → u.length < f2 → Loc E R u (pItems sub f1 (u ++ [E])) (pItems sub f2 (u ++ R))
  | 0, u, f1, f2, h, _, _ => by omega
  | m + 1, u, f1, f2, h, h1, h2 => by
    obtain ⟨f1, rfl⟩ : ∃ f, f1 = f + 1 := ⟨f1 - 1, by omega⟩
    obtain ⟨f2, rfl⟩ : ∃ f, f2 = f + 1 := ⟨f2 - 1, by omega⟩
    cases u with
    | nil =>
      rw [List.nil_append, items_eq, if_neg (by rw [atIt_end hE]; decide)]
      exact ⟨[], rfl, List.nil_suffix, .inl rfl⟩
    | cons t u =>
      have hl : (t :: u).length = u.length + 1 := rfl
      rw [items_eq, items_eq, show hd (t :: u ++ [E]) = t from rfl, show hd (t :: u ++ R) = t from rfl]
      by_cases ha : atIt t = true
      · rw [if_pos ha, if_pos ha]
        have h := loc_item hE hs t u
        cases hi : pItem sub (t :: u ++ [E]) with
        | error q =>
          rw [hi] at h
          rcases h with h | h
          · exact .inl h
          · rw [h]
            exact .inr rfl
        | ok x =>
          obtain ⟨i, r⟩ := x
          rw [hi] at h
          obtain ⟨v, rfl, hv, h | h⟩ := h
          · subst h
            have e : pItems sub f1 ([] ++ [E]) = .ok ([], [E]) := by
              obtain ⟨f1, rfl⟩ : ∃ f, f1 = f + 1 := ⟨f1 - 1, by omega⟩
              rw [List.nil_append, items_eq, if_neg (by rw [atIt_end hE]; decide)]
            show Loc E R _ (match pItems sub f1 ([] ++ [E]) with
              | .error e => .error e
              | .ok (is, r2) => .ok (i :: is, r2)) _
            rw [e]
            exact ⟨[], rfl, List.nil_suffix, .inl rfl⟩
          · rw [h]
            have hvl := hv.length_le
            have h3 := loc_items hE hs m v f1 f2 (by omega) (by omega) (by omega)
            show Loc E R _ (match pItems sub f1 (v ++ [E]) with
              | .error e => .error e
              | .ok (is, r2) => .ok (i :: is, r2)) (match pItems sub f2 (v ++ R) with
              | .error e => .error e
              | .ok (is, r2) => .ok (i :: is, r2))
            cases hj : pItems sub f1 (v ++ [E]) with
            | error q =>
              rw [hj] at h3
              rcases h3 with h3 | h3
              · exact .inl h3
              · rw [h3]
                exact .inr rfl
            | ok y =>
              obtain ⟨is, r⟩ := y
              rw [hj] at h3
              obtain ⟨v2, rfl, hv2, h3 | h3⟩ := h3
              · exact ⟨v2, rfl, (hv2.trans hv).trans (List.suffix_cons _ _), .inl h3⟩
              · rw [h3]
                exact ⟨v2, rfl, (hv2.trans hv).trans (List.suffix_cons _ _), .inr rfl⟩
      · rw [if_neg ha, if_neg ha]
        exact ⟨t :: u, rfl, List.suffix_refl _, .inr rfl⟩
theorem loc_alt {E : Tok} (hE : E.kind = 0) {R : List Tok} (hR : R ≠ []) {sub : List Tok → Res (List Altn)} (hs : LocF E R sub) (u : List Tok) : Loc E R u (pAlt sub (u ++ [E])) (pAlt sub (u ++ R)) := by
  have hRl : 0 < R.length := List.length_pos_iff.2 hR
  have fin : ∀ (w : List Tok) (a f : Nat), w <:+ u → (∀ Z, pAlt sub (u ++ Z) = (match pItems sub (w ++ Z).length (w ++ Z) with
      | .error e => .error e
      | .ok (is, r) => .ok ((a, f, is), r))) → Loc E R u (pAlt sub (u ++ [E])) (pAlt sub (u ++ R)) := fun w a f hw hZ => by
    have h := loc_items hE hs (w.length + 1) w (w ++ [E]).length (w ++ R).length (by omega) (by simp) (by simp; omega)
    rw [hZ, hZ]
    cases hj : pItems sub (w ++ [E]).length (w ++ [E]) with
    | error q =>
      rw [hj] at h
      rcases h with h | h
      · exact .inl h
      · rw [h]
        exact .inr rfl
    | ok y =>
      obtain ⟨is, r⟩ := y
      rw [hj] at h
      obtain ⟨v, rfl, hv, h | h⟩ := h
      · exact ⟨v, rfl, hv.trans hw, .inl h⟩
      · rw [h]
        exact ⟨v, rfl, hv.trans hw, .inr rfl⟩
  cases u with
  | nil =>
    have h0 : pItems sub 1 [E] = .ok ([], [E]) := by rw [items_eq, if_neg (by rw [atIt_end hE]; decide)]
    have h1 : wtTl [E] = [E] := if_neg (by show ¬ E.kind = 3; omega)
    unfold pAlt
    rw [List.nil_append, h1]
    show Loc E R _ (match pItems sub 1 [E] with
      | .error e => .error e
      | .ok (is, r) => .ok ((_, _, is), r)) _
    rw [h0]
    exact ⟨[], rfl, List.nil_suffix, .inl rfl⟩
  | cons t u =>
    by_cases k3 : t.kind = 3
    · refine fin u t.at_ t.wt (List.suffix_cons _ _) fun Z => ?_
      unfold pAlt
      rw [show wtTl (t :: u ++ Z) = u ++ Z from if_pos k3, show wtOf (hd (t :: u ++ Z)) = t.wt from if_pos k3]
      rfl
    · refine fin (t :: u) t.at_ 0 (List.suffix_refl _) fun Z => ?_
      unfold pAlt
      rw [show wtTl (t :: u ++ Z) = t :: u ++ Z from if_neg k3, show wtOf (hd (t :: u ++ Z)) = 0 from if_neg k3]
      rfl
theorem mores_eq (sub : List Tok → Res (List Altn)) (f : Nat) (ts : List Tok) : pMore sub (f + 1) ts = if sg ts = 124 then (match pAlt sub ts.tail with
      | .error e => .error e
      | .ok (a, r) => match pMore sub f r with
        | .error e => .error e
        | .ok (as_, r2) => .ok (a :: as_, r2)) else .ok ([], ts) := rfl
theorem loc_more {E : Tok} (hE : E.kind = 0) {R : List Tok} (hR : R ≠ []) {sub : List Tok → Res (List Altn)} (hs : LocF E R sub) : ∀ (m : Nat) (u : List Tok) (f1 f2 : Nat), u.length < m → u.length < f1 → u.length < f2 → Loc E R u (pMore sub f1 (u ++ [E])) (pMore sub f2 (u ++ R))
  | 0, u, f1, f2, h, _, _ => by omega
  | m + 1, u, f1, f2, h, h1, h2 => by
    obtain ⟨f1, rfl⟩ : ∃ f, f1 = f + 1 := ⟨f1 - 1, by omega⟩
    obtain ⟨f2, rfl⟩ : ∃ f, f2 = f + 1 := ⟨f2 - 1, by omega⟩
    cases u with
    | nil =>
      rw [List.nil_append, mores_eq, if_neg (by rw [sg_end hE]; decide)]
      exact ⟨[], rfl, List.nil_suffix, .inl rfl⟩
    | cons t u =>
      have hl : (t :: u).length = u.length + 1 := rfl
      rw [mores_eq, mores_eq, show sg (t :: u ++ [E]) = sgOf t from rfl, show sg (t :: u ++ R) = sgOf t from rfl, show (t :: u ++ [E]).tail = u ++ [E] from rfl, show (t :: u ++ R).tail = u ++ R from rfl]
      by_cases ha : sgOf t = 124
      · rw [if_pos ha, if_pos ha]
        have h := loc_alt hE hR hs u
        cases hi : pAlt sub (u ++ [E]) with
        | error q =>
          rw [hi] at h
          rcases h with h | h
          · exact .inl h
          · rw [h]
            exact .inr rfl
        | ok x =>
          obtain ⟨i, r⟩ := x
          rw [hi] at h
          obtain ⟨v, rfl, hv, h | h⟩ := h
          · subst h
            have e : pMore sub f1 ([] ++ [E]) = .ok ([], [E]) := by
              obtain ⟨f1, rfl⟩ : ∃ f, f1 = f + 1 := ⟨f1 - 1, by omega⟩
              rw [List.nil_append, mores_eq, if_neg (by rw [sg_end hE]; decide)]
            show Loc E R _ (match pMore sub f1 ([] ++ [E]) with
              | .error e => .error e
              | .ok (as_, r2) => .ok (i :: as_, r2)) _
            rw [e]
            exact ⟨[], rfl, List.nil_suffix, .inl rfl⟩
          · rw [h]
            have hvl := hv.length_le
            have h3 := loc_more hE hR hs m v f1 f2 (by omega) (by omega) (by omega)
            show Loc E R _ (match pMore sub f1 (v ++ [E]) with
              | .error e => .error e
              | .ok (as_, r2) => .ok (i :: as_, r2)) (match pMore sub f2 (v ++ R) with
              | .error e => .error e
              | .ok (as_, r2) => .ok (i :: as_, r2))
            cases hj : pMore sub f1 (v ++ [E]) with
            | error q =>
              rw [hj] at h3
              rcases h3 with h3 | h3
              · exact .inl h3
              · rw [h3]
                exact .inr rfl
            | ok y =>
              obtain ⟨is, r⟩ := y
              rw [hj] at h3
              obtain ⟨v2, rfl, hv2, h3 | h3⟩ := h3
              · exact ⟨v2, rfl, (hv2.trans hv).trans (List.suffix_cons _ _), .inl h3⟩
              · rw [h3]
                exact ⟨v2, rfl, (hv2.trans hv).trans (List.suffix_cons _ _), .inr rfl⟩
      · rw [if_neg ha, if_neg ha]
        exact ⟨t :: u, rfl, List.suffix_refl _, .inr rfl⟩
theorem loc_alts {E : Tok} (hE : E.kind = 0) {R : List Tok} (hR : R ≠ []) {sub : List Tok → Res (List Altn)} (hs : LocF E R sub) (u : List Tok) : Loc E R u (pAlts sub (u ++ [E])) (pAlts sub (u ++ R)) := by
  have hRl : 0 < R.length := List.length_pos_iff.2 hR
  have h := loc_alt hE hR hs u
  unfold pAlts
  cases hi : pAlt sub (u ++ [E]) with
  | error q =>
    rw [hi] at h
    rcases h with h | h
    · exact .inl h
    · rw [h]
      exact .inr rfl
  | ok x =>
    obtain ⟨i, r⟩ := x
    rw [hi] at h
    obtain ⟨v, rfl, hv, h | h⟩ := h
    · subst h
      have e : pMore sub [E].length [E] = .ok ([], [E]) := by
        show pMore sub (0 + 1) [E] = _
        rw [mores_eq, if_neg (by rw [sg_end hE]; decide)]
      show Loc E R _ (match pMore sub [E].length [E] with
        | .error e => .error e
        | .ok (as_, r2) => .ok (i :: as_, r2)) _
      rw [e]
      exact ⟨[], rfl, List.nil_suffix, .inl rfl⟩
    · rw [h]
      have h3 := loc_more hE hR hs (v.length + 1) v (v ++ [E]).length (v ++ R).length (by omega) (by simp) (by simp; omega)
      show Loc E R _ (match pMore sub (v ++ [E]).length (v ++ [E]) with
        | .error e => .error e
        | .ok (as_, r2) => .ok (i :: as_, r2)) (match pMore sub (v ++ R).length (v ++ R) with
        | .error e => .error e
        | .ok (as_, r2) => .ok (i :: as_, r2))
      cases hj : pMore sub (v ++ [E]).length (v ++ [E]) with
      | error q =>
        rw [hj] at h3
        rcases h3 with h3 | h3
        · exact .inl h3
        · rw [h3]
          exact .inr rfl
      | ok y =>
        obtain ⟨is, r⟩ := y
        rw [hj] at h3
        obtain ⟨v2, rfl, hv2, h3 | h3⟩ := h3
        · exact ⟨v2, rfl, hv2.trans hv, .inl h3⟩
        · rw [h3]
          exact ⟨v2, rfl, hv2.trans hv, .inr rfl⟩
/-- the same, and what is left does not matter -/
def LocS {α : Type} (E : Tok) (R : List Tok) (n : List Tok) (a b : Res α) : Prop := match a with
  | .error q => q.2 = E.at_ ∨ b = .error q
  | .ok (x, r) => ∃ t v, r = v ++ [E] ∧ (t :: v) <:+ n ∧ b = .ok (x, v ++ R)
theorem LocS.loc {α : Type} {E : Tok} {R n : List Tok} {a b : Res α} (h : LocS E R n a b) : Loc E R n a b := by
  cases a with
  | error q => exact h
  | ok x =>
    obtain ⟨t, v, e, hv, h⟩ := h
    exact ⟨v, e, (List.suffix_cons _ _).trans hv, .inr h⟩
theorem loc_shut {E : Tok} (hE : E.kind = 0) {R : List Tok} {n : List Tok} {c : Nat} (hc : 0 < c) {a b : Res (List Altn)} (h : Loc E R n a b) : LocS E R n (pShut c a) (pShut c b) := by
  cases a with
  | error q =>
    rcases h with h | h
    · exact .inl h
    · rw [h]
      exact .inr rfl
  | ok x =>
    obtain ⟨bs, r⟩ := x
    obtain ⟨v, rfl, hv, h⟩ := h
    cases v with
    | nil =>
      have e : pShut c (.ok (bs, [] ++ [E])) = .error (5, E.at_) := if_neg (by rw [List.nil_append, sg_end hE]; omega)
      rw [e]
      exact .inl rfl
    | cons t v =>
      rcases h with h | h
      · cases h
      · rw [h]
        by_cases hs : sgOf t = c
        · rw [show pShut c (.ok (bs, t :: v ++ [E])) = .ok (bs, v ++ [E]) from if_pos hs, show pShut c (.ok (bs, t :: v ++ R)) = .ok (bs, v ++ R) from if_pos hs]
          exact ⟨t, v, rfl, hv, rfl⟩
        · rw [show pShut c (.ok (bs, t :: v ++ [E])) = .error (5, t.at_) from if_neg hs, show pShut c (.ok (bs, t :: v ++ R)) = .error (5, t.at_) from if_neg hs]
          exact .inr rfl
theorem loc_pA {E : Tok} (hE : E.kind = 0) {R : List Tok} (hR : R ≠ []) : ∀ (d : Nat), (∀ u, Loc E R u (pA d (u ++ [E])) (pA d (u ++ R)))
  | 0, u => by
    rw [show pA 0 = pAlts (pSub 0) from funext fun ts => pA_sub 0 ts]
    have h0 : LocF E R (pSub 0) := fun t u => by
      show (hd (t :: u ++ [E])).at_ = E.at_ ∨ pSub 0 (t :: u ++ R) = .error (6, (hd (t :: u ++ [E])).at_)
      exact .inr rfl
    exact loc_alts hE hR h0 u
  | d + 1, u => by
    have ih := loc_pA hE hR d
    rw [show pA (d + 1) = pAlts (pSub (d + 1)) from funext fun ts => pA_sub (d + 1) ts]
    have h0 : LocF E R (pSub (d + 1)) := fun t u => (loc_shut hE (c := 41) (by decide) (ih u)).loc
    exact loc_alts hE hR h0 u
theorem loc_def {E : Tok} (hE : E.kind = 0) {R : List Tok} (hR : R ≠ []) (u : List Tok) : LocS E R u (pDef (u ++ [E])) (pDef (u ++ R)) := by
  cases u with
  | nil =>
    have e : pDef ([] ++ [E]) = .error (5, E.at_) := if_neg (by show ¬ E.kind = 1; omega)
    rw [e]
    exact .inl rfl
  | cons t u =>
    by_cases k1 : t.kind = 1
    · cases u with
      | nil =>
        have e : pDef ([t] ++ [E]) = .error (5, E.at_) := (if_pos k1).trans (if_neg (by show ¬ sg [E] = 61; rw [sg_end hE]; decide))
        rw [e]
        exact .inl rfl
      | cons t2 u =>
        by_cases h61 : sgOf t2 = 61
        · have e : ∀ Z, pDef (t :: t2 :: u ++ Z) = (match pShut 59 (pA 16 (u ++ Z)) with
            | .error e => .error e
            | .ok (as_, r) => .ok ((t.at_, t.text, as_), r)) := fun Z => (if_pos k1).trans (if_pos h61)
          rw [e, e]
          have h := loc_shut hE (c := 59) (by decide) (loc_pA hE hR 16 u)
          cases hj : pShut 59 (pA 16 (u ++ [E])) with
          | error q =>
            rw [hj] at h
            rcases h with h | h
            · exact .inl h
            · rw [h]
              exact .inr rfl
          | ok y =>
            obtain ⟨is, r⟩ := y
            rw [hj] at h
            obtain ⟨t4, v, rfl, hv, h⟩ := h
            rw [h]
            exact ⟨t4, v, rfl, (hv.trans (List.suffix_cons _ _)).trans (List.suffix_cons _ _), rfl⟩
        · have e : ∀ Z, pDef (t :: t2 :: u ++ Z) = .error (5, t2.at_) := fun Z => (if_pos k1).trans (if_neg h61)
          rw [e, e]
          exact .inr rfl
    · have e : ∀ Z, pDef (t :: u ++ Z) = .error (5, t.at_) := fun Z => if_neg k1
      rw [e, e]
      exact .inr rfl
/-- definitions, and others behind them -/
theorem loc_text {E : Tok} (hE : E.kind = 0) {R : List Tok} (hR : R ≠ []) : ∀ (m : Nat) (u : List Tok) (f1 f2 : Nat), u.length < m → u.length < f1 → u.length ≤ f2 → 0 < f2 → (∀ t ∈ u, t.kind ≠ 0) → match pText f1 (u ++ [E]) with
    | .error q => q.2 = E.at_ ∨ pText f2 (u ++ R) = .error q
    | .ok ds => ∃ f', f2 = f' + ds.length ∧ ds.length ≤ u.length ∧ ds ≠ [] ∧ pText f2 (u ++ R) = preT ds (pRest f' R)
  | 0, u, f1, f2, h, _, _, _, _ => by omega
  | m + 1, u, f1, f2, h, h1, h2, h0, hk => by
    obtain ⟨f1, rfl⟩ : ∃ f, f1 = f + 1 := ⟨f1 - 1, by omega⟩
    obtain ⟨f2, rfl⟩ : ∃ f, f2 = f + 1 := ⟨f2 - 1, by omega⟩
    have hd' := loc_def hE hR u
    cases hi : pDef (u ++ [E]) with
    | error q =>
      rw [hi] at hd'
      rw [text_err f1 _ q hi]
      rcases hd' with h | h
      · exact .inl h
      · exact .inr (text_err f2 _ q h)
    | ok x =>
      obtain ⟨d, r⟩ := x
      rw [hi] at hd'
      obtain ⟨t, v, rfl, hv, hb⟩ := hd'
      have hvl := hv.length_le
      have hvl : v.length + 1 ≤ u.length := by simpa using hvl
      rw [text_ok f1 _ _ d hi, text_ok f2 _ _ d hb]
      cases v with
      | nil =>
        rw [show pRest f1 ([] ++ [E]) = .ok [] from if_pos hE]
        exact ⟨f2, rfl, by simp at hvl ⊢; omega, by simp, rfl⟩
      | cons t2 v =>
        have hk2 : t2.kind ≠ 0 := hk t2 (hv.subset (by simp))
        have e1 : pRest f1 (t2 :: v ++ [E]) = pText f1 (t2 :: v ++ [E]) := if_neg hk2
        have e2 : pRest f2 (t2 :: v ++ R) = pText f2 (t2 :: v ++ R) := if_neg hk2
        rw [e1, e2]
        have ih := loc_text hE hR m (t2 :: v) f1 f2 (by omega) (by omega) (by omega) (by simp at hvl; omega) (fun t' ht' => hk t' (hv.subset (by simp at ht' ⊢; exact .inr ht')))
        cases hj : pText f1 (t2 :: v ++ [E]) with
        | error q =>
          rw [hj] at ih
          rcases ih with h | h
          · exact .inl h
          · rw [h]
            exact .inr rfl
        | ok ds =>
          rw [hj] at ih
          obtain ⟨f', g1, g2, g3, g4⟩ := ih
          rw [g4, preT_app]
          exact ⟨f', by simp [g1]; omega, by simp; omega, by simp, rfl⟩
end Go.Proofs.YtldamieigigncaaGreatDoor.lx
namespace Go.Proofs.YtldamieigigncaaGreatDoor.lx
open Go.ChangeShapes Go.WideShapes Go.ChangeAt Go.RowKit
set_option linter.unusedVariables false
/-! words that are moved -/
def ShR {α : Type} (V : α → α → Prop) (E : Tok) (k : Nat) (n : List Tok) (a b : Res α) : Prop := match a, b with
  | .error q, .error q' => q' = (q.1, q.2 + k)
  | .ok (x, r), .ok (x', r') => V x x' ∧ r' = r.map (shT k) ∧ ∃ v, r = v ++ [E] ∧ v <:+ n
  | _, _ => False
theorem sh_sg (k : Nat) (t : Tok) : sgOf (shT k t) = sgOf t := rfl
def VT {α : Type} (_ _ : α) : Prop := True
def VL (x y : List Altn) : Prop := x.length = y.length
theorem sh_op {α : Type} {V : α → α → Prop} {E : Tok} (hE : E.kind = 0) (k : Nat) {n : List Tok} (f g : Nat → α) (hV : ∀ o, V (f o) (g o)) (v : List Tok) (hv : v <:+ n) : ShR V E k n (.ok (f (opOf (v ++ [E])), opTl (v ++ [E]))) (.ok (g (opOf ((v ++ [E]).map (shT k))), opTl ((v ++ [E]).map (shT k)))) := by
  cases v with
  | nil =>
    have h1 : opOf ([E].map (shT k)) = 0 ∧ opTl ([E].map (shT k)) = [E].map (shT k) := op_end (E := shT k E) hE
    rw [List.nil_append, (op_end hE).1, (op_end hE).2, h1.1, h1.2]
    exact ⟨hV _, rfl, [], rfl, List.nil_suffix⟩
  | cons t v =>
    have h1 : opOf ((t :: v ++ [E]).map (shT k)) = opOf (t :: v ++ [E]) := rfl
    rw [h1]
    by_cases ho : isOp (sgOf t) = true
    · have e1 : opTl (t :: v ++ [E]) = v ++ [E] := if_pos ho
      have e2 : opTl ((t :: v ++ [E]).map (shT k)) = (v ++ [E]).map (shT k) := if_pos ho
      rw [e1, e2]
      exact ⟨hV _, rfl, v, rfl, (List.suffix_cons t v).trans hv⟩
    · have e1 : opTl (t :: v ++ [E]) = t :: v ++ [E] := if_neg ho
      have e2 : opTl ((t :: v ++ [E]).map (shT k)) = (t :: v ++ [E]).map (shT k) := if_neg ho
      rw [e1, e2]
      exact ⟨hV _, rfl, t :: v, rfl, hv⟩
def ShF {α : Type} (V : α → α → Prop) (E : Tok) (k : Nat) (sub : List Tok → Res α) : Prop := ∀ t u, ShR V E k u (sub (t :: u ++ [E])) (sub ((t :: u ++ [E]).map (shT k)))
theorem sh_item {E : Tok} (hE : E.kind = 0) (k : Nat) {sub : List Tok → Res (List Altn)} (hs : ShF VL E k sub) : ShF VT E k (pItem sub) := by
  intro t u
  unfold pItem
  rw [show hd (t :: u ++ [E]) = t from rfl, show (t :: u ++ [E]).tail = u ++ [E] from rfl, show hd ((t :: u ++ [E]).map (shT k)) = shT k t from rfl, show ((t :: u ++ [E]).map (shT k)).tail = (u ++ [E]).map (shT k) from rfl]
  by_cases k1 : t.kind = 1
  · rw [if_pos k1, if_pos (show (shT k t).kind = 1 from k1)]
    exact sh_op hE k (fun o => Itm.mk t.at_ 0 t.text [] o) (fun o => Itm.mk (shT k t).at_ 0 (shT k t).text [] o) (fun _ => trivial) u (List.suffix_refl _)
  · rw [if_neg k1, if_neg (show ¬ (shT k t).kind = 1 from k1)]
    by_cases k2 : t.kind = 2
    · rw [if_pos k2, if_pos (show (shT k t).kind = 2 from k2)]
      exact sh_op hE k (fun o => Itm.mk t.at_ 1 t.text [] o) (fun o => Itm.mk (shT k t).at_ 1 (shT k t).text [] o) (fun _ => trivial) u (List.suffix_refl _)
    · rw [if_neg k2, if_neg (show ¬ (shT k t).kind = 2 from k2)]
      have h := hs t u
      cases ha : sub (t :: u ++ [E]) with
      | error q =>
        cases hb : sub ((t :: u ++ [E]).map (shT k)) with
        | error q' =>
          rw [ha, hb] at h
          exact h
        | ok y => rw [ha, hb] at h; exact h.elim
      | ok x =>
        cases hb : sub ((t :: u ++ [E]).map (shT k)) with
        | error q' => rw [ha, hb] at h; exact h.elim
        | ok y =>
          rw [ha, hb] at h
          obtain ⟨bs, r⟩ := x
          obtain ⟨bs', r'⟩ := y
          obtain ⟨_, rfl, v, rfl, hv⟩ := h
          exact sh_op hE k (fun o => Itm.mk t.at_ 2 [] bs o) (fun o => Itm.mk (shT k t).at_ 2 [] bs' o) (fun _ => trivial) v hv
theorem sh_items {E : Tok} (hE : E.kind = 0) (k : Nat) {sub : List Tok → Res (List Altn)} (hs : ShF VL E k sub) : ∀ (f : Nat) (u : List Tok), u.length < f → ShR VT E k u (pItems sub f (u ++ [E])) (pItems sub f ((u ++ [E]).map (shT k)))
  | 0, u, h => by omega
  | f + 1, u, h => by
    rw [items_eq, items_eq]
    cases u with
    | nil =>
      rw [if_neg (by rw [List.nil_append, atIt_end hE]; decide), if_neg (by rw [List.nil_append, show atIt (hd ([E].map (shT k))) = false from atIt_end (E := shT k E) hE]; decide)]
      exact ⟨trivial, rfl, [], rfl, List.nil_suffix⟩
    | cons t u =>
      have hl : (t :: u).length = u.length + 1 := rfl
      by_cases ha : atIt t = true
      · rw [if_pos (show atIt (hd (t :: u ++ [E])) = true from ha), if_pos (show atIt (hd ((t :: u ++ [E]).map (shT k))) = true from ha)]
        have h2 := sh_item hE k hs t u
        cases ha : pItem sub (t :: u ++ [E]) with
        | error q =>
          cases hb : pItem sub ((t :: u ++ [E]).map (shT k)) with
          | error q' =>
            rw [ha, hb] at h2
            exact h2
          | ok y => rw [ha, hb] at h2; exact h2.elim
        | ok x =>
          cases hb : pItem sub ((t :: u ++ [E]).map (shT k)) with
          | error q' => rw [ha, hb] at h2; exact h2.elim
          | ok y =>
            rw [ha, hb] at h2
            obtain ⟨i, r⟩ := x
            obtain ⟨i', r'⟩ := y
            obtain ⟨_, rfl, v, rfl, hv⟩ := h2
            have hvl := hv.length_le
            have h3 := sh_items hE k hs f v (by omega)
            show ShR VT E k _ (match pItems sub f (v ++ [E]) with
              | .error e => .error e
              | .ok (is, r2) => .ok (i :: is, r2)) (match pItems sub f ((v ++ [E]).map (shT k)) with
              | .error e => .error e
              | .ok (is, r2) => .ok (i' :: is, r2))
            cases hc : pItems sub f (v ++ [E]) with
            | error q =>
              cases hd' : pItems sub f ((v ++ [E]).map (shT k)) with
              | error q' =>
                rw [hc, hd'] at h3
                exact h3
              | ok y => rw [hc, hd'] at h3; exact h3.elim
            | ok x =>
              cases hd' : pItems sub f ((v ++ [E]).map (shT k)) with
              | error q' => rw [hc, hd'] at h3; exact h3.elim
              | ok y =>
                rw [hc, hd'] at h3
                obtain ⟨is, r⟩ := x
                obtain ⟨is', r'⟩ := y
                obtain ⟨_, rfl, v2, rfl, hv2⟩ := h3
                exact ⟨trivial, rfl, v2, rfl, (hv2.trans hv).trans (List.suffix_cons _ _)⟩
      · rw [if_neg (show ¬ atIt (hd (t :: u ++ [E])) = true from ha), if_neg (show ¬ atIt (hd ((t :: u ++ [E]).map (shT k))) = true from ha)]
        exact ⟨trivial, rfl, t :: u, rfl, List.suffix_refl _⟩
theorem sh_alt {E : Tok} (hE : E.kind = 0) (k : Nat) {sub : List Tok → Res (List Altn)} (hs : ShF VL E k sub) (u : List Tok) : ShR VT E k u (pAlt sub (u ++ [E])) (pAlt sub ((u ++ [E]).map (shT k))) := by
  have fin : ∀ (w : List Tok) (a f a' : Nat), w <:+ u → pAlt sub (u ++ [E]) = (match pItems sub (w ++ [E]).length (w ++ [E]) with
      | .error e => .error e
      | .ok (is, r) => .ok ((a, f, is), r)) → pAlt sub ((u ++ [E]).map (shT k)) = (match pItems sub ((w ++ [E]).map (shT k)).length ((w ++ [E]).map (shT k)) with
      | .error e => .error e
      | .ok (is, r) => .ok ((a', f, is), r)) → ShR VT E k u (pAlt sub (u ++ [E])) (pAlt sub ((u ++ [E]).map (shT k))) := fun w a f a' hw e1 e2 => by
    have h := sh_items hE k hs (w ++ [E]).length w (by simp)
    rw [e1, e2, List.length_map]
    cases hc : pItems sub (w ++ [E]).length (w ++ [E]) with
    | error q =>
      cases hd' : pItems sub (w ++ [E]).length ((w ++ [E]).map (shT k)) with
      | error q' =>
        rw [hc, hd'] at h
        exact h
      | ok y => rw [hc, hd'] at h; exact h.elim
    | ok x =>
      cases hd' : pItems sub (w ++ [E]).length ((w ++ [E]).map (shT k)) with
      | error q' => rw [hc, hd'] at h; exact h.elim
      | ok y =>
        rw [hc, hd'] at h
        obtain ⟨is, r⟩ := x
        obtain ⟨is', r'⟩ := y
        obtain ⟨_, rfl, v, rfl, hv⟩ := h
        exact ⟨trivial, rfl, v, rfl, hv.trans hw⟩
  cases u with
  | nil =>
    refine fin [] E.at_ 0 (shT k E).at_ (List.suffix_refl _) ?_ ?_
    · unfold pAlt
      rw [List.nil_append, show wtTl [E] = [E] from if_neg (by show ¬ E.kind = 3; omega), show wtOf (hd [E]) = 0 from if_neg (by show ¬ E.kind = 3; omega)]
      rfl
    · unfold pAlt
      rw [List.nil_append, show wtTl ([E].map (shT k)) = [E].map (shT k) from if_neg (by show ¬ E.kind = 3; omega), show wtOf (hd ([E].map (shT k))) = 0 from if_neg (by show ¬ E.kind = 3; omega)]
      rfl
  | cons t u =>
    by_cases k3 : t.kind = 3
    · refine fin u t.at_ t.wt (shT k t).at_ (List.suffix_cons _ _) ?_ ?_
      · unfold pAlt
        rw [show wtTl (t :: u ++ [E]) = u ++ [E] from if_pos k3, show wtOf (hd (t :: u ++ [E])) = t.wt from if_pos k3]
        rfl
      · unfold pAlt
        rw [show wtTl ((t :: u ++ [E]).map (shT k)) = (u ++ [E]).map (shT k) from if_pos k3, show wtOf (hd ((t :: u ++ [E]).map (shT k))) = t.wt from if_pos k3]
        rfl
    · refine fin (t :: u) t.at_ 0 (shT k t).at_ (List.suffix_refl _) ?_ ?_
      · unfold pAlt
        rw [show wtTl (t :: u ++ [E]) = t :: u ++ [E] from if_neg k3, show wtOf (hd (t :: u ++ [E])) = 0 from if_neg k3]
        rfl
      · unfold pAlt
        rw [show wtTl ((t :: u ++ [E]).map (shT k)) = (t :: u ++ [E]).map (shT k) from if_neg k3, show wtOf (hd ((t :: u ++ [E]).map (shT k))) = 0 from if_neg k3]
        rfl
theorem sh_more {E : Tok} (hE : E.kind = 0) (k : Nat) {sub : List Tok → Res (List Altn)} (hs : ShF VL E k sub) : ∀ (f : Nat) (u : List Tok), u.length < f → ShR VL E k u (pMore sub f (u ++ [E])) (pMore sub f ((u ++ [E]).map (shT k)))
  | 0, u, h => by omega
  | f + 1, u, h => by
    rw [mores_eq, mores_eq]
    cases u with
    | nil =>
      rw [if_neg (by rw [List.nil_append, sg_end hE]; decide), if_neg (by rw [List.nil_append, show sg ([E].map (shT k)) = 0 from sg_end (E := shT k E) hE]; decide)]
      exact ⟨rfl, rfl, [], rfl, List.nil_suffix⟩
    | cons t u =>
      have hl : (t :: u).length = u.length + 1 := rfl
      by_cases ha : sgOf t = 124
      · rw [if_pos (show sg (t :: u ++ [E]) = 124 from ha), if_pos (show sg ((t :: u ++ [E]).map (shT k)) = 124 from ha), show (t :: u ++ [E]).tail = u ++ [E] from rfl, show ((t :: u ++ [E]).map (shT k)).tail = (u ++ [E]).map (shT k) from rfl]
        have h2 := sh_alt hE k hs u
        cases ha : pAlt sub (u ++ [E]) with
        | error q =>
          cases hb : pAlt sub ((u ++ [E]).map (shT k)) with
          | error q' =>
            rw [ha, hb] at h2
            exact h2
          | ok y => rw [ha, hb] at h2; exact h2.elim
        | ok x =>
          cases hb : pAlt sub ((u ++ [E]).map (shT k)) with
          | error q' => rw [ha, hb] at h2; exact h2.elim
          | ok y =>
            rw [ha, hb] at h2
            obtain ⟨i, r⟩ := x
            obtain ⟨i', r'⟩ := y
            obtain ⟨_, rfl, v, rfl, hv⟩ := h2
            have hvl := hv.length_le
            have h3 := sh_more hE k hs f v (by omega)
            show ShR VL E k _ (match pMore sub f (v ++ [E]) with
              | .error e => .error e
              | .ok (as_, r2) => .ok (i :: as_, r2)) (match pMore sub f ((v ++ [E]).map (shT k)) with
              | .error e => .error e
              | .ok (as_, r2) => .ok (i' :: as_, r2))
            cases hc : pMore sub f (v ++ [E]) with
            | error q =>
              cases hd' : pMore sub f ((v ++ [E]).map (shT k)) with
              | error q' =>
                rw [hc, hd'] at h3
                exact h3
              | ok y => rw [hc, hd'] at h3; exact h3.elim
            | ok x =>
              cases hd' : pMore sub f ((v ++ [E]).map (shT k)) with
              | error q' => rw [hc, hd'] at h3; exact h3.elim
              | ok y =>
                rw [hc, hd'] at h3
                obtain ⟨is, r⟩ := x
                obtain ⟨is', r'⟩ := y
                obtain ⟨hl2, rfl, v2, rfl, hv2⟩ := h3
                exact ⟨congrArg (· + 1) hl2, rfl, v2, rfl, (hv2.trans hv).trans (List.suffix_cons _ _)⟩
      · rw [if_neg (show ¬ sg (t :: u ++ [E]) = 124 from ha), if_neg (show ¬ sg ((t :: u ++ [E]).map (shT k)) = 124 from ha)]
        exact ⟨rfl, rfl, t :: u, rfl, List.suffix_refl _⟩
theorem sh_alts {E : Tok} (hE : E.kind = 0) (k : Nat) {sub : List Tok → Res (List Altn)} (hs : ShF VL E k sub) (u : List Tok) : ShR VL E k u (pAlts sub (u ++ [E])) (pAlts sub ((u ++ [E]).map (shT k))) := by
  have h2 := sh_alt hE k hs u
  unfold pAlts
  cases ha : pAlt sub (u ++ [E]) with
  | error q =>
    cases hb : pAlt sub ((u ++ [E]).map (shT k)) with
    | error q' =>
      rw [ha, hb] at h2
      exact h2
    | ok y => rw [ha, hb] at h2; exact h2.elim
  | ok x =>
    cases hb : pAlt sub ((u ++ [E]).map (shT k)) with
    | error q' => rw [ha, hb] at h2; exact h2.elim
    | ok y =>
      rw [ha, hb] at h2
      obtain ⟨i, r⟩ := x
      obtain ⟨i', r'⟩ := y
      obtain ⟨_, rfl, v, rfl, hv⟩ := h2
      have h3 := sh_more hE k hs (v ++ [E]).length v (by simp)
      show ShR VL E k _ (match pMore sub (v ++ [E]).length (v ++ [E]) with
        | .error e => .error e
        | .ok (as_, r2) => .ok (i :: as_, r2)) (match pMore sub ((v ++ [E]).map (shT k)).length ((v ++ [E]).map (shT k)) with
        | .error e => .error e
        | .ok (as_, r2) => .ok (i' :: as_, r2))
      rw [List.length_map]
      cases hc : pMore sub (v ++ [E]).length (v ++ [E]) with
      | error q =>
        cases hd' : pMore sub (v ++ [E]).length ((v ++ [E]).map (shT k)) with
        | error q' =>
          rw [hc, hd'] at h3
          exact h3
        | ok y => rw [hc, hd'] at h3; exact h3.elim
      | ok x =>
        cases hd' : pMore sub (v ++ [E]).length ((v ++ [E]).map (shT k)) with
        | error q' => rw [hc, hd'] at h3; exact h3.elim
        | ok y =>
          rw [hc, hd'] at h3
          obtain ⟨is, r⟩ := x
          obtain ⟨is', r'⟩ := y
          obtain ⟨hl2, rfl, v2, rfl, hv2⟩ := h3
          exact ⟨congrArg (· + 1) hl2, rfl, v2, rfl, hv2.trans hv⟩
theorem sh_shut {E : Tok} (hE : E.kind = 0) (k c : Nat) (hc : 0 < c) {n : List Tok} {a b : Res (List Altn)} (h : ShR VL E k n a b) : ShR VL E k n (pShut c a) (pShut c b) := by
  cases a with
  | error q =>
    cases b with
    | error q' => exact h
    | ok y => exact h.elim
  | ok x =>
    cases b with
    | error q' => exact h.elim
    | ok y =>
      obtain ⟨bs, r⟩ := x
      obtain ⟨bs', r'⟩ := y
      obtain ⟨hl, rfl, v, rfl, hv⟩ := h
      cases v with
      | nil =>
        have e1 : pShut c (.ok (bs, [] ++ [E])) = .error (5, E.at_) := if_neg (by rw [List.nil_append, sg_end hE]; omega)
        have e2 : pShut c (.ok (bs', ([] ++ [E]).map (shT k))) = .error (5, (shT k E).at_) := if_neg (by rw [List.nil_append, show sg ([E].map (shT k)) = 0 from sg_end (E := shT k E) hE]; omega)
        rw [e1, e2]
        rfl
      | cons t v =>
        by_cases hs : sgOf t = c
        · rw [show pShut c (.ok (bs, t :: v ++ [E])) = .ok (bs, v ++ [E]) from if_pos hs, show pShut c (.ok (bs', (t :: v ++ [E]).map (shT k))) = .ok (bs', (v ++ [E]).map (shT k)) from if_pos hs]
          exact ⟨hl, rfl, v, rfl, (List.suffix_cons _ _).trans hv⟩
        · rw [show pShut c (.ok (bs, t :: v ++ [E])) = .error (5, t.at_) from if_neg hs, show pShut c (.ok (bs', (t :: v ++ [E]).map (shT k))) = .error (5, (shT k t).at_) from if_neg hs]
          rfl
theorem sh_pA {E : Tok} (hE : E.kind = 0) (k : Nat) : ∀ (d : Nat), (∀ u, ShR VL E k u (pA d (u ++ [E])) (pA d ((u ++ [E]).map (shT k))))
  | 0, u => by
    rw [show pA 0 = pAlts (pSub 0) from funext fun ts => pA_sub 0 ts]
    have h0 : ShF VL E k (pSub 0) := fun t u => by
      show (6, (shT k t).at_) = (6, t.at_ + k)
      rfl
    exact sh_alts hE k h0 u
  | d + 1, u => by
    have ih := sh_pA hE k d
    rw [show pA (d + 1) = pAlts (pSub (d + 1)) from funext fun ts => pA_sub (d + 1) ts]
    have h0 : ShF VL E k (pSub (d + 1)) := fun t u => sh_shut hE k 41 (by decide) (ih u)
    exact sh_alts hE k h0 u
def VD (k : Nat) (d d' : Dfn) : Prop := d'.1 = d.1 + k ∧ d'.2.1 = d.2.1 ∧ d'.2.2.length = d.2.2.length
theorem sh_def {E : Tok} (hE : E.kind = 0) (k : Nat) (u : List Tok) : ShR (VD k) E k u (pDef (u ++ [E])) (pDef ((u ++ [E]).map (shT k))) := by
  cases u with
  | nil =>
    have e1 : pDef ([] ++ [E]) = .error (5, E.at_) := if_neg (by show ¬ E.kind = 1; omega)
    have e2 : pDef (([] ++ [E]).map (shT k)) = .error (5, (shT k E).at_) := if_neg (by show ¬ E.kind = 1; omega)
    rw [e1, e2]
    rfl
  | cons t u =>
    by_cases k1 : t.kind = 1
    · cases u with
      | nil =>
        have e1 : pDef ([t] ++ [E]) = .error (5, E.at_) := (if_pos k1).trans (if_neg (by show ¬ sg [E] = 61; rw [sg_end hE]; decide))
        have e2 : pDef (([t] ++ [E]).map (shT k)) = .error (5, (shT k E).at_) := (if_pos (show (shT k t).kind = 1 from k1)).trans (if_neg (by show ¬ sg [shT k E] = 61; rw [sg_end (E := shT k E) hE]; decide))
        rw [e1, e2]
        rfl
      | cons t2 u =>
        by_cases h61 : sgOf t2 = 61
        · have e1 : pDef (t :: t2 :: u ++ [E]) = (match pShut 59 (pA 16 (u ++ [E])) with
            | .error e => .error e
            | .ok (as_, r) => .ok ((t.at_, t.text, as_), r)) := (if_pos k1).trans (if_pos h61)
          have e2 : pDef ((t :: t2 :: u ++ [E]).map (shT k)) = (match pShut 59 (pA 16 ((u ++ [E]).map (shT k))) with
            | .error e => .error e
            | .ok (as_, r) => .ok (((shT k t).at_, (shT k t).text, as_), r)) := (if_pos (show (shT k t).kind = 1 from k1)).trans (if_pos (show sgOf (shT k t2) = 61 from h61))
          rw [e1, e2]
          have h := sh_shut hE k 59 (by decide) (sh_pA hE k 16 u)
          cases hc : pShut 59 (pA 16 (u ++ [E])) with
          | error q =>
            cases hd' : pShut 59 (pA 16 ((u ++ [E]).map (shT k))) with
            | error q' =>
              rw [hc, hd'] at h
              exact h
            | ok y => rw [hc, hd'] at h; exact h.elim
          | ok x =>
            cases hd' : pShut 59 (pA 16 ((u ++ [E]).map (shT k))) with
            | error q' => rw [hc, hd'] at h; exact h.elim
            | ok y =>
              rw [hc, hd'] at h
              obtain ⟨is, r⟩ := x
              obtain ⟨is', r'⟩ := y
              obtain ⟨hl, rfl, v, rfl, hv⟩ := h
              exact ⟨⟨rfl, rfl, hl.symm⟩, rfl, v, rfl, (hv.trans (List.suffix_cons _ _)).trans (List.suffix_cons _ _)⟩
        · have e1 : pDef (t :: t2 :: u ++ [E]) = .error (5, t2.at_) := (if_pos k1).trans (if_neg h61)
          have e2 : pDef ((t :: t2 :: u ++ [E]).map (shT k)) = .error (5, (shT k t2).at_) := (if_pos (show (shT k t).kind = 1 from k1)).trans (if_neg (show ¬ sgOf (shT k t2) = 61 from h61))
          rw [e1, e2]
          rfl
    · have e1 : pDef (t :: u ++ [E]) = .error (5, t.at_) := if_neg k1
      have e2 : pDef ((t :: u ++ [E]).map (shT k)) = .error (5, (shT k t).at_) := if_neg (show ¬ (shT k t).kind = 1 from k1)
      rw [e1, e2]
      rfl
end Go.Proofs.YtldamieigigncaaGreatDoor.lx
