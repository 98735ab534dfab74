import Derived.Test.YtjddjdpgnoebnaaGreatDoorRpc
namespace Go.Proofs.YtjddjdpgnoebnaaGreatDoor.lx
open Go.ChangeShapes Go.WideShapes Go.ChangeAt Go.RowKit
set_option linter.unusedVariables false
theorem lex_split (s : List UInt8) : ∀ (m k : Nat), s.length - k < m → k ≤ s.length → ∀ ts, lexA s k = (ts, none) → ∃ u, ts = u ++ [⟨0, s.length, [], 0⟩] ∧ ∀ t ∈ u, t.kind ≠ 0
  | 0, k, h, _, _, _ => by omega
  | m + 1, k, h, hk, ts, hts => by
    by_cases hlt : k < s.length
    · cases hx : wordAt (s.drop k) with
      | error e =>
        rw [lexA_error _ _ e hlt hx] at hts
        cases hts
      | ok x =>
        obtain ⟨kd, t, w, n⟩ := x
        have hn := word_n hx
        rw [List.length_drop] at hn
        have hg := nxt_ge s (k + n + 1)
        have hle := nxt_le s (k + n + 1) (by omega)
        have hkd := word_kind hx
        rw [lexA_ok _ _ kd w n t hlt hx] at hts
        rcases hy : lexA s (nxt s (k + n + 1)) with ⟨us, f⟩
        rw [hy] at hts
        obtain rfl : f = none := congrArg Prod.snd hts
        obtain rfl : ⟨kd, k, t, w⟩ :: us = ts := congrArg Prod.fst hts
        obtain ⟨u, rfl, hu⟩ := lex_split s m _ (by omega) hle _ hy
        refine ⟨⟨kd, k, t, w⟩ :: u, rfl, fun t' ht' => ?_⟩
        rcases List.mem_cons.1 ht' with rfl | ht'
        · show kd ≠ 0
          omega
        · exact hu t' ht'
    · obtain rfl : k = s.length := by omega
      rw [lexA_end] at hts
      obtain rfl : _ = ts := congrArg Prod.fst hts
      exact ⟨[], rfl, fun t ht => by simp at ht⟩
theorem all_split (s : List UInt8) {x : List Tok} (h : lexAll s = (x, 0, 0)) : ∃ u, x = u ++ [⟨0, s.length, [], 0⟩] ∧ ∀ t ∈ u, t.kind ≠ 0 := by
  unfold lexAll at h
  by_cases hb : 65536 < s.length
  · rw [if_pos hb] at h
    cases h
  · rw [if_neg hb] at h
    rcases hA : lexA s (nxt s 0) with ⟨y, f⟩
    rw [hA] at h
    cases f with
    | some f =>
      obtain ⟨e, k⟩ := f
      have := err_ge s hA
      have h' : ([], e, k) = (x, 0, 0) := h
      have : e = 0 := congrArg (fun z => z.2.1) h'
      omega
    | none =>
      have h' : (y, 0, 0) = (x, 0, 0) := h
      obtain rfl : y = x := congrArg Prod.fst h'
      exact lex_split s _ _ (Nat.lt_succ_self _) (nxt_le s 0 (Nat.zero_le _)) _ hA
theorem read_of_bad {s : List UInt8} {e k : Nat} {x : List Tok} (h : lexAll s = (x, e, k)) (he : 1 ≤ e) : readAll s = ([], e, k) := by
  unfold readAll
  rw [h]
  exact if_neg (by show ¬ e = 0; omega)
theorem read_of_ok {s : List UInt8} {x : List Tok} (h : lexAll s = (x, 0, 0)) : readAll s = (match pText x.length x with
    | .error e => ([], e)
    | .ok ds => (ds, 0, 0)) := by
  unfold readAll
  rw [h]
  rfl
theorem VDs.len {k : Nat} : ∀ {x y : List Dfn}, VDs k x y → y.length = x.length
  | [], [], _ => rfl
  | d :: ds, d' :: ds', ⟨_, h⟩ => congrArg (· + 1) (VDs.len h)
/-- the definitions of two texts, one behind the other -/
theorem read_join (a b : List UInt8) (ha : a.length ≤ 600) (hb : b.length ≤ 600) :
    (∃ e k, 0 < e ∧ readAll a = ([], e, k) ∧ (k = a.length ∨ ∃ e' k', 0 < e' ∧ readAll (joinT a b) = ([], e', k'))) ∨
    (∃ x e k, 0 < e ∧ x ≠ [] ∧ readAll a = (x, 0, 0) ∧ readAll b = ([], e, k) ∧ ((∃ z, readAll (joinT a b) = (z, 0, 0) ∧ z.length = x.length) ∨ ∃ e' k', 0 < e' ∧ a.length < k' ∧ readAll (joinT a b) = ([], e', k'))) ∨
    (∃ x y y', x ≠ [] ∧ readAll a = (x, 0, 0) ∧ readAll b = (y, 0, 0) ∧ readAll (joinT a b) = (x ++ y', 0, 0) ∧ VDs (a.length + 1) y y') := by
  rcases lex_join a b ha hb with ⟨e, k, ⟨he, hk⟩, ea, ej⟩ | ⟨x, e, k, ⟨he, hk⟩, ⟨hx, hxl⟩, ea, eb, ej⟩ | ⟨x, y, ⟨hx, hxl, hxa⟩, ⟨hy, hyl, hya⟩, ea, eb, ej⟩
  · exact .inl ⟨e, k, he, read_of_bad ea he, .inr ⟨e, k, he, read_of_bad ej he⟩⟩
  · have hja := read_of_bad ej he
    have hjb := read_of_bad eb he
    have hra := read_of_ok ea
    cases hp : pText x.length x with
    | error q =>
      rw [hp] at hra
      exact .inl ⟨q.1, q.2, pos_text _ _ _ hp, hra, .inr ⟨_, _, he, hja⟩⟩
    | ok ds =>
      rw [hp] at hra
      have hne : ds ≠ [] := by
        obtain ⟨u, hu, huk⟩ := all_split a ea
        have h := loc_text (E := ⟨0, a.length, [], 0⟩) rfl (R := [⟨0, a.length, [], 0⟩]) (by simp) (u.length + 1) u (u.length + 1) (u.length + 1) (by omega) (by omega) (by omega) (by omega) huk
        rw [show u.length + 1 = x.length from by rw [hu]; simp, ← hu, hp] at h
        obtain ⟨_, _, _, h, _⟩ := h
        exact h
      exact .inr (.inl ⟨ds, e, k, he, hne, hra, hjb, .inr ⟨_, _, he, by omega, hja⟩⟩)
  · obtain ⟨u, rfl, huk⟩ := all_split a ea
    obtain ⟨v, rfl, hvk⟩ := all_split b eb
    have hra := read_of_ok ea
    have hrb := read_of_ok eb
    have hrj := read_of_ok ej
    rw [List.dropLast_concat] at hrj
    have hR : (v ++ [(⟨0, b.length, [], 0⟩ : Tok)]).map (shT (a.length + 1)) ≠ [] := by simp
    have hlu : (u ++ [(⟨0, a.length, [], 0⟩ : Tok)]).length = u.length + 1 := by simp
    have hlj : (u ++ (v ++ [(⟨0, b.length, [], 0⟩ : Tok)]).map (shT (a.length + 1))).length = u.length + (v.length + 1) := by simp
    have h := loc_text (E := ⟨0, a.length, [], 0⟩) rfl hR (u.length + 1) u (u.length + 1) (u.length + (v.length + 1)) (by omega) (by omega) (by omega) (by omega) huk
    rw [hlu] at hra
    rw [hlj] at hrj
    cases hp : pText (u.length + 1) (u ++ [⟨0, a.length, [], 0⟩]) with
    | error q =>
      rw [hp] at hra h
      refine .inl ⟨q.1, q.2, pos_text _ _ _ hp, hra, ?_⟩
      rcases h with h | h
      · exact .inl h
      · rw [h] at hrj
        exact .inr ⟨q.1, q.2, pos_text _ _ _ hp, hrj⟩
    | ok ds =>
      rw [hp] at hra h
      obtain ⟨f', g1, g2, g3, g4⟩ := h
      rw [g4] at hrj
      have hsh := sh_text (E := ⟨0, b.length, [], 0⟩) rfl (a.length + 1) (v.length + 1) v (by omega)
      have hlv : (v ++ [(⟨0, b.length, [], 0⟩ : Tok)]).length = v.length + 1 := by simp
      rw [hlv] at hrb
      have hkm : (v ++ [(⟨0, b.length, [], 0⟩ : Tok)]).map (shT (a.length + 1)) = v.map (shT (a.length + 1)) ++ [shT (a.length + 1) ⟨0, b.length, [], 0⟩] := by simp
      have hfu : pText f' ((v ++ [(⟨0, b.length, [], 0⟩ : Tok)]).map (shT (a.length + 1))) = pText (v.length + 1) ((v ++ [(⟨0, b.length, [], 0⟩ : Tok)]).map (shT (a.length + 1))) := by
        rw [hkm]
        exact fuel_text (E := shT (a.length + 1) ⟨0, b.length, [], 0⟩) rfl (v.length + 1) _ _ _ (by simp) (by simp; omega) (by simp)
      by_cases h0 : (hd ((v ++ [(⟨0, b.length, [], 0⟩ : Tok)]).map (shT (a.length + 1)))).kind = 0
      · have hv0 : v = [] := by
          cases v with
          | nil => rfl
          | cons t v => exact absurd h0 (hvk t (by simp))
        subst hv0
        have hpb : pText 1 [(⟨0, b.length, [], 0⟩ : Tok)] = .error (5, b.length) := text_err 0 _ _ (if_neg (by show ¬ 0 = 1; decide))
        rw [show pText (([] : List Tok).length + 1) ([] ++ [(⟨0, b.length, [], 0⟩ : Tok)]) = .error (5, b.length) from hpb] at hrb
        have hpr : pRest f' (([] ++ [(⟨0, b.length, [], 0⟩ : Tok)]).map (shT (a.length + 1))) = .ok [] := if_pos h0
        rw [hpr] at hrj
        refine .inr (.inl ⟨ds, 5, b.length, by decide, g3, hra, hrb, .inl ⟨ds ++ [], hrj, by simp⟩⟩)
      · rw [show pRest f' ((v ++ [(⟨0, b.length, [], 0⟩ : Tok)]).map (shT (a.length + 1))) = pText f' ((v ++ [(⟨0, b.length, [], 0⟩ : Tok)]).map (shT (a.length + 1))) from if_neg h0, hfu] at hrj
        cases hq : pText (v.length + 1) (v ++ [(⟨0, b.length, [], 0⟩ : Tok)]) with
        | error q =>
          cases hq' : pText (v.length + 1) ((v ++ [(⟨0, b.length, [], 0⟩ : Tok)]).map (shT (a.length + 1))) with
          | error q' =>
            rw [hq, hq'] at hsh
            rw [hq] at hrb
            rw [hq', show q' = (q.1, q.2 + (a.length + 1)) from hsh] at hrj
            exact .inr (.inl ⟨ds, q.1, q.2, pos_text _ _ _ hq, g3, hra, hrb, .inr ⟨q.1, q.2 + (a.length + 1), pos_text _ _ _ hq, by omega, hrj⟩⟩)
          | ok y => rw [hq, hq'] at hsh; exact hsh.elim
        | ok y =>
          cases hq' : pText (v.length + 1) ((v ++ [(⟨0, b.length, [], 0⟩ : Tok)]).map (shT (a.length + 1))) with
          | error q' => rw [hq, hq'] at hsh; exact hsh.elim
          | ok y' =>
            rw [hq, hq'] at hsh
            rw [hq] at hrb
            rw [hq'] at hrj
            exact .inr (.inr ⟨ds, y, y', g3, hra, hrb, hrj, hsh⟩)
end Go.Proofs.YtjddjdpgnoebnaaGreatDoor.lx
