import Derived.Test.YthcnffieoocnkaaLess
namespace Go.Proofs.Ythcnffieoocnkaa.st
open Go.ChangeShapes Go.WideShapes Go.ChangeAt Go.RowKit Go.Maps Go.WideMaps Go.WideElems
set_option linter.unusedVariables false
theorem ltW_same : ∀ {xs ys : List Int}, ltW xs ys = false → ltW ys xs = false → xs = ys
  | [], [], _, _ => rfl
  | [], _ :: _, h, _ => by simp [ltW] at h
  | _ :: _, [], _, h => by simp [ltW] at h
  | x :: xs, y :: ys, h1, h2 => by
    simp [ltW] at h1 h2
    obtain rfl : x = y := by omega
    rw [ltW_same (h1.2 rfl) (h2.2 rfl)]
theorem ltW_irr : ∀ (xs : List Int), ltW xs xs = false
  | [] => rfl
  | x :: xs => by simp [ltW, ltW_irr xs]
theorem sameW (xs ys : List Int) : (!ltW xs ys && !ltW ys xs) = decide (xs = ys) := by
  by_cases h : xs = ys
  · subst h; simp [ltW_irr]
  · simp only [h, decide_false]
    cases h1 : ltW xs ys <;> cases h2 : ltW ys xs <;> simp
    exact h (ltW_same h1 h2)
theorem WordAt.qt {w w' : World} {v : Value} {xs : List Int} (h : WordAt w v xs) (hb : Qt w w') : WordAt w' v xs := h.below hb.below
theorem WordsAt.qt {w w' : World} {v : Value} {xss : List (List Int)} (h : WordsAt w v xss) (hb : Qt w w') : WordsAt w' v xss := h.below hb.below
set_option maxRecDepth 100000 in
set_option maxHeartbeats 1000000 in
theorem rsame_any (w : World) (v u : Value) (xs ys : List Int) (hv : WordAt w v xs) (hu : WordAt w u ys) (hx : xs.length ≤ 1000) (hy : ys.length ≤ 1000) : Calls Try.prog 11 #[v, u] w fun e w' => e = .returned (.bool (decide (xs = ys))) ∧ ∃ n, w' = w.drewN n := by
  have h1 := less_any w v u xs ys hv hu hx hy
  have h2 := fun w1 (hb : Qt w w1) => less_any w1 u v ys xs (hu.qt hb) (hv.qt hb) hy hx
  have hs := sameW xs ys
  have HS := Lib.hid hs
  clear hs hv hu
  cases hl : ltW xs ys
  · rw [hl] at h1
    have HL := Lib.hid hl
    clear hl
    go_enter Try.func11, Try.ntmps11
    go_wp2_with fail
    refine h1.mono ?_
    rintro e w1 ⟨rfl, hb⟩
    have hb : Qt w w1 := hb
    go_wp2_with fail
    refine (h2 w1 hb).mono ?_
    rintro e w2 ⟨rfl, hb2⟩
    go_wp2_with fail
    go_ret
    exact ⟨ret_bool (by rw [← HS.out, HL.out]; simp), hb.trans hb2⟩
  · rw [hl] at h1
    have HL := Lib.hid hl
    clear hl
    go_enter Try.func11, Try.ntmps11
    go_wp2_with fail
    refine h1.mono ?_
    rintro e w1 ⟨rfl, hb⟩
    have hb : Qt w w1 := hb
    go_wp2_with fail
    go_ret
    exact ⟨ret_bool (by rw [← HS.out, HL.out]; simp), hb⟩
theorem takeL_more {k : Nat} {xs ys : List (List Int)} (h1 : k < xs.length) (h2 : k < ys.length) (h : xs.take k = ys.take k) (he : xs.getD k [] = ys.getD k []) : xs.take (k + 1) = ys.take (k + 1) := by
  rw [List.take_succ_eq_append_getElem h1, List.take_succ_eq_append_getElem h2, h]
  simp [List.getD_eq_getElem?_getD, List.getElem?_eq_getElem h1, List.getElem?_eq_getElem h2] at he
  rw [he]
set_option maxRecDepth 100000 in
set_option maxHeartbeats 1000000 in
theorem alike_any (w : World) (v u : Value) (xs ys : List (List Int)) (hv : WordsAt w v xs) (hu : WordsAt w u ys) (hx : xs.length ≤ maxLen) (hy : ys.length ≤ maxLen) : Calls Try.prog 19 #[v, u] w fun e w' => e = .returned (.bool (decide (xs = ys))) ∧ ∃ n, w' = w.drewN n := by
  unfold maxLen at hx hy
  obtain ⟨ao, ca, rfl, hc⟩ := hv
  obtain ⟨bo, cb, rfl, hc2⟩ := hu
  have HC := Lib.hid hc
  have HC2 := Lib.hid hc2
  clear hc hc2
  by_cases hlen : xs.length = ys.length
  · have HL := Lib.hid hlen
    go_enter Try.func19, Try.ntmps19
    go_wp2
    clear hlen
    go_loopw [5] (fun i wr => ∃ k : Nat, i = .int .i64 k ∧ k ≤ ys.length ∧ xs.take k = ys.take k ∧ Qt w wr) (fun i _ => ys.length - (intOf i).toNat)
    case atStart => exact ⟨0, rfl, Nat.zero_le _, by simp, ⟨0, rfl⟩⟩
    case round =>
      obtain ⟨k, rfl, hk, htk, hq⟩ := hrel
      by_cases h2 : k < ys.length
      · have h1 : k < xs.length := by have := HL.out; omega
        obtain ⟨a, va, rfl, hab, hca, hwa, hla⟩ := HC.out k h1
        obtain ⟨b, vb, rfl, hbb, hcb, hwb, hlb⟩ := HC2.out k h2
        have ca : wr.cell? (a.add k) = some va := (hq.cell _).trans hca
        have cb : wr.cell? (b.add k) = some vb := (hq.cell _).trans hcb
        have hsm := fun nn => rsame_any (wr.drewN nn) va vb _ _ (hwa.qt (hq.drewN nn)) (hwb.qt (hq.drewN nn)) hla hlb
        have hmo := takeL_more h1 h2 htk
        have hne : xs.getD k [] ≠ ys.getD k [] → xs ≠ ys := fun h e => h (by rw [e])
        clear hca hcb hwa hwb hla hlb
        generalize xs.getD k [] = x at *
        generalize ys.getD k [] = y at *
        have HM := Lib.hid hmo
        have HN := Lib.hid hne
        clear hmo hne htk
        by_cases he : x = y
        · subst he
          simp only [decide_true] at hsm
          go_wp2
          go_quiet ((go_at_call 11; exact Calls.quiet_of (hsm _)))
          clear hsm
          go_wp2
          exact ⟨⟨k + 1, congrArg (Value.int .i64) (by omega), h2, HM.out (by trivial), hq.drewN _⟩, by simp only [intOf]; omega⟩
        · rw [decide_eq_false he] at hsm
          go_wp2
          go_quiet ((go_at_call 11; exact Calls.quiet_of (hsm _)))
          clear hsm
          go_wp2
          go_ret
          exact ⟨ret_bool (by rw [decide_eq_false (HN.out he)]), hq.drewN _⟩
      · obtain rfl : k = ys.length := by omega
        have hxy : xs = ys := by rw [List.take_length, ← HL.out, List.take_length] at htk; exact htk
        have HX := Lib.hid hxy
        have hge : xs.length ≤ ys.length := by have := HL.out; omega
        clear hxy htk
        go_wp2
        go_ret
        exact ⟨ret_bool (by rw [decide_eq_true HX.out]), hq⟩
  · have hne : xs ≠ ys := fun e => hlen (by rw [e])
    have HN := Lib.hid hne
    have hd : ((xs.length : Int) == (ys.length : Int)) = false := by simp; omega
    have hd2 : ((xs.length : Int) != (ys.length : Int)) = true := by simp; omega
    clear hne
    go_enter Try.func19, Try.ntmps19
    go_wp2
    go_ret
    exact ⟨ret_bool (by rw [decide_eq_false HN.out]), 0, rfl⟩
end Go.Proofs.Ythcnffieoocnkaa.st
