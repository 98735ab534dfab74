import Derived.Test.YtldamieigigncaaGreatDoorVcGsd
import Derived.Test.YtldamieigigncaaGreatDoorVcGse
import Derived.Test.YtldamieigigncaaGreatDoorVcGsf
namespace Go.Proofs.YtldamieigigncaaGreatDoor.lx
open Go.ChangeShapes Go.WideShapes Go.ChangeAt Go.RowKit Go.Proofs.YtldamieigigncaaGreatDoor.ky
set_option linter.unusedVariables false
set_option linter.unusedSimpArgs false
set_option maxRecDepth 100000 in
set_option maxHeartbeats 8000000 in
theorem gsh_out (s1 s2 : ByteArray) (h1 : s1.size ≤ maxLen) (h2 : s2.size ≤ maxLen) (x : Int) (h : isQuoteB s1.data.toList = false ∨ isQuoteB s2.data.toList = false ∨ s1 = s2) (w : World) (b off : Nat) (hv : Pv w b off) : Calls Tryz.prog 5 #[.string s1, .string s2, .int .i64 x] w fun e w' => e = .returned (.bool true) ∧ Below w.heap.size w w' := by
  have hal := galive_any w b off hv
  have hq1 := fun w => isquote_any s1 h1 w
  have hq2 := fun w => isquote_any s2 h2 w
  cases hA : isQuoteB s1.data.toList with
  | false =>
    rw [hA] at hq1
    clear h hA hv h1 h2
    go_enter Tryz.func5, Tryz.ntmps5
    go_wp2_with fail
    refine hal.mono ?_
    rintro e w1 ⟨rfl, hb1⟩
    have HB1 := Lib.hid hb1
    clear hb1 hal
    go_wp2_with fail
    refine (hq1 _).mono ?_
    rintro e w2 ⟨rfl, rfl⟩
    go_wp2_with fail
    go_ret
    exact ⟨rfl, HB1.out⟩
  | true =>
  cases hB : isQuoteB s2.data.toList with
  | false =>
    rw [hA] at hq1
    rw [hB] at hq2
    clear h hA hB hv h1 h2
    go_enter Tryz.func5, Tryz.ntmps5
    go_wp2_with fail
    refine hal.mono ?_
    rintro e w1 ⟨rfl, hb1⟩
    have HB1 := Lib.hid hb1
    clear hb1 hal
    go_wp2_with fail
    refine (hq1 _).mono ?_
    rintro e w2 ⟨rfl, rfl⟩
    go_wp2_with fail
    refine (hq2 _).mono ?_
    rintro e w2 ⟨rfl, rfl⟩
    go_wp2_with fail
    go_ret
    exact ⟨rfl, HB1.out⟩
  | true =>
    have heq : s1 = s2 := by
      rcases h with h | h | h
      · rw [hA] at h; cases h
      · rw [hB] at h; cases h
      · exact h
    have hne : (s1.toList == s2.toList) = true := by rw [heq]; exact beq_self_eq_true _
    rw [hA] at hq1
    rw [hB] at hq2
    clear h hA hB hv h1 h2 heq
    go_enter Tryz.func5, Tryz.ntmps5
    go_wp2_with fail
    refine hal.mono ?_
    rintro e w1 ⟨rfl, hb1⟩
    have HB1 := Lib.hid hb1
    clear hb1 hal
    go_wp2_with fail
    refine (hq1 _).mono ?_
    rintro e w2 ⟨rfl, rfl⟩
    go_wp2_with fail
    refine (hq2 _).mono ?_
    rintro e w2 ⟨rfl, rfl⟩
    go_wp2_with fail
    go_ret
    exact ⟨rfl, HB1.out⟩
theorem gshapes_any (s1 s2 : ByteArray) (x : Int) (h1 : s1.size ≤ maxLen) (h2 : s2.size ≤ maxLen) (w : World) (b off : Nat) (hv : Pv w b off) : Calls Tryz.prog 5 #[.string s1, .string s2, .int .i64 x] w fun e w' => e = .returned (.bool true) ∧ Below w.heap.size w w' := by
  cases hA : isQuoteB s1.data.toList with
  | false => exact gsh_out s1 s2 h1 h2 x (.inl hA) w b off hv
  | true =>
  cases hB : isQuoteB s2.data.toList with
  | false => exact gsh_out s1 s2 h1 h2 x (.inr (.inl hB)) w b off hv
  | true =>
  have e1 := str_eq s1
  have e2 := str_eq s2
  have h4 : x % 4 = 0 ∨ x % 4 = 1 ∨ x % 4 = 2 ∨ x % 4 = 3 := by omega
  have ha := and3 x
  by_cases hl : s1.data.toList < s2.data.toList
  · rw [e1, e2]
    generalize s1.data.toList = p at *
    generalize s2.data.toList = q at *
    rcases h4 with h | h | h | h
    · exact gsh_q0 p q x _ ha (by rw [h]; rfl) hl hA hB w b off hv
    · exact gsh_s0 p q x _ ha (by rw [h]; rfl) hl hA hB w b off hv
    · exact gsh_p0 p q x _ ha (by rw [h]; rfl) hl hA hB w b off hv
    · exact gsh_q0 p q x _ ha (by rw [h]; rfl) hl hA hB w b off hv
  · by_cases hg : s2.data.toList < s1.data.toList
    · rw [e1, e2]
      generalize s1.data.toList = p at *
      generalize s2.data.toList = q at *
      rcases h4 with h | h | h | h
      · exact gsh_q1 p q x _ ha (by rw [h]; rfl) hg hA hB w b off hv
      · exact gsh_s1 p q x _ ha (by rw [h]; rfl) hg hA hB w b off hv
      · exact gsh_p1 p q x _ ha (by rw [h]; rfl) hg hA hB w b off hv
      · exact gsh_q1 p q x _ ha (by rw [h]; rfl) hg hA hB w b off hv
    · have he : s1.data.toList = s2.data.toList := List.le_antisymm (List.not_lt.1 hg) (List.not_lt.1 hl)
      exact gsh_out s1 s2 h1 h2 x (.inr (.inr (by rw [e1, e2, he]))) w b off hv
end Go.Proofs.YtldamieigigncaaGreatDoor.lx
