import Derived.Test.YtomikgkoegkofaaGreatDoorDvr
namespace Go.Proofs.YtomikgkoegkofaaGreatDoor.dv
open Go.ChangeShapes Go.WideShapes Go.ChangeAt Go.RowKit Go.Maps Go.WideMaps Go.WideElems
set_option linter.unusedVariables false
set_option linter.unusedSimpArgs false
/-! names: what is answered hangs on the text alone -/
def Says (b : Bool) (w : World) : Ending → World → Prop := fun e w' => e = .returned (.bool b) ∧ w' = w
theorem letter_det (c : Int) : ∃ b, ∀ w, Calls Tryz.prog 59 #[.int .u8 c] w (Says b w) := by
  by_cases h1 : 97 ≤ c <;> by_cases h2 : c ≤ 122 <;> by_cases h3 : 65 ≤ c <;> by_cases h4 : c ≤ 90
  all_goals
    first
      | (exfalso; omega)
      | (refine ⟨true, fun w => ?_⟩
         go_enter Tryz.func59, Tryz.ntmps59
         go_wp2
         go_ret
         exact ⟨rfl, rfl⟩)
      | (refine ⟨false, fun w => ?_⟩
         go_enter Tryz.func59, Tryz.ntmps59
         go_wp2
         go_ret
         exact ⟨rfl, rfl⟩)
theorem digit_det (c : Int) : ∃ b, ∀ w, Calls Tryz.prog 87 #[.int .u8 c] w (Says b w) := by
  by_cases h1 : 48 ≤ c <;> by_cases h2 : c ≤ 57
  all_goals
    first
      | (refine ⟨true, fun w => ?_⟩
         go_enter Tryz.func87, Tryz.ntmps87
         go_wp2
         go_ret
         exact ⟨rfl, rfl⟩)
      | (refine ⟨false, fun w => ?_⟩
         go_enter Tryz.func87, Tryz.ntmps87
         go_wp2
         go_ret
         exact ⟨rfl, rfl⟩)
theorem quotable_det (c : Int) : ∃ b, ∀ w, Calls Tryz.prog 61 #[.int .u8 c] w (Says b w) := by
  by_cases h1 : 32 ≤ c <;> by_cases h2 : c ≤ 126 <;> by_cases h3 : c = 39
  all_goals
    first
      | (exfalso; omega)
      | (refine ⟨true, fun w => ?_⟩
         go_enter Tryz.func61, Tryz.ntmps61
         go_wp2
         go_ret
         refine ⟨?_, rfl⟩
         first | rfl | (simp [*]; done))
      | (refine ⟨false, fun w => ?_⟩
         go_enter Tryz.func61, Tryz.ntmps61
         go_wp2
         go_ret
         refine ⟨?_, rfl⟩
         first | rfl | (simp [*]; done))
theorem inner_det (c : Int) : ∃ b, ∀ w, Calls Tryz.prog 60 #[.int .u8 c] w (Says b w) := by
  obtain ⟨b1, h1⟩ := letter_det c
  obtain ⟨b2, h2⟩ := digit_det c
  have H1 := Lib.hid h1
  have H2 := Lib.hid h2
  clear h1 h2
  refine ⟨b1 || b2 || (c == 95), fun w => ?_⟩
  cases b1 <;> cases b2
  all_goals
    go_enter Tryz.func60, Tryz.ntmps60
    go_wp2_with (first | (go_at_call 59; refine (H1.out _).mono ?_; rintro e w1 ⟨rfl, rfl⟩) | (go_at_call 87; refine (H2.out _).mono ?_; rintro e w1 ⟨rfl, rfl⟩))
    go_ret
    exact ⟨by simp, rfl⟩
set_option maxHeartbeats 1000000 in
theorem isQuote_det (s : ByteArray) (hs : s.size ≤ maxLen) : ∃ b, ∀ w, Calls Tryz.prog 27 #[.string s] w (Says b w) := by
  unfold maxLen at hs
  obtain ⟨q, hq⟩ := Classical.axiomOfChoice quotable_det
  have HQ := Lib.hid hq
  clear hq
  by_cases hall : ∀ (k : Nat) (h : k < s.size), q (s[k].toNat : Int) = true
  · have HA := Lib.hid hall
    clear hall
    refine ⟨decide (1 ≤ s.size) && decide (s.size ≤ 16), fun w => ?_⟩
    go_enter Tryz.func27, Tryz.ntmps27
    go_wp2
    go_loopw [3] (fun i wr => ∃ k : Nat, k ≤ s.size ∧ i = .int .i64 k ∧ wr = w) (fun i _ => s.size - (intOf i).toNat)
    case atStart => exact ⟨0, Nat.zero_le _, rfl, rfl⟩
    case round =>
      obtain ⟨k, hk, rfl, rfl⟩ := hrel
      by_cases hlt : k < s.size
      · have hc := HQ.out (s[k].toNat : Int) wr
        rw [HA.out k hlt] at hc
        go_wp2_with (go_at_call 61; refine hc.mono ?_; rintro e w1 ⟨rfl, rfl⟩)
        exact ⟨⟨k + 1, hlt, congrArg (Value.int .i64) (by omega), trivial⟩, by simp only [intOf]; omega⟩
      · obtain rfl : k = s.size := by omega
        go_wp2
        all_goals go_ret
        all_goals refine ⟨ret_bool ?_, rfl⟩
        all_goals first | (simp; omega) | (simp [*]; done) | (rw [decide_eq_true (show 1 ≤ s.size by omega)]; simp; omega)
  · have HA := Lib.hid hall
    clear hall
    refine ⟨false, fun w => ?_⟩
    go_enter Tryz.func27, Tryz.ntmps27
    go_wp2
    go_loopw [3] (fun i wr => ∃ k : Nat, k ≤ s.size ∧ i = .int .i64 k ∧ (∀ (j : Nat) (h : j < s.size), j < k → q (s[j].toNat : Int) = true) ∧ wr = w) (fun i _ => s.size - (intOf i).toNat)
    case atStart => exact ⟨0, Nat.zero_le _, rfl, fun j _ hj => absurd hj (Nat.not_lt_zero _), rfl⟩
    case round =>
      obtain ⟨k, hk, rfl, hj, rfl⟩ := hrel
      have HJ := Lib.hid hj
      clear hj
      by_cases hlt : k < s.size
      · have hc := HQ.out (s[k].toNat : Int) wr
        cases hb : q (s[k].toNat : Int) with
        | false =>
          rw [hb] at hc
          clear hb
          go_wp2_with (go_at_call 61; refine hc.mono ?_; rintro e w1 ⟨rfl, rfl⟩)
          go_ret
          exact ⟨rfl, rfl⟩
        | true =>
          have hmo : ∀ (j : Nat) (h : j < s.size), j < k + 1 → q (s[j].toNat : Int) = true := fun j h hj => by
            rcases Nat.lt_or_ge j k with h2 | h2
            · exact HJ.out j h h2
            · obtain rfl : j = k := by omega
              exact hb
          have HM := Lib.hid hmo
          rw [hb] at hc
          clear hb hmo
          go_wp2_with (go_at_call 61; refine hc.mono ?_; rintro e w1 ⟨rfl, rfl⟩)
          exact ⟨⟨k + 1, hlt, congrArg (Value.int .i64) (by omega), HM.out, trivial⟩, by simp only [intOf]; omega⟩
      · obtain rfl : k = s.size := by omega
        exact absurd (fun j h => HJ.out j h h) HA.out
set_option maxHeartbeats 1000000 in
theorem isName_det (s : ByteArray) (hs : s.size ≤ maxLen) : ∃ b, ∀ w, Calls Tryz.prog 25 #[.string s] w (Says b w) := by
  unfold maxLen at hs
  obtain ⟨q, hq⟩ := Classical.axiomOfChoice inner_det
  have HQ := Lib.hid hq
  clear hq
  by_cases h1 : 1 ≤ s.size
  · by_cases h24 : s.size ≤ 24
    · have h0 : 0 < s.size := by omega
      obtain ⟨b0, hb0⟩ := letter_det (s[0].toNat : Int)
      have H0 := Lib.hid hb0
      clear hb0
      cases b0
      · refine ⟨false, fun w => ?_⟩
        go_enter Tryz.func25, Tryz.ntmps25
        go_wp2_with (go_at_call 59; refine (H0.out _).mono ?_; rintro e w1 ⟨rfl, rfl⟩)
        go_ret
        exact ⟨rfl, rfl⟩
      · by_cases hall : ∀ (k : Nat) (h : k < s.size), q (s[k].toNat : Int) = true
        · have HA := Lib.hid hall
          clear hall
          refine ⟨true, fun w => ?_⟩
          go_enter Tryz.func25, Tryz.ntmps25
          go_wp2_with (go_at_call 59; refine (H0.out _).mono ?_; rintro e w1 ⟨rfl, rfl⟩)
          go_loopw [3] (fun i wr => ∃ k : Nat, k ≤ s.size ∧ i = .int .i64 k ∧ wr = w1) (fun i _ => s.size - (intOf i).toNat)
          case atStart => exact ⟨0, Nat.zero_le _, rfl, rfl⟩
          case round =>
            obtain ⟨k, hk, rfl, rfl⟩ := hrel
            by_cases hlt : k < s.size
            · have hc := HQ.out (s[k].toNat : Int) wr
              rw [HA.out k hlt] at hc
              go_wp2_with (go_at_call 60; refine hc.mono ?_; rintro e w1 ⟨rfl, rfl⟩)
              exact ⟨⟨k + 1, hlt, congrArg (Value.int .i64) (by omega), trivial⟩, by simp only [intOf]; omega⟩
            · obtain rfl : k = s.size := by omega
              go_wp2
              go_ret
              exact ⟨rfl, rfl⟩
        · have HA := Lib.hid hall
          clear hall
          refine ⟨false, fun w => ?_⟩
          go_enter Tryz.func25, Tryz.ntmps25
          go_wp2_with (go_at_call 59; refine (H0.out _).mono ?_; rintro e w1 ⟨rfl, rfl⟩)
          go_loopw [3] (fun i wr => ∃ k : Nat, k ≤ s.size ∧ i = .int .i64 k ∧ (∀ (j : Nat) (h : j < s.size), j < k → q (s[j].toNat : Int) = true) ∧ wr = w1) (fun i _ => s.size - (intOf i).toNat)
          case atStart => exact ⟨0, Nat.zero_le _, rfl, fun j _ hj => absurd hj (Nat.not_lt_zero _), rfl⟩
          case round =>
            obtain ⟨k, hk, rfl, hj, rfl⟩ := hrel
            have HJ := Lib.hid hj
            clear hj
            by_cases hlt : k < s.size
            · have hc := HQ.out (s[k].toNat : Int) wr
              cases hb : q (s[k].toNat : Int) with
              | false =>
                rw [hb] at hc
                clear hb
                go_wp2_with (go_at_call 60; refine hc.mono ?_; rintro e w1 ⟨rfl, rfl⟩)
                go_ret
                exact ⟨rfl, rfl⟩
              | true =>
                have hmo : ∀ (j : Nat) (h : j < s.size), j < k + 1 → q (s[j].toNat : Int) = true := fun j h hj => by
                  rcases Nat.lt_or_ge j k with h2 | h2
                  · exact HJ.out j h h2
                  · obtain rfl : j = k := by omega
                    exact hb
                have HM := Lib.hid hmo
                rw [hb] at hc
                clear hb hmo
                go_wp2_with (go_at_call 60; refine hc.mono ?_; rintro e w1 ⟨rfl, rfl⟩)
                exact ⟨⟨k + 1, hlt, congrArg (Value.int .i64) (by omega), HM.out, trivial⟩, by simp only [intOf]; omega⟩
            · obtain rfl : k = s.size := by omega
              exact absurd (fun j h => HJ.out j h h) HA.out
    · refine ⟨false, fun w => ?_⟩
      go_enter Tryz.func25, Tryz.ntmps25
      go_wp2
      go_ret
      exact ⟨rfl, rfl⟩
  · refine ⟨false, fun w => ?_⟩
    go_enter Tryz.func25, Tryz.ntmps25
    go_wp2
    go_ret
    exact ⟨rfl, rfl⟩
theorem str_eq {t s : ByteArray} (h : t.data.toList = s.data.toList) : t = s := by
  cases t
  cases s
  simp at h
  rw [h]
set_option maxHeartbeats 1000000 in
theorem place_det (w0 : World) (B : Nat) (ao : Option Addr) (n cap : Nat) (s : ByteArray) (hs : s.size ≤ maxLen) (hn : n ≤ 8) (h : StrsAt B w0 ao n) : ∃ x : Int, ∀ m, Calls Tryz.prog 26 #[.slice ao n cap, .string s] (w0.drewN m) fun e w' => e = .returned (.int .i64 x) ∧ w' = w0.drewN m := by
  unfold maxLen at hs
  have hT : ∃ T : Nat → ByteArray, ∀ i, i < n → ∃ a : Addr, ao = some a ∧ w0.cell? (a.add i) = some (.string (T i)) := by
    have hex : ∀ i, ∃ t : ByteArray, i < n → ∃ a : Addr, ao = some a ∧ w0.cell? (a.add i) = some (.string t) := fun i => by
      by_cases hi : i < n
      · obtain ⟨a, t, e, _, hc, _⟩ := h i hi
        exact ⟨t, fun _ => ⟨a, e, hc⟩⟩
      · exact ⟨⟨#[]⟩, fun h' => absurd h' hi⟩
    exact Classical.axiomOfChoice hex
  obtain ⟨T, hT⟩ := hT
  have H := Lib.hid hT
  clear h hT
  by_cases hall : ∃ k, k < n ∧ T k = s ∧ ∀ j, j < k → T j ≠ s
  · obtain ⟨k0, hk0, he, hne⟩ := hall
    have HN := Lib.hid hne
    have HE := Lib.hid he
    clear hne he
    refine ⟨k0, fun m => ?_⟩
    go_enter Tryz.func26, Tryz.ntmps26
    go_wp2
    go_loopw [5] (fun i wr => ∃ k : Nat, k ≤ k0 ∧ i = .int .i64 k ∧ wr = w0.drewN m) (fun i _ => n - (intOf i).toNat)
    case atStart => exact ⟨0, Nat.zero_le _, rfl, rfl⟩
    case round =>
      obtain ⟨k, hk, rfl, rfl⟩ := hrel
      obtain ⟨a, rfl, hc⟩ := H.out k (by omega)
      by_cases hlt : k < k0
      · have hne := HN.out k hlt
        generalize T k = t at *
        have hbf : (t.toList == s.toList) = false := by
          rw [beq_eq_false_iff_ne, ByteArray.toList_eq, ByteArray.toList_eq]
          exact fun h => hne (str_eq h)
        go_wp2
        all_goals first
          | (exfalso; contradiction)
          | exact ⟨⟨k + 1, hlt, congrArg (Value.int .i64) (by omega), trivial⟩, by simp only [intOf]; omega⟩
      · obtain rfl : k = k0 := by omega
        have he := HE.out
        generalize T k = t at *
        subst he
        go_wp2
        all_goals first
          | (exfalso; contradiction)
          | (go_ret; exact ⟨rfl, rfl⟩)
  · have hno : ∀ k, k < n → T k ≠ s := fun k => by
      induction k using Nat.strongRecOn with
      | ind k ih =>
        intro hk he
        exact hall ⟨k, hk, he, fun j hj => ih j hj (by omega)⟩
    have HN := Lib.hid hno
    clear hno hall
    refine ⟨-1, fun m => ?_⟩
    go_enter Tryz.func26, Tryz.ntmps26
    go_wp2
    go_loopw [5] (fun i wr => ∃ k : Nat, k ≤ n ∧ i = .int .i64 k ∧ wr = w0.drewN m) (fun i _ => n - (intOf i).toNat)
    case atStart => exact ⟨0, Nat.zero_le _, rfl, rfl⟩
    case round =>
      obtain ⟨k, hk, rfl, rfl⟩ := hrel
      by_cases hlt : k < n
      · obtain ⟨a, rfl, hc⟩ := H.out k hlt
        have hne := HN.out k hlt
        generalize T k = t at *
        have hbf : (t.toList == s.toList) = false := by
          rw [beq_eq_false_iff_ne, ByteArray.toList_eq, ByteArray.toList_eq]
          exact fun h => hne (str_eq h)
        go_wp2
        all_goals first
          | (exfalso; contradiction)
          | exact ⟨⟨k + 1, hlt, congrArg (Value.int .i64) (by omega), trivial⟩, by simp only [intOf]; omega⟩
      · obtain rfl : k = n := by omega
        go_wp2
        go_ret
        exact ⟨rfl, rfl⟩
end Go.Proofs.YtomikgkoegkofaaGreatDoor.dv
