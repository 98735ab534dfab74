import Derived.Test.YtjddjdpgnoebnaaGreatDoorLxm
namespace Go.Proofs.YtjddjdpgnoebnaaGreatDoor.lx
open Go.ChangeShapes Go.WideShapes Go.ChangeAt Go.RowKit
set_option linter.unusedVariables false
/-! the document's own answers: names and quotes -/
theorem rletter_n (n : Nat) (hn : n < 256) (w : World) : Calls Tryz.prog 33 #[.int .u8 n] w fun e w' => e = .returned (.bool (letN n)) ∧ w = w' := by
  have h : (97 ≤ n ∧ n ≤ 122 ∧ letN n = true) ∨ (65 ≤ n ∧ n ≤ 90 ∧ letN n = true) ∨ (n < 65 ∧ letN n = false) ∨ (90 < n ∧ n < 97 ∧ letN n = false) ∨ (122 < n ∧ letN n = false) := by
    unfold letN
    simp only [decide_eq_true_iff, decide_eq_false_iff_not]
    omega
  rcases h with ⟨h1, h2, e⟩ | ⟨h1, h2, e⟩ | ⟨h1, e⟩ | ⟨h1, h2, e⟩ | ⟨h1, e⟩ <;> rw [e] <;> clear e
  all_goals
    go_enter Tryz.func33, Tryz.ntmps33
    go_wp2
    go_ret
    first | exact ⟨rfl, rfl⟩ | exact ⟨ret_bool (by simp; omega), rfl⟩
theorem rdigit_n (n : Nat) (hn : n < 256) (w : World) : Calls Tryz.prog 50 #[.int .u8 n] w fun e w' => e = .returned (.bool (digN n)) ∧ w = w' := by
  have h : (48 ≤ n ∧ n ≤ 57 ∧ digN n = true) ∨ (n < 48 ∧ digN n = false) ∨ (57 < n ∧ digN n = false) := by
    unfold digN
    simp only [decide_eq_true_iff, decide_eq_false_iff_not]
    omega
  rcases h with ⟨h1, h2, e⟩ | ⟨h1, e⟩ | ⟨h1, e⟩ <;> rw [e] <;> clear e
  all_goals
    go_enter Tryz.func50, Tryz.ntmps50
    go_wp2
    go_ret
    first | exact ⟨rfl, rfl⟩ | exact ⟨ret_bool (by simp; omega), rfl⟩
theorem rquot_n (n : Nat) (hn : n < 256) (w : World) : Calls Tryz.prog 36 #[.int .u8 n] w fun e w' => e = .returned (.bool (quoN n)) ∧ w = w' := by
  have h : (n < 32 ∧ quoN n = false) ∨ (126 < n ∧ quoN n = false) ∨ (n = 39 ∧ quoN n = false) ∨ (32 ≤ n ∧ n ≤ 126 ∧ n ≠ 39 ∧ quoN n = true) := by
    unfold quoN
    simp only [decide_eq_true_iff, decide_eq_false_iff_not]
    omega
  rcases h with ⟨h1, e⟩ | ⟨h1, e⟩ | ⟨rfl, e⟩ | ⟨h1, h2, h3, e⟩ <;> rw [e] <;> clear e
  · go_enter Tryz.func36, Tryz.ntmps36
    go_wp2
    go_ret
    first | exact ⟨rfl, rfl⟩ | exact ⟨ret_bool (by simp; omega), rfl⟩
  · go_enter Tryz.func36, Tryz.ntmps36
    go_wp2
    go_ret
    first | exact ⟨rfl, rfl⟩ | exact ⟨ret_bool (by simp; omega), rfl⟩
  · go_enter Tryz.func36, Tryz.ntmps36
    go_wp2
    go_ret
    first | exact ⟨rfl, rfl⟩ | exact ⟨ret_bool (by simp; omega), rfl⟩
  · have k3 : ((n : Int) != 39) = true := by rw [bne_iff_ne]; omega
    go_enter Tryz.func36, Tryz.ntmps36
    go_wp2
    go_ret
    first | exact ⟨rfl, rfl⟩ | exact ⟨ret_bool (by simp; omega), rfl⟩
theorem rinner_n (n : Nat) (hn : n < 256) (w : World) : Calls Tryz.prog 34 #[.int .u8 n] w fun e w' => e = .returned (.bool (namN n)) ∧ w = w' := by
  have hl := rletter_n n hn w
  have hd := rdigit_n n hn w
  have HE : Hid (namN n = (letN n || digN n || decide (n = 95))) := Lib.hid rfl
  generalize namN n = z at *
  cases h1 : letN n
  · rw [h1] at hl HE
    cases h2 : digN n
    · rw [h2] at hd HE
      by_cases h3 : n = 95
      · have k3 : ((n : Int) == 95) = true := by rw [beq_iff_eq]; omega
        have HZ : Hid (z = true) := Lib.hid (by rw [HE.out]; simp [h3])
        clear h1 h2 h3 HE
        go_enter Tryz.func34, Tryz.ntmps34
        go_wp2_with (first | (go_at_call 33; refine hl.mono ?_; rintro e w1 ⟨rfl, rfl⟩) | (go_at_call 50; refine hd.mono ?_; rintro e w2 ⟨rfl, rfl⟩))
        go_ret
        exact ⟨ret_bool HZ.out.symm, rfl⟩
      · have k3 : ((n : Int) == 95) = false := by rw [beq_eq_false_iff_ne]; omega
        have HZ : Hid (z = false) := Lib.hid (by rw [HE.out]; simp [h3])
        clear h1 h2 h3 HE
        go_enter Tryz.func34, Tryz.ntmps34
        go_wp2_with (first | (go_at_call 33; refine hl.mono ?_; rintro e w1 ⟨rfl, rfl⟩) | (go_at_call 50; refine hd.mono ?_; rintro e w2 ⟨rfl, rfl⟩))
        go_ret
        exact ⟨ret_bool HZ.out.symm, rfl⟩
    · rw [h2] at hd HE
      have HZ : Hid (z = true) := Lib.hid (by rw [HE.out]; simp)
      clear h1 h2 HE
      go_enter Tryz.func34, Tryz.ntmps34
      go_wp2_with (first | (go_at_call 33; refine hl.mono ?_; rintro e w1 ⟨rfl, rfl⟩) | (go_at_call 50; refine hd.mono ?_; rintro e w2 ⟨rfl, rfl⟩))
      go_ret
      exact ⟨ret_bool HZ.out.symm, rfl⟩
  · rw [h1] at hl HE
    have HZ : Hid (z = true) := Lib.hid (by rw [HE.out]; simp)
    clear h1 HE
    go_enter Tryz.func34, Tryz.ntmps34
    go_wp2_with (first | (go_at_call 33; refine hl.mono ?_; rintro e w1 ⟨rfl, rfl⟩) | (go_at_call 50; refine hd.mono ?_; rintro e w2 ⟨rfl, rfl⟩))
    go_ret
    exact ⟨ret_bool HZ.out.symm, rfl⟩
theorem all_false {p : UInt8 → Bool} {s : ByteArray} {k : Nat} (h : k < s.size) (hp : p s[k] = false) : s.data.toList.all p = false := by
  rw [Bool.eq_false_iff]
  intro ha
  have := List.all_eq_true.1 ha s[k] (by simp [ByteArray.getElem_eq_getElem_data])
  rw [hp] at this
  cases this
set_option maxRecDepth 100000 in
set_option maxHeartbeats 1000000 in
theorem risname_any (s : ByteArray) (hs : s.size ≤ maxLen) (w : World) : Calls Tryz.prog 15 #[.string s] w fun e w' => e = .returned (.bool (isNameB s.data.toList)) ∧ w = w' := by
  have hl : s.data.toList.length = s.size := by simp
  have HE : Hid (isNameB s.data.toList = (decide (1 ≤ s.size) && decide (s.size ≤ 24) && letB (s.data.toList.getD 0 0) && s.data.toList.all namB)) := Lib.hid (by
    rw [← hl]
    rfl)
  generalize isNameB s.data.toList = z at *
  unfold maxLen at hs
  have HL := Lib.hid hl
  clear hl
  by_cases h0 : 0 < s.size
  · have hlt := rletter_n s[0].toNat (b_lt _)
    rw [← let_n] at hlt
    have HG : Hid (s.data.toList.getD 0 0 = s[0]) := Lib.hid (by
      have := bytes_drop s 0 h0
      rw [List.drop_zero] at this
      rw [this]
      rfl)
    by_cases h1 : s.size ≤ 24
    · cases h2 : letB s[0]
      · rw [h2] at hlt
        have HZ : Hid (z = false) := Lib.hid (by rw [HE.out, HG.out, h2]; simp)
        clear h2 HE
        go_enter Tryz.func15, Tryz.ntmps15
        go_wp2_with (go_at_call 33; refine (hlt _).mono ?_; rintro e w1 ⟨rfl, rfl⟩)
        go_ret
        exact ⟨ret_bool HZ.out.symm, rfl⟩
      · rw [h2] at hlt
        have HZ : Hid (z = s.data.toList.all namB) := Lib.hid (by rw [HE.out, HG.out, h2, decide_eq_true (show 1 ≤ s.size by omega), decide_eq_true h1]; simp)
        clear h2 HE
        go_enter Tryz.func15, Tryz.ntmps15
        go_wp2_with (go_at_call 33; refine (hlt _).mono ?_; rintro e w1 ⟨rfl, rfl⟩)
        go_loop [3] (fun i => ∃ k : Nat, k ≤ s.size ∧ i = .int .i64 k ∧ (s.data.toList.take k).all namB = true) (fun i => s.size - (intOf i).toNat)
        case atStart => exact ⟨0, Nat.zero_le _, rfl, by simp⟩
        case round =>
          obtain ⟨k, hk, rfl, hall⟩ := hrel
          have HA := Lib.hid hall
          clear hall hlt
          by_cases hlk : k < s.size
          · have hin := rinner_n s[k].toNat (b_lt _)
            rw [← nam_n] at hin
            have HT := Lib.hid (all_take_succ namB s k hlk)
            cases h3 : namB s[k]
            · rw [h3] at hin
              have HF := Lib.hid (all_false hlk h3)
              clear h3
              go_wp2_with (go_at_call 34; refine (hin _).mono ?_; rintro e w1 ⟨rfl, rfl⟩)
              go_ret
              exact ⟨ret_bool (by rw [HZ.out, HF.out]), rfl⟩
            · rw [h3] at hin
              have HF : Hid ((s.data.toList.take (k + 1)).all namB = true) := Lib.hid (by rw [HT.out, HA.out, h3]; rfl)
              clear h3
              go_wp2_with (go_at_call 34; refine (hin _).mono ?_; rintro e w1 ⟨rfl, rfl⟩)
              go_round
              case rel => exact ⟨k + 1, hlk, by go_num, HF.out⟩
              case measure => simp [intOf]; omega
          · obtain rfl : k = s.size := by omega
            go_wp2_with fail
            go_ret
            have := HA.out
            rw [List.take_of_length_le (by rw [HL.out]; omega)] at this
            exact ⟨ret_bool (by rw [HZ.out, this]), rfl⟩
    · have HZ : Hid (z = false) := Lib.hid (by rw [HE.out, decide_eq_false h1]; simp)
      clear HE
      go_enter Tryz.func15, Tryz.ntmps15
      go_wp2
      go_ret
      exact ⟨ret_bool HZ.out.symm, rfl⟩
  · have HZ : Hid (z = false) := Lib.hid (by rw [HE.out, decide_eq_false (show ¬ 1 ≤ s.size by omega)]; simp)
    clear HE
    go_enter Tryz.func15, Tryz.ntmps15
    go_wp2
    go_ret
    exact ⟨ret_bool HZ.out.symm, rfl⟩
set_option maxRecDepth 100000 in
set_option maxHeartbeats 1000000 in
theorem risquote_any (s : ByteArray) (hs : s.size ≤ maxLen) (w : World) : Calls Tryz.prog 17 #[.string s] w fun e w' => e = .returned (.bool (isQuoteB s.data.toList)) ∧ w = w' := by
  have hl : s.data.toList.length = s.size := by simp
  have HE : Hid (isQuoteB s.data.toList = (decide (1 ≤ s.size) && decide (s.size ≤ 16) && s.data.toList.all quoB)) := Lib.hid (by
    rw [← hl]
    rfl)
  generalize isQuoteB s.data.toList = z at *
  unfold maxLen at hs
  have HL := Lib.hid hl
  clear hl
  go_enter Tryz.func17, Tryz.ntmps17
  go_wp2
  go_loop [3] (fun i => ∃ k : Nat, k ≤ s.size ∧ i = .int .i64 k ∧ (s.data.toList.take k).all quoB = true) (fun i => s.size - (intOf i).toNat)
  case atStart => exact ⟨0, Nat.zero_le _, rfl, by simp⟩
  case round =>
    obtain ⟨k, hk, rfl, hall⟩ := hrel
    have HA := Lib.hid hall
    clear hall
    by_cases hlk : k < s.size
    · have hin := rquot_n s[k].toNat (b_lt _)
      rw [← quo_n'] at hin
      have HT := Lib.hid (all_take_succ quoB s k hlk)
      cases h3 : quoB s[k]
      · rw [h3] at hin
        have HF := Lib.hid (all_false hlk h3)
        clear h3
        go_wp2_with (go_at_call 36; refine (hin _).mono ?_; rintro e w1 ⟨rfl, rfl⟩)
        go_ret
        exact ⟨ret_bool (by rw [HE.out, HF.out]; simp), rfl⟩
      · rw [h3] at hin
        have HF : Hid ((s.data.toList.take (k + 1)).all quoB = true) := Lib.hid (by rw [HT.out, HA.out, h3]; rfl)
        clear h3
        go_wp2_with (go_at_call 36; refine (hin _).mono ?_; rintro e w1 ⟨rfl, rfl⟩)
        go_round
        case rel => exact ⟨k + 1, hlk, by go_num, HF.out⟩
        case measure => simp [intOf]; omega
    · obtain rfl : k = s.size := by omega
      have := HA.out
      rw [List.take_of_length_le (by rw [HL.out]; omega)] at this
      have HZ : Hid (z = (decide (1 ≤ s.size) && decide (s.size ≤ 16))) := Lib.hid (by rw [HE.out, this]; simp)
      clear this HE
      by_cases h1 : 1 ≤ s.size
      · by_cases h2 : s.size ≤ 16
        · go_wp2_with fail
          go_ret
          exact ⟨ret_bool (by rw [HZ.out, decide_eq_true h1, decide_eq_true h2]; first | rfl | (simp; omega) | simp), rfl⟩
        · go_wp2_with fail
          go_ret
          exact ⟨ret_bool (by rw [HZ.out, decide_eq_true h1, decide_eq_false h2]; first | rfl | (simp; omega) | simp), rfl⟩
      · go_wp2_with fail
        go_ret
        exact ⟨ret_bool (by rw [HZ.out, decide_eq_false h1]; first | rfl | (simp; omega) | simp), rfl⟩
end Go.Proofs.YtjddjdpgnoebnaaGreatDoor.lx
