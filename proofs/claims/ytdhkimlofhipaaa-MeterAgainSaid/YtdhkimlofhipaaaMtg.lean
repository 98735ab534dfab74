import Derived.Test.YtdhkimlofhipaaaMtf
namespace Go.Proofs.Ytdhkimlofhipaaa.mt
open Go.ChangeShapes Go.WideShapes Go.ChangeAt Go.RowKit
set_option linter.unusedVariables false
theorem up_cases (x : Int) : (x < 0 ∧ up x = 0) ∨ (¬ x < 0 ∧ up x = x) := by unfold up; by_cases h1 : x < 0 <;> simp [h1]
/-! the answers by definition -/
set_option maxRecDepth 100000 in
theorem held_any (n : Int) (w : World) : Calls Try.prog 10 #[.int .i64 n] w fun e w' => e = .returned (.int .i64 (heldI n)) ∧ w = w' := by
  rcases (by unfold heldI; by_cases h1 : n < 0
             · simp [h1]
             · by_cases h2 : 1000000 < n <;> simp [h1, h2] : (n < 0 ∧ heldI n = 0) ∨ (¬ n < 0 ∧ 1000000 < n ∧ heldI n = 1000000) ∨ (¬ n < 0 ∧ ¬ 1000000 < n ∧ heldI n = n)) with ⟨h1, e⟩ | ⟨h1, h2, e⟩ | ⟨h1, h2, e⟩ <;> rw [e] <;> clear e
  all_goals
    go_enter Try.func10, Try.ntmps10
    go_wp2
    go_ret
    exact ⟨rfl, rfl⟩
set_option maxRecDepth 100000 in
set_option maxHeartbeats 400000 in
theorem rrun_ok (w : World) (B cap : Nat) (a0 : Option Addr) (xs : List Int) (l : Int) (hl : ListAt B w a0 xs) (h0 : 0 ≤ l) (h1 : l ≤ 1000000) (hlen : xs.length ≤ 60) (hok : sm xs xs.length ≤ l) : Calls Try.prog 15 #[.int .i64 l, .slice a0 xs.length cap] w fun e w' => e = .returned (.tuple #[.int .i64 (l - sm xs xs.length), .int .i64 (sm xs xs.length), .int .i64 xs.length, .bool true]) ∧ w = w' := by
  go_enter Try.func15, Try.ntmps15
  go_wp2
  go_loop [0, 8, 9] (fun a b c => ∃ k : Nat, k ≤ xs.length ∧ c = .int .i64 k ∧ a = .int .i64 (l - sm xs k) ∧ b = .int .i64 (sm xs k)) (fun _ _ c => xs.length - (intOf c).toNat)
  case atStart => exact ⟨0, Nat.zero_le _, rfl, by rw [sm_zero, Int.sub_zero], by rw [sm_zero]⟩
  case round =>
    obtain ⟨k, hk, rfl, rfl, rfl⟩ := hrel
    have hs0 := sm_nonneg xs k
    by_cases hlt : k < xs.length
    · have hsu := sm_succ xs k hlt
      obtain ⟨b, o, rfl, hb, hcell⟩ := hl (by omega)
      have cx : w.cell? ⟨b, o + k, none⟩ = some (.int .i64 (xs.getD k 0)) := hcell k hlt
      have hu : (xs.getD k 0 < 0 ∧ up (xs.getD k 0) = 0) ∨ (¬ xs.getD k 0 < 0 ∧ up (xs.getD k 0) = xs.getD k 0) := up_cases _
      have hmo := sm_mono xs (show k + 1 ≤ xs.length by omega)
      clear hl hcell
      generalize xs.getD k 0 = x at *
      generalize hy : sm xs (k + 1) = y at *
      generalize hz : sm xs k = z at *
      rcases hu with ⟨hx, hu⟩ | ⟨hx, hu⟩ <;> rw [hu] at hsu
      all_goals
        have hxl : 0 ≤ l - z := by omega
        try have hxm : ¬ l - z < x := by omega
        have HY := Lib.hid hy
        have HZ := Lib.hid hz
        have HU := Lib.hid hsu
        clear hu hsu hy hz
        go_wp2
        go_round
        case rel =>
          have := HU.out
          exact ⟨k + 1, by omega, by go_num, congrArg (Value.int .i64) (by rw [HY.out]; omega), congrArg (Value.int .i64) (by rw [HY.out]; omega)⟩
        case measure => simp [intOf]; omega
    · obtain rfl : k = xs.length := by omega
      go_wp2
      refine bodyPost_ret (v := .tuple #[.int .i64 (l - sm xs xs.length), .int .i64 (sm xs xs.length), .int .i64 xs.length, .bool true]) (by simp [results, Try.results15, go_sem]) rfl ?_
      exact ⟨rfl, rfl⟩
set_option maxRecDepth 100000 in
set_option maxHeartbeats 400000 in
theorem rrun_full (w : World) (B cap n : Nat) (a0 : Option Addr) (xs : List Int) (l : Int) (hl : ListAt B w a0 xs) (h0 : 0 ≤ l) (h1 : l ≤ 1000000) (hlen : xs.length ≤ 60) (hn : n < xs.length) (hok : sm xs n ≤ l) (hno : l < sm xs (n + 1)) : Calls Try.prog 15 #[.int .i64 l, .slice a0 xs.length cap] w fun e w' => e = .returned (.tuple #[.int .i64 0, .int .i64 l, .int .i64 n, .bool false]) ∧ w = w' := by
  go_enter Try.func15, Try.ntmps15
  go_wp2
  go_loop [0, 8, 9] (fun a b c => ∃ k : Nat, k ≤ n ∧ c = .int .i64 k ∧ a = .int .i64 (l - sm xs k) ∧ b = .int .i64 (sm xs k)) (fun _ _ c => xs.length - (intOf c).toNat)
  case atStart => exact ⟨0, Nat.zero_le _, rfl, by rw [sm_zero, Int.sub_zero], by rw [sm_zero]⟩
  case round =>
    obtain ⟨k, hk, rfl, rfl, rfl⟩ := hrel
    have hs0 := sm_nonneg xs k
    have hlt : k < xs.length := by omega
    by_cases hkn : k < n
    · have hsu := sm_succ xs k hlt
      obtain ⟨b, o, rfl, hb, hcell⟩ := hl (by omega)
      have cx : w.cell? ⟨b, o + k, none⟩ = some (.int .i64 (xs.getD k 0)) := hcell k hlt
      have hu : (xs.getD k 0 < 0 ∧ up (xs.getD k 0) = 0) ∨ (¬ xs.getD k 0 < 0 ∧ up (xs.getD k 0) = xs.getD k 0) := up_cases _
      have hmo := sm_mono xs (show k + 1 ≤ n by omega)
      clear hl hcell
      generalize xs.getD k 0 = x at *
      generalize hy : sm xs (k + 1) = y at *
      generalize hz : sm xs k = z at *
      rcases hu with ⟨hx, hu⟩ | ⟨hx, hu⟩ <;> rw [hu] at hsu
      all_goals
        have hxl : 0 ≤ l - z := by omega
        try have hxm : ¬ l - z < x := by omega
        have HY := Lib.hid hy
        have HZ := Lib.hid hz
        have HU := Lib.hid hsu
        clear hu hsu hy hz
        go_wp2
        go_round
        case rel =>
          have := HU.out
          exact ⟨k + 1, by omega, by go_num, congrArg (Value.int .i64) (by rw [HY.out]; omega), congrArg (Value.int .i64) (by rw [HY.out]; omega)⟩
        case measure => simp [intOf]; omega
    · obtain rfl : k = n := by omega
      have hsu := sm_succ xs k hlt
      obtain ⟨b, o, rfl, hb, hcell⟩ := hl (by omega)
      have cx : w.cell? ⟨b, o + k, none⟩ = some (.int .i64 (xs.getD k 0)) := hcell k hlt
      have hu : (xs.getD k 0 < 0 ∧ up (xs.getD k 0) = 0) ∨ (¬ xs.getD k 0 < 0 ∧ up (xs.getD k 0) = xs.getD k 0) := up_cases _
      clear hl hcell
      generalize xs.getD k 0 = x at *
      generalize sm xs (k + 1) = y at *
      generalize sm xs k = z at *
      have hx : ¬ x < 0 := by omega
      have hxl : l - z < x := by omega
      clear hu hsu hok hno
      go_wp2
      refine bodyPost_ret (v := .tuple #[.int .i64 0, .int .i64 l, .int .i64 k, .bool false]) (by simp [results, Try.results15, go_sem]; omega) rfl ?_
      exact ⟨rfl, rfl⟩
end Go.Proofs.Ytdhkimlofhipaaa.mt
