import Derived.Test.YtffbkhebkhbanaaGreatDoorLxy
import Derived.Laws.BitsAllLaws
namespace Go.Proofs.YtffbkhebkhbanaaGreatDoor.lx
open Go.ChangeShapes Go.WideShapes Go.ChangeAt Go.RowKit
set_option linter.unusedVariables false
attribute [local go_sem] x_bits
set_option maxRecDepth 100000 in
theorem rnan_self (n : Nat) : ∃ c : Bool, ∀ w, Calls Tryz.prog 53 #[.float .f64 n] w fun e w' => e = .returned (.bool c) ∧ w = w' := by
  by_cases h : bits .and .u64 ((n : Int) / 4503599627370496) 2047 = 2047
  · refine ⟨(IntKind.u64.wrap ((n : Int) * 4096) != 0), fun w => ?_⟩
    go_enter Tryz.func53, Tryz.ntmps53
    go_wp2
    all_goals first | (exact absurd h (by assumption)) | (go_ret; exact ⟨rfl, rfl⟩)
  · refine ⟨false, fun w => ?_⟩
    go_enter Tryz.func53, Tryz.ntmps53
    go_wp2
    all_goals first | (exact absurd (by assumption) h) | (go_ret; exact ⟨rfl, rfl⟩)
set_option maxRecDepth 100000 in
theorem rbelow_self (n : Nat) : ∃ c : Bool, ∀ w, Calls Tryz.prog 54 #[.float .f64 n] w fun e w' => e = .returned (.bool c) ∧ w = w' := by
  refine ⟨((n : Int) / 9223372036854775808 == 1), fun w => ?_⟩
  go_enter Tryz.func54, Tryz.ntmps54
  go_wp2
  go_ret
  exact ⟨rfl, rfl⟩
set_option maxRecDepth 100000 in
theorem rless_self (n : Nat) (w : World) : Calls Tryz.prog 37 #[.float .f64 n, .float .f64 n] w fun e w' => e = .returned (.bool false) ∧ w = w' := by
  obtain ⟨c, hc⟩ := rnan_self n
  obtain ⟨d, hd⟩ := rbelow_self n
  have HC := Lib.hid hc
  have HD := Lib.hid hd
  have m1 : decide ((n : Int) < n) = false := by simp
  clear hc hd
  cases c <;> cases d
  all_goals
    go_enter Tryz.func37, Tryz.ntmps37
    go_wp2_with (first | (go_at_call 53; refine (HC.out _).mono ?_; rintro e w' ⟨rfl, rfl⟩) | (go_at_call 54; refine (HD.out _).mono ?_; rintro e w' ⟨rfl, rfl⟩))
    go_ret
    exact ⟨by simp, rfl⟩
set_option maxRecDepth 100000 in
theorem rsame_self (n : Nat) (w : World) : Calls Tryz.prog 18 #[.float .f64 n, .float .f64 n] w fun e w' => e = .returned (.bool true) ∧ w = w' := by
  go_enter Tryz.func18, Tryz.ntmps18
  go_wp2_with (go_at_call 37; refine (rless_self n _).mono ?_; rintro e w' ⟨rfl, rfl⟩)
  go_ret
  exact ⟨rfl, rfl⟩
end Go.Proofs.YtffbkhebkhbanaaGreatDoor.lx
