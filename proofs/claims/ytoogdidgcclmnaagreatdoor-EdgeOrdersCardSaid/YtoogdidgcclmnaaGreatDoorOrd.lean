import Derived.Test.YtoogdidgcclmnaaGreatDoorAlive
namespace Go.Proofs.YtoogdidgcclmnaaGreatDoor.alv
open Go.ChangeShapes Go.WideShapes Go.ChangeAt Go.RowKit
set_option linter.unusedVariables false
attribute [local go_sem] x_frombits x_bits x_nan

set_option maxRecDepth 100000 in
set_option maxHeartbeats 2000000 in
theorem orders_any (a b : Nat) (w : World) (g off : Nat) (ha : a < 18446744073709551616) (hb : b < 18446744073709551616) (hv : Vars w g off) : Calls Tryz.prog 3 #[.int .u64 a, .int .u64 b] w fun e w' => e = .returned (.bool true) ∧ Below w.heap.size w w' := by
  have hc : (keyN a < keyN b ∧ decide (keyN a < keyN b) = true ∧ decide (keyN b < keyN a) = false ∧ decide (keyN a = keyN b) = false ∧ cmpN a b = -1 ∧ topN a b = b) ∨ (keyN b < keyN a ∧ decide (keyN a < keyN b) = false ∧ decide (keyN b < keyN a) = true ∧ decide (keyN a = keyN b) = false ∧ cmpN a b = 1 ∧ topN a b = a) ∨ (keyN a = keyN b ∧ decide (keyN a < keyN b) = false ∧ decide (keyN b < keyN a) = false ∧ decide (keyN a = keyN b) = true ∧ cmpN a b = 0 ∧ topN a b = a) := by
    rcases Nat.lt_trichotomy (keyN a) (keyN b) with h | h | h
    · left; have h2 : ¬ keyN b < keyN a := by omega
      have h3 : ¬ keyN a = keyN b := by omega
      simp [cmpN, topN, h, h2, h3]
    · right; right; simp [cmpN, topN, h]
    · right; left; have h2 : ¬ keyN a < keyN b := by omega
      have h3 : ¬ keyN a = keyN b := by omega
      simp [cmpN, topN, h, h2, h3]
  have l1 := fun w => rless_any a b w ha hb
  have l2 := fun w => rless_any b a w hb ha
  have l3 := fun w => cmp_any a b w ha hb
  have l4 := fun w => same_any a b w ha hb
  have l5 := fun w => top_any a b w ha hb
  have l6 := fun w => rsame_any a a w ha ha
  have l7 := fun w => rsame_any b b w hb hb
  have k1 := fun w => key_any a w ha
  have k2 := fun w => key_any b w hb
  simp only [decide_true] at l6 l7
  rcases hc with ⟨h, d1, d2, d3, d4, d5⟩ | ⟨h, d1, d2, d3, d4, d5⟩ | ⟨h, d1, d2, d3, d4, d5⟩
  all_goals
    rw [d1] at l1
    rw [d2] at l2
    rw [d4] at l3
    rw [d3] at l4
    rw [d5] at l5
    clear d1 d2 d3 d4 d5
    try rw [h] at k1
    generalize keyN a = ka at *
    generalize keyN b = kb at *
    have L1 := Lib.hid l1
    have L2 := Lib.hid l2
    have L3 := Lib.hid l3
    have L4 := Lib.hid l4
    have L5 := Lib.hid l5
    have L6 := Lib.hid l6
    have L7 := Lib.hid l7
    have K1 := Lib.hid k1
    have K2 := Lib.hid k2
    clear l1 l2 l3 l4 l5 l6 l7 k1 k2
    go_enter Tryz.func3, Tryz.ntmps3
    go_wp2_with fail
    refine (alive_any w g off hv).mono ?_
    rintro e w1 ⟨rfl, hb1⟩
    go_wp2_with fail
    refine (L1.out _).mono ?_
    rintro e w2 ⟨rfl, rfl⟩
    go_wp2_with fail
    refine (L2.out _).mono ?_
    rintro e w2 ⟨rfl, rfl⟩
    go_wp2_with fail
    refine (L3.out _).mono ?_
    rintro e w2 ⟨rfl, rfl⟩
    go_wp2_with fail
    refine (L4.out _).mono ?_
    rintro e w2 ⟨rfl, rfl⟩
    go_wp2_with fail
    refine (L5.out _).mono ?_
    rintro e w2 ⟨rfl, rfl⟩
    go_wp2_with fail
    first | (with_reducible refine (L6.out _).mono ?_) | (with_reducible refine (L7.out _).mono ?_)
    rintro e w2 ⟨rfl, rfl⟩
    go_wp2_with fail
    refine (K1.out _).mono ?_
    rintro e w2 ⟨rfl, rfl⟩
    go_wp2_with fail
    refine (K2.out _).mono ?_
    rintro e w2 ⟨rfl, rfl⟩
    go_wp2_with fail
    refine (K1.out _).mono ?_
    rintro e w2 ⟨rfl, rfl⟩
    go_wp2_with fail
    refine (K2.out _).mono ?_
    rintro e w2 ⟨rfl, rfl⟩
    go_wp2_with fail
    go_ret
    refine ⟨ret_bool ?_, hb1⟩
    first | rfl | (simp; done) | (simp; omega)
end Go.Proofs.YtoogdidgcclmnaaGreatDoor.alv
