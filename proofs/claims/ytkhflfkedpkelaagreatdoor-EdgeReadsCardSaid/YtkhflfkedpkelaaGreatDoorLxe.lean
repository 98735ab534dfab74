import Derived.Test.YtkhflfkedpkelaaGreatDoorLxd
namespace Go.Proofs.YtkhflfkedpkelaaGreatDoor.lx
open Go.ChangeShapes Go.WideShapes Go.ChangeAt Go.RowKit
set_option linter.unusedVariables false
theorem get_lit (l : List UInt8) (i : Nat) (h : i < (ByteArray.mk l.toArray).size) : (ByteArray.mk l.toArray)[i]'h = l[i]'(by simpa [ByteArray.size] using h) := rfl
attribute [local go_sem] get_lit
set_option maxRecDepth 100000 in
set_option maxHeartbeats 1000000 in
theorem common0 (t : ByteArray) (h0 : 0 < t.size) (hm : t.size ≤ maxLen) (h1 : 48 ≤ (t[0]'h0).toNat) (h2 : (t[0]'h0).toNat ≤ 57) (w : World) : Calls Tryz.prog 109 #[.string t, .string ⟨#[105, 110, 102, 105, 110, 105, 116, 121]⟩] w fun e w' => e = .returned (.int .i64 0) ∧ w = w' := by
  unfold maxLen at hm
  have k1 : ((t[0].toNat : Int) != 105) = true := by rw [bne_iff_ne]; omega
  by_cases h8 : t.size < 8
  all_goals
    go_enter Tryz.func109, Tryz.ntmps109
    go_wp2
    go_rounds 1
    go_ret
    exact ⟨rfl, rfl⟩
theorem ext_at (s : ByteArray) (h : 1 < s.size) : ∃ h0 : 0 < (s.extract 1 s.size).size, ((s.extract 1 s.size)[0]'h0).toNat = bt s 1 := by
  have h0 : 0 < (s.extract 1 s.size).size := by simp [ByteArray.size_extract]; omega
  refine ⟨h0, ?_⟩
  rw [← bt_at s 1 h]
  congr 1
  simp [ByteArray.getElem_extract]
set_option maxRecDepth 100000 in
set_option maxHeartbeats 1000000 in
theorem special_pos (s : ByteArray) (d : Nat) (h : Decs s 0 d) (w : World) : Calls Tryz.prog 72 #[.string s] w fun e w' => e = .returned (.tuple #[.float .f64 0, .int .i64 0, .bool false]) ∧ w = w' := by
  have h0 : 0 < s.size := by have := h.lt; have := h.le; omega
  have dg := h.dig 0 (by omega) h0 (by have := h.lt; omega)
  rw [← bt_at s 0 h0] at dg
  have hs := h.few
  have kz : ((s.size : Int) == 0) = false := by rw [beq_eq_false_iff_ne]; omega
  have k1 : ((s[0].toNat : Int) == 43) = false := by rw [beq_eq_false_iff_ne]; omega
  have k2 : ((s[0].toNat : Int) == 45) = false := by rw [beq_eq_false_iff_ne]; omega
  have k3 : ((s[0].toNat : Int) == 105) = false := by rw [beq_eq_false_iff_ne]; omega
  have k4 : ((s[0].toNat : Int) == 73) = false := by rw [beq_eq_false_iff_ne]; omega
  have k5 : ((s[0].toNat : Int) == 110) = false := by rw [beq_eq_false_iff_ne]; omega
  have k6 : ((s[0].toNat : Int) == 78) = false := by rw [beq_eq_false_iff_ne]; omega
  clear h dg
  go_enter Tryz.func72, Tryz.ntmps72
  go_wp2_with fail
  go_ret3
  exact ⟨rfl, rfl⟩
set_option maxRecDepth 100000 in
set_option maxHeartbeats 1000000 in
theorem special_neg (s : ByteArray) (d : Nat) (h : Decs s 1 d) (h45 : bt s 0 = 45) (w : World) : Calls Tryz.prog 72 #[.string s] w fun e w' => e = .returned (.tuple #[.float .f64 0, .int .i64 0, .bool false]) ∧ w = w' := by
  have h0 : 1 < s.size := by have := h.lt; have := h.le; omega
  have dg := h.dig 1 (by omega) h0 (by have := h.lt; omega)
  have e0 := bt_at s 0 (by omega)
  have hc : Calls Tryz.prog 109 #[.string (s.extract 1 s.size), .string ⟨#[105, 110, 102, 105, 110, 105, 116, 121]⟩] w fun e w' => e = .returned (.int .i64 0) ∧ w = w' := by
    obtain ⟨h1, e1⟩ := ext_at s h0
    exact common0 (s.extract 1 s.size) h1 (by unfold maxLen; simp [ByteArray.size_extract]; have := h.few; omega) (by omega) (by omega) w
  have hs := h.few
  have kz : ((s.size : Int) == 0) = false := by rw [beq_eq_false_iff_ne]; omega
  have k1 : ((s[0].toNat : Int) == 43) = false := by rw [beq_eq_false_iff_ne, e0]; omega
  have k2 : ((s[0].toNat : Int) == 45) = true := by rw [e0, h45]; rfl
  clear h dg e0 h45
  go_enter Tryz.func72, Tryz.ntmps72
  go_wp2_with (go_at_call 109; refine hc.mono ?_; rintro e w1 ⟨rfl, rfl⟩)
  go_ret3
  exact ⟨rfl, rfl⟩
end Go.Proofs.YtkhflfkedpkelaaGreatDoor.lx
