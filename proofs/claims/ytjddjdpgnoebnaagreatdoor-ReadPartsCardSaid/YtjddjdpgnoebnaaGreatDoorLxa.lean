import Derived.Test.YtjddjdpgnoebnaaGreatDoorRows
import Derived.Test.YtjddjdpgnoebnaaGreatDoorLexm
import Derived.WalkKit
import Derived.WalkLawsBesides
import Derived.WalkSpells
import Derived.ProofKit
import Derived.OpenShut
import Derived.Handy
import Derived.Outline
import Derived.Lib.Hide
import Derived.Below
import Derived.WalkSmall
import Derived.Laws.OwnMore
import Derived.Laws.EntriesVeiled
import Derived.Laws.Externs
import Derived.Laws.FloatArith
import Derived.Deep.Draws
import Derived.Laws.Rows
import Derived.Deep.QuietTactic
import Derived.BigQuiet
import Derived.Maps.AppendAt
namespace Go.Proofs.YtjddjdpgnoebnaaGreatDoor.lx
open Go.ChangeShapes Go.WideShapes Go.ChangeAt Go.RowKit
set_option linter.unusedVariables false
/-! bytes -/
def letN (n : Nat) : Bool := decide ((97 ≤ n ∧ n ≤ 122) ∨ (65 ≤ n ∧ n ≤ 90))
def digN (n : Nat) : Bool := decide (48 ≤ n ∧ n ≤ 57)
theorem beq_n (c : UInt8) (k : UInt8) : (c == k) = decide (c.toNat = k.toNat) := by
  rw [Bool.eq_iff_iff]
  simp [← UInt8.toNat_inj]
theorem let_n (c : UInt8) : letB c = letN c.toNat := by
  unfold letB letN
  rw [Bool.eq_iff_iff]
  simp [UInt8.le_iff_toNat_le]
theorem dig_n (c : UInt8) : digB c = digN c.toNat := by
  unfold digB digN
  rw [Bool.eq_iff_iff]
  simp [UInt8.le_iff_toNat_le]
theorem quo_n (c : UInt8) : quoB c = decide ((32 ≤ c.toNat ∧ c.toNat ≤ 126) ∧ c.toNat ≠ 39) := by
  unfold quoB
  rw [Bool.eq_iff_iff]
  simp [UInt8.le_iff_toNat_le, ← UInt8.toNat_inj]
theorem blk_n (c : UInt8) : blkB c = decide (c.toNat = 32 ∨ c.toNat = 9 ∨ c.toNat = 13 ∨ c.toNat = 10) := by
  unfold blkB
  rw [beq_n, beq_n, beq_n, beq_n, Bool.eq_iff_iff]
  simp [or_assoc]
theorem b_lt (c : UInt8) : c.toNat < 256 := c.toNat_lt
theorem ret_bool {a b : Bool} (h : a = b) : Ending.returned (.bool a) = .returned (.bool b) := by rw [h]
theorem ret_int {k : IntKind} {a b : Int} (h : a = b) : Ending.returned (.int k a) = .returned (.int k b) := by rw [h]
theorem letter_n (n : Nat) (hn : n < 256) (w : World) : Calls Tryz.prog 30 #[.int .u8 n] w fun e w' => e = .returned (.bool (letN n)) ∧ w = w' := by
  have h : (97 ≤ n ∧ n ≤ 122 ∧ letN n = true) ∨ (65 ≤ n ∧ n ≤ 90 ∧ letN n = true) ∨ (n < 65 ∧ letN n = false) ∨ (90 < n ∧ n < 97 ∧ letN n = false) ∨ (122 < n ∧ letN n = false) := by
    unfold letN
    simp only [decide_eq_true_iff, decide_eq_false_iff_not]
    omega
  rcases h with ⟨h1, h2, e⟩ | ⟨h1, h2, e⟩ | ⟨h1, e⟩ | ⟨h1, h2, e⟩ | ⟨h1, e⟩ <;> rw [e] <;> clear e
  all_goals
    go_enter Tryz.func30, Tryz.ntmps30
    go_wp2
    go_ret
    first | exact ⟨rfl, rfl⟩ | exact ⟨ret_bool (by simp; omega), rfl⟩
theorem digit_n (n : Nat) (hn : n < 256) (w : World) : Calls Tryz.prog 52 #[.int .u8 n] w fun e w' => e = .returned (.bool (digN n)) ∧ w = w' := by
  have h : (48 ≤ n ∧ n ≤ 57 ∧ digN n = true) ∨ (n < 48 ∧ digN n = false) ∨ (57 < n ∧ digN n = false) := by
    unfold digN
    simp only [decide_eq_true_iff, decide_eq_false_iff_not]
    omega
  rcases h with ⟨h1, h2, e⟩ | ⟨h1, e⟩ | ⟨h1, e⟩ <;> rw [e] <;> clear e
  all_goals
    go_enter Tryz.func52, Tryz.ntmps52
    go_wp2
    go_ret
    first | exact ⟨rfl, rfl⟩ | exact ⟨ret_bool (by simp; omega), rfl⟩
theorem blank_n (n : Nat) (hn : n < 256) (w : World) : Calls Tryz.prog 45 #[.int .u8 n] w fun e w' => e = .returned (.bool (decide (n = 32 ∨ n = 9 ∨ n = 13 ∨ n = 10))) ∧ w = w' := by
  have h : n = 32 ∨ n = 9 ∨ n = 13 ∨ n = 10 ∨ (n ≠ 32 ∧ n ≠ 9 ∧ n ≠ 13 ∧ n ≠ 10) := by omega
  rcases h with rfl | rfl | rfl | rfl | ⟨h1, h2, h3, h4⟩
  · go_enter Tryz.func45, Tryz.ntmps45
    go_wp2
    go_ret
    exact ⟨rfl, rfl⟩
  · go_enter Tryz.func45, Tryz.ntmps45
    go_wp2
    go_ret
    exact ⟨rfl, rfl⟩
  · go_enter Tryz.func45, Tryz.ntmps45
    go_wp2
    go_ret
    exact ⟨rfl, rfl⟩
  · go_enter Tryz.func45, Tryz.ntmps45
    go_wp2
    go_ret
    exact ⟨rfl, rfl⟩
  · have k1 : ((n : Int) == 32) = false := by rw [beq_eq_false_iff_ne]; omega
    have k2 : ((n : Int) == 9) = false := by rw [beq_eq_false_iff_ne]; omega
    have k3 : ((n : Int) == 13) = false := by rw [beq_eq_false_iff_ne]; omega
    have k4 : ((n : Int) == 10) = false := by rw [beq_eq_false_iff_ne]; omega
    have e : decide (n = 32 ∨ n = 9 ∨ n = 13 ∨ n = 10) = false := by rw [decide_eq_false_iff_not]; omega
    rw [e]
    clear e h1 h2 h3 h4
    go_enter Tryz.func45, Tryz.ntmps45
    go_wp2
    go_ret
    exact ⟨rfl, rfl⟩
def namN (n : Nat) : Bool := letN n || digN n || decide (n = 95)
def quoN (n : Nat) : Bool := decide ((32 ≤ n ∧ n ≤ 126) ∧ n ≠ 39)
def wgtN (n : Nat) : Bool := letN n || digN n || decide (n = 46) || decide (n = 45)
theorem inname_n (n : Nat) (hn : n < 256) (w : World) : Calls Tryz.prog 32 #[.int .u8 n] w fun e w' => e = .returned (.bool (namN n)) ∧ w = w' := by
  have hl := letter_n n hn w
  have hd := digit_n n hn w
  have HE : Hid (namN n = (letN n || digN n || decide (n = 95))) := Lib.hid rfl
  generalize namN n = z at *
  cases h1 : letN n
  · rw [h1] at hl HE
    cases h2 : digN n
    · rw [h2] at hd HE
      by_cases h3 : n = 95
      · have k3 : ((n : Int) == 95) = true := by rw [beq_iff_eq]; omega
        have HZ : Hid (z = true) := Lib.hid (by rw [HE.out]; simp [h3])
        clear h1 h2 h3 HE
        go_enter Tryz.func32, Tryz.ntmps32
        go_wp2_with (first | (go_at_call 30; refine hl.mono ?_; rintro e w1 ⟨rfl, rfl⟩) | (go_at_call 52; refine hd.mono ?_; rintro e w2 ⟨rfl, rfl⟩))
        go_ret
        exact ⟨ret_bool HZ.out.symm, rfl⟩
      · have k3 : ((n : Int) == 95) = false := by rw [beq_eq_false_iff_ne]; omega
        have HZ : Hid (z = false) := Lib.hid (by rw [HE.out]; simp [h3])
        clear h1 h2 h3 HE
        go_enter Tryz.func32, Tryz.ntmps32
        go_wp2_with (first | (go_at_call 30; refine hl.mono ?_; rintro e w1 ⟨rfl, rfl⟩) | (go_at_call 52; refine hd.mono ?_; rintro e w2 ⟨rfl, rfl⟩))
        go_ret
        exact ⟨ret_bool HZ.out.symm, rfl⟩
    · rw [h2] at hd HE
      have HZ : Hid (z = true) := Lib.hid (by rw [HE.out]; simp)
      clear h1 h2 HE
      go_enter Tryz.func32, Tryz.ntmps32
      go_wp2_with (first | (go_at_call 30; refine hl.mono ?_; rintro e w1 ⟨rfl, rfl⟩) | (go_at_call 52; refine hd.mono ?_; rintro e w2 ⟨rfl, rfl⟩))
      go_ret
      exact ⟨ret_bool HZ.out.symm, rfl⟩
  · rw [h1] at hl HE
    have HZ : Hid (z = true) := Lib.hid (by rw [HE.out]; simp)
    clear h1 HE
    go_enter Tryz.func32, Tryz.ntmps32
    go_wp2_with (first | (go_at_call 30; refine hl.mono ?_; rintro e w1 ⟨rfl, rfl⟩) | (go_at_call 52; refine hd.mono ?_; rintro e w2 ⟨rfl, rfl⟩))
    go_ret
    exact ⟨ret_bool HZ.out.symm, rfl⟩
theorem inquote_n (n : Nat) (hn : n < 256) (w : World) : Calls Tryz.prog 35 #[.int .u8 n] w fun e w' => e = .returned (.bool (quoN n)) ∧ w = w' := by
  have h : (n < 32 ∧ quoN n = false) ∨ (126 < n ∧ quoN n = false) ∨ (n = 39 ∧ quoN n = false) ∨ (32 ≤ n ∧ n ≤ 126 ∧ n ≠ 39 ∧ quoN n = true) := by
    unfold quoN
    simp only [decide_eq_true_iff, decide_eq_false_iff_not]
    omega
  rcases h with ⟨h1, e⟩ | ⟨h1, e⟩ | ⟨rfl, e⟩ | ⟨h1, h2, h3, e⟩ <;> rw [e] <;> clear e
  · go_enter Tryz.func35, Tryz.ntmps35
    go_wp2
    go_ret
    first | exact ⟨rfl, rfl⟩ | exact ⟨ret_bool (by simp; omega), rfl⟩
  · go_enter Tryz.func35, Tryz.ntmps35
    go_wp2
    go_ret
    first | exact ⟨rfl, rfl⟩ | exact ⟨ret_bool (by simp; omega), rfl⟩
  · go_enter Tryz.func35, Tryz.ntmps35
    go_wp2
    go_ret
    first | exact ⟨rfl, rfl⟩ | exact ⟨ret_bool (by simp; omega), rfl⟩
  · have k3 : ((n : Int) != 39) = true := by rw [bne_iff_ne]; omega
    go_enter Tryz.func35, Tryz.ntmps35
    go_wp2
    go_ret
    first | exact ⟨rfl, rfl⟩ | exact ⟨ret_bool (by simp; omega), rfl⟩
end Go.Proofs.YtjddjdpgnoebnaaGreatDoor.lx
