import Derived.Test.YtkhflfkedpkelaaGreatDoorRows
import Derived.Test.YtkhflfkedpkelaaGreatDoorLexm
import Derived.WalkKit
import Derived.WalkLawsBesides
import Derived.WalkSpells
import Derived.ProofKit
import Derived.OpenShut
import Derived.Handy
import Derived.Outline
import Derived.Lib.Hide
import Derived.Below
import Derived.WalkSmall
import Derived.Laws.OwnMore
import Derived.Laws.EntriesVeiled
import Derived.Laws.Externs
import Derived.Laws.FloatArith
import Derived.Deep.Draws
import Derived.Laws.Rows
import Derived.Deep.QuietTactic
import Derived.BigQuiet
import Derived.Maps.AppendAt
namespace Go.Proofs.YtkhflfkedpkelaaGreatDoor.lx
open Go.ChangeShapes Go.WideShapes Go.ChangeAt Go.RowKit
set_option linter.unusedVariables false
/-! bytes -/
def letN (n : Nat) : Bool := decide ((97 ≤ n ∧ n ≤ 122) ∨ (65 ≤ n ∧ n ≤ 90))
def digN (n : Nat) : Bool := decide (48 ≤ n ∧ n ≤ 57)
theorem beq_n (c : UInt8) (k : UInt8) : (c == k) = decide (c.toNat = k.toNat) := by
  rw [Bool.eq_iff_iff]
  simp [← UInt8.toNat_inj]
theorem let_n (c : UInt8) : letB c = letN c.toNat := by
  unfold letB letN
  rw [Bool.eq_iff_iff]
  simp [UInt8.le_iff_toNat_le]
theorem dig_n (c : UInt8) : digB c = digN c.toNat := by
  unfold digB digN
  rw [Bool.eq_iff_iff]
  simp [UInt8.le_iff_toNat_le]
theorem quo_n (c : UInt8) : quoB c = decide ((32 ≤ c.toNat ∧ c.toNat ≤ 126) ∧ c.toNat ≠ 39) := by
  unfold quoB
  rw [Bool.eq_iff_iff]
  simp [UInt8.le_iff_toNat_le, ← UInt8.toNat_inj]
theorem blk_n (c : UInt8) : blkB c = decide (c.toNat = 32 ∨ c.toNat = 9 ∨ c.toNat = 13 ∨ c.toNat = 10) := by
  unfold blkB
  rw [beq_n, beq_n, beq_n, beq_n, Bool.eq_iff_iff]
  simp [or_assoc]
theorem b_lt (c : UInt8) : c.toNat < 256 := c.toNat_lt
theorem ret_bool {a b : Bool} (h : a = b) : Ending.returned (.bool a) = .returned (.bool b) := by rw [h]
theorem ret_int {k : IntKind} {a b : Int} (h : a = b) : Ending.returned (.int k a) = .returned (.int k b) := by rw [h]
def namN (n : Nat) : Bool := letN n || digN n || decide (n = 95)
def quoN (n : Nat) : Bool := decide ((32 ≤ n ∧ n ≤ 126) ∧ n ≠ 39)
def wgtN (n : Nat) : Bool := letN n || digN n || decide (n = 46) || decide (n = 45)
end Go.Proofs.YtkhflfkedpkelaaGreatDoor.lx
