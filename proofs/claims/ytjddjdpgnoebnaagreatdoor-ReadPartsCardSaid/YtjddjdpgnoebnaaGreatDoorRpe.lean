import Derived.Test.YtjddjdpgnoebnaaGreatDoorRpd
namespace Go.Proofs.YtjddjdpgnoebnaaGreatDoor.lx
open Go.ChangeShapes Go.WideShapes Go.ChangeAt Go.RowKit
set_option linter.unusedVariables false
/-! the document's example -/
theorem ra1 : readAll [101, 32, 61, 32, 37, 50, 32, 39, 97, 39, 32, 40, 101, 32, 124, 32, 41, 42, 32, 59, 32, 102, 32, 61, 32, 59] = ([(0, [101], [(4, 4611686018427387904, [.mk 7 1 [97] [] 0, .mk 11 2 [] [(12, 0, [.mk 12 0 [101] [] 0]), (16, 0, [])] 42])]), (21, [102], [(25, 0, [])])], 0, 0) := by
  unfold readAll
  rw [lexAll_G _ (by decide)]
  kernel_rfl
theorem ra2 : readAll [101, 32, 61, 32, 40, 32, 59] = ([], 5, 6) := by
  unfold readAll
  rw [lexAll_G _ (by decide)]
  kernel_rfl
end Go.Proofs.YtjddjdpgnoebnaaGreatDoor.lx
