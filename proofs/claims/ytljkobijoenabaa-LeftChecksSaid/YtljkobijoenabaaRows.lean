/-
  No cell of these rows narrows 'for every input' (looked for: loops, veiled, ifaces, maps, wideKeys, modest, calm, conditions, laid).
  DERIVED. THE GIVEN ROWS OF THIS SEAT. 9 by the template 'for every input the law returns true; each argument reads behind the call as it read before'; 0 by the template 'total and deterministic' (their statements: YtljkobijoenabaaTotals.lean).
  GIVEN WITH THE SEED: the statements are not yours to turn. If you find one false, say at which input.
  Laid BY PROGRAM, IN A SANDBOX (cutbox-rows.mjs): the forced cells as the released guide's own fill.sh prints them over the translation 1afa5aea8e238441… (all of the seat's roots in one cut). By AI agents, Wed Nov 11 2026. No macro, syntax, notation, axiom, sorry.
-/
import Derived.Test.YtljkobijoenabaaChecked
import GoSem.Claim
import GoSem.ClaimJoined
import GoSem.ClaimMapViews
import Derived.JoinedTies
import Derived.KernelRfl
namespace Go.Proofs.Ytljkobijoenabaa
/- THE CELL 'sum', in the pinned program and in every row, IS THE sha256 OF THE DUMP (.gsa) THAT YtljkobijoenabaaProg.lean LOADS. Nothing in Lean hashes anything: it is a label: what it is worth is what the hold of that sum in a sandbox is worth. -/
noncomputable def Try.pinned : Pinned := { name := "ytljkobijoenabaa", sum := "1afa5aea8e238441fb53bc73d4a1c930f51cb110dc81ddeb06b2e065755d30fe", checked := Try.checked }
namespace Rows
def none {H : Type} : Left H := { results := [], args := [] }

/-- 'accidencelaw07.DerivSteps': WHATEVER THE INPUT: true; the input reads as it did. -/
def derivStepsSpec : ChangeSpec := { name := "derivSteps", fn := fun _ => fun
  | [d1, d2, d3] => { results := [.lit (.bool true)], args := [d1, d2, d3] }
  | _ => none }
def derivStepsRow : OpenClaim := { program := "ytljkobijoenabaa", sum := "1afa5aea8e238441fb53bc73d4a1c930f51cb110dc81ddeb06b2e065755d30fe", func := "accidence/accidencelaw07.DerivSteps", spec := "derivSteps", inPlace := ["math.Float64frombits", "math.Float64bits"], unfollowed := true, recurses := true, apart := false }
def DerivStepsSaid : Prop := derivStepsRow.holds Try.pinned (OpenSpec.ofChange derivStepsSpec)

/-- ITS FALSE NEIGHBOUR: 'it returns false'. Refute it at one input. -/
def derivStepsWrong : ChangeSpec := { name := "derivSteps", fn := fun _ => fun
  | [d1, d2, d3] => { results := [.lit (.bool false)], args := [d1, d2, d3] }
  | _ => none }
def DerivStepsWrongFalsely : Prop := derivStepsRow.holds Try.pinned (OpenSpec.ofChange derivStepsWrong)

/-- 'accidencelaw07.DerivReplays': WHATEVER THE INPUT: true; the input reads as it did. -/
def derivReplaysSpec : ChangeSpec := { name := "derivReplays", fn := fun _ => fun
  | [d1, d2, d3] => { results := [.lit (.bool true)], args := [d1, d2, d3] }
  | _ => none }
def derivReplaysRow : OpenClaim := { program := "ytljkobijoenabaa", sum := "1afa5aea8e238441fb53bc73d4a1c930f51cb110dc81ddeb06b2e065755d30fe", func := "accidence/accidencelaw07.DerivReplays", spec := "derivReplays", inPlace := ["math.Float64frombits", "math.Float64bits"], unfollowed := true, recurses := true, apart := false }
def DerivReplaysSaid : Prop := derivReplaysRow.holds Try.pinned (OpenSpec.ofChange derivReplaysSpec)

/-- ITS FALSE NEIGHBOUR: 'it returns false'. Refute it at one input. -/
def derivReplaysWrong : ChangeSpec := { name := "derivReplays", fn := fun _ => fun
  | [d1, d2, d3] => { results := [.lit (.bool false)], args := [d1, d2, d3] }
  | _ => none }
def DerivReplaysWrongFalsely : Prop := derivReplaysRow.holds Try.pinned (OpenSpec.ofChange derivReplaysWrong)

/-- 'accidencelaw07.DerivParts': WHATEVER THE INPUT: true; the input reads as it did. -/
def derivPartsSpec : ChangeSpec := { name := "derivParts", fn := fun _ => fun
  | [d1, d2, d3, d4] => { results := [.lit (.bool true)], args := [d1, d2, d3, d4] }
  | _ => none }
def derivPartsRow : OpenClaim := { program := "ytljkobijoenabaa", sum := "1afa5aea8e238441fb53bc73d4a1c930f51cb110dc81ddeb06b2e065755d30fe", func := "accidence/accidencelaw07.DerivParts", spec := "derivParts", inPlace := ["math.Float64frombits", "math.Float64bits"], unfollowed := true, recurses := true, apart := false }
def DerivPartsSaid : Prop := derivPartsRow.holds Try.pinned (OpenSpec.ofChange derivPartsSpec)

/-- ITS FALSE NEIGHBOUR: 'it returns false'. Refute it at one input. -/
def derivPartsWrong : ChangeSpec := { name := "derivParts", fn := fun _ => fun
  | [d1, d2, d3, d4] => { results := [.lit (.bool false)], args := [d1, d2, d3, d4] }
  | _ => none }
def DerivPartsWrongFalsely : Prop := derivPartsRow.holds Try.pinned (OpenSpec.ofChange derivPartsWrong)

/-- 'accidencelaw07.DerivBehind': WHATEVER THE INPUT: true; the input reads as it did. -/
def derivBehindSpec : ChangeSpec := { name := "derivBehind", fn := fun _ => fun
  | [d1, d2, d3, d4] => { results := [.lit (.bool true)], args := [d1, d2, d3, d4] }
  | _ => none }
def derivBehindRow : OpenClaim := { program := "ytljkobijoenabaa", sum := "1afa5aea8e238441fb53bc73d4a1c930f51cb110dc81ddeb06b2e065755d30fe", func := "accidence/accidencelaw07.DerivBehind", spec := "derivBehind", inPlace := ["math.Float64frombits", "math.Float64bits"], unfollowed := true, recurses := true, apart := false }
def DerivBehindSaid : Prop := derivBehindRow.holds Try.pinned (OpenSpec.ofChange derivBehindSpec)

/-- ITS FALSE NEIGHBOUR: 'it returns false'. Refute it at one input. -/
def derivBehindWrong : ChangeSpec := { name := "derivBehind", fn := fun _ => fun
  | [d1, d2, d3, d4] => { results := [.lit (.bool false)], args := [d1, d2, d3, d4] }
  | _ => none }
def DerivBehindWrongFalsely : Prop := derivBehindRow.holds Try.pinned (OpenSpec.ofChange derivBehindWrong)

/-- 'accidencelaw07.DerivCounts': WHATEVER THE INPUT: true; the input reads as it did. -/
def derivCountsSpec : ChangeSpec := { name := "derivCounts", fn := fun _ => fun
  | [d1, d2, d3] => { results := [.lit (.bool true)], args := [d1, d2, d3] }
  | _ => none }
def derivCountsRow : OpenClaim := { program := "ytljkobijoenabaa", sum := "1afa5aea8e238441fb53bc73d4a1c930f51cb110dc81ddeb06b2e065755d30fe", func := "accidence/accidencelaw07.DerivCounts", spec := "derivCounts", inPlace := ["math.Float64frombits", "math.Float64bits"], unfollowed := true, recurses := true, apart := false }
def DerivCountsSaid : Prop := derivCountsRow.holds Try.pinned (OpenSpec.ofChange derivCountsSpec)

/-- ITS FALSE NEIGHBOUR: 'it returns false'. Refute it at one input. -/
def derivCountsWrong : ChangeSpec := { name := "derivCounts", fn := fun _ => fun
  | [d1, d2, d3] => { results := [.lit (.bool false)], args := [d1, d2, d3] }
  | _ => none }
def DerivCountsWrongFalsely : Prop := derivCountsRow.holds Try.pinned (OpenSpec.ofChange derivCountsWrong)

/-- 'accidencelaw11.LeftTells': WHATEVER THE INPUT: true; the input reads as it did. -/
def leftTellsSpec : ChangeSpec := { name := "leftTells", fn := fun _ => fun
  | [d] => { results := [.lit (.bool true)], args := [d] }
  | _ => none }
def leftTellsRow : OpenClaim := { program := "ytljkobijoenabaa", sum := "1afa5aea8e238441fb53bc73d4a1c930f51cb110dc81ddeb06b2e065755d30fe", func := "accidence/accidencelaw11.LeftTells", spec := "leftTells", inPlace := ["math.Float64frombits", "math.Float64bits"], unfollowed := true, recurses := true, apart := false }
def LeftTellsSaid : Prop := leftTellsRow.holds Try.pinned (OpenSpec.ofChange leftTellsSpec)

/-- ITS FALSE NEIGHBOUR: 'it returns false'. Refute it at one input. -/
def leftTellsWrong : ChangeSpec := { name := "leftTells", fn := fun _ => fun
  | [d] => { results := [.lit (.bool false)], args := [d] }
  | _ => none }
def LeftTellsWrongFalsely : Prop := leftTellsRow.holds Try.pinned (OpenSpec.ofChange leftTellsWrong)

/-- 'accidencelaw11.LeftCycles': WHATEVER THE INPUT: true; the input reads as it did. -/
def leftCyclesSpec : ChangeSpec := { name := "leftCycles", fn := fun _ => fun
  | [d1, d2] => { results := [.lit (.bool true)], args := [d1, d2] }
  | _ => none }
def leftCyclesRow : OpenClaim := { program := "ytljkobijoenabaa", sum := "1afa5aea8e238441fb53bc73d4a1c930f51cb110dc81ddeb06b2e065755d30fe", func := "accidence/accidencelaw11.LeftCycles", spec := "leftCycles", inPlace := ["math.Float64frombits", "math.Float64bits"], unfollowed := true, recurses := true, apart := false }
def LeftCyclesSaid : Prop := leftCyclesRow.holds Try.pinned (OpenSpec.ofChange leftCyclesSpec)

/-- ITS FALSE NEIGHBOUR: 'it returns false'. Refute it at one input. -/
def leftCyclesWrong : ChangeSpec := { name := "leftCycles", fn := fun _ => fun
  | [d1, d2] => { results := [.lit (.bool false)], args := [d1, d2] }
  | _ => none }
def LeftCyclesWrongFalsely : Prop := leftCyclesRow.holds Try.pinned (OpenSpec.ofChange leftCyclesWrong)

/-- 'accidencelaw11.LeftChecks': WHATEVER THE INPUT: true; the input reads as it did. -/
def leftChecksSpec : ChangeSpec := { name := "leftChecks", fn := fun _ => fun
  | [d1, d2, d3] => { results := [.lit (.bool true)], args := [d1, d2, d3] }
  | _ => none }
def leftChecksRow : OpenClaim := { program := "ytljkobijoenabaa", sum := "1afa5aea8e238441fb53bc73d4a1c930f51cb110dc81ddeb06b2e065755d30fe", func := "accidence/accidencelaw11.LeftChecks", spec := "leftChecks", inPlace := ["math.Float64frombits", "math.Float64bits"], unfollowed := true, recurses := true, apart := false }
def LeftChecksSaid : Prop := leftChecksRow.holds Try.pinned (OpenSpec.ofChange leftChecksSpec)

/-- ITS FALSE NEIGHBOUR: 'it returns false'. Refute it at one input. -/
def leftChecksWrong : ChangeSpec := { name := "leftChecks", fn := fun _ => fun
  | [d1, d2, d3] => { results := [.lit (.bool false)], args := [d1, d2, d3] }
  | _ => none }
def LeftChecksWrongFalsely : Prop := leftChecksRow.holds Try.pinned (OpenSpec.ofChange leftChecksWrong)

/-- 'accidencelaw11.LeftJoins': WHATEVER THE INPUT: true; the input reads as it did. -/
def leftJoinsSpec : ChangeSpec := { name := "leftJoins", fn := fun _ => fun
  | [d] => { results := [.lit (.bool true)], args := [d] }
  | _ => none }
def leftJoinsRow : OpenClaim := { program := "ytljkobijoenabaa", sum := "1afa5aea8e238441fb53bc73d4a1c930f51cb110dc81ddeb06b2e065755d30fe", func := "accidence/accidencelaw11.LeftJoins", spec := "leftJoins", inPlace := ["math.Float64frombits", "math.Float64bits"], unfollowed := true, recurses := true, apart := false }
def LeftJoinsSaid : Prop := leftJoinsRow.holds Try.pinned (OpenSpec.ofChange leftJoinsSpec)

/-- ITS FALSE NEIGHBOUR: 'it returns false'. Refute it at one input. -/
def leftJoinsWrong : ChangeSpec := { name := "leftJoins", fn := fun _ => fun
  | [d] => { results := [.lit (.bool false)], args := [d] }
  | _ => none }
def LeftJoinsWrongFalsely : Prop := leftJoinsRow.holds Try.pinned (OpenSpec.ofChange leftJoinsWrong)

/- THE SECOND FORM. 'bulk': how many values and letters a reading holds, each counted each time it is reached (what is shared counts as often as it is met; a slice's spare places count too). A statement '..UptoSaid' is the law's where the arguments, and the package variables that the reading takes, are together of bulk at most 1048576: NARROWER than '..Said'. Prove '..Said' where nothing that the law and all that it calls make is longer than what came in: it says more and counts as full. Else prove '..UptoSaid'. A law counts once. -/
mutual
def uptoBulk {H : Type} : DataW H → Nat
  | .lit (.string bytes) => bytes.length + 1
  | .lit _ => 1
  | .nil => 1
  | .ptr d => uptoBulk d + 1
  | .slice elems spare => uptoBulkAll elems + uptoBulkAll spare + 1
  | .agg parts => uptoBulkAll parts + 1
  | .iface _ d => uptoBulk d + 1
  | .map entries => uptoBulkEntries entries + 1
  | .held _ => 1
def uptoBulkAll {H : Type} : List (DataW H) → Nat
  | [] => 0
  | d :: r => uptoBulk d + uptoBulkAll r
def uptoBulkEntries {H : Type} : List (Lit × DataW H) → Nat
  | [] => 0
  | x :: r => uptoBulkEntry x + uptoBulkEntries r
def uptoBulkEntry {H : Type} : Lit × DataW H → Nat
  | (.string bytes, d) => bytes.length + uptoBulk d + 1
  | (_, d) => uptoBulk d + 1
 end
def uptoSmall : (H : Type) → List (DataW H) → Bool := fun _ ds => decide (uptoBulkAll ds ≤ 1048576)
def OpenSpec.upto (s : _root_.Go.ChangeSpec) : _root_.Go.OpenSpec := { _root_.Go.OpenSpec.ofChange s with cond := some uptoSmall }

/-- 'accidencelaw07.DerivSteps', WHERE WHAT IT READS IS OF BULK AT MOST 1048576: true; the input reads as it did. -/
def derivStepsUptoRow : OpenClaim := { program := "ytljkobijoenabaa", sum := "1afa5aea8e238441fb53bc73d4a1c930f51cb110dc81ddeb06b2e065755d30fe", func := "accidence/accidencelaw07.DerivSteps", spec := "derivSteps", inPlace := ["math.Float64frombits", "math.Float64bits"], unfollowed := true, recurses := true, apart := false, narrowed := true }
def DerivStepsUptoSaid : Prop := derivStepsUptoRow.holds Try.pinned (OpenSpec.upto derivStepsSpec)

/-- 'accidencelaw07.DerivReplays', WHERE WHAT IT READS IS OF BULK AT MOST 1048576: true; the input reads as it did. -/
def derivReplaysUptoRow : OpenClaim := { program := "ytljkobijoenabaa", sum := "1afa5aea8e238441fb53bc73d4a1c930f51cb110dc81ddeb06b2e065755d30fe", func := "accidence/accidencelaw07.DerivReplays", spec := "derivReplays", inPlace := ["math.Float64frombits", "math.Float64bits"], unfollowed := true, recurses := true, apart := false, narrowed := true }
def DerivReplaysUptoSaid : Prop := derivReplaysUptoRow.holds Try.pinned (OpenSpec.upto derivReplaysSpec)

/-- 'accidencelaw07.DerivParts', WHERE WHAT IT READS IS OF BULK AT MOST 1048576: true; the input reads as it did. -/
def derivPartsUptoRow : OpenClaim := { program := "ytljkobijoenabaa", sum := "1afa5aea8e238441fb53bc73d4a1c930f51cb110dc81ddeb06b2e065755d30fe", func := "accidence/accidencelaw07.DerivParts", spec := "derivParts", inPlace := ["math.Float64frombits", "math.Float64bits"], unfollowed := true, recurses := true, apart := false, narrowed := true }
def DerivPartsUptoSaid : Prop := derivPartsUptoRow.holds Try.pinned (OpenSpec.upto derivPartsSpec)

/-- 'accidencelaw07.DerivBehind', WHERE WHAT IT READS IS OF BULK AT MOST 1048576: true; the input reads as it did. -/
def derivBehindUptoRow : OpenClaim := { program := "ytljkobijoenabaa", sum := "1afa5aea8e238441fb53bc73d4a1c930f51cb110dc81ddeb06b2e065755d30fe", func := "accidence/accidencelaw07.DerivBehind", spec := "derivBehind", inPlace := ["math.Float64frombits", "math.Float64bits"], unfollowed := true, recurses := true, apart := false, narrowed := true }
def DerivBehindUptoSaid : Prop := derivBehindUptoRow.holds Try.pinned (OpenSpec.upto derivBehindSpec)

/-- 'accidencelaw07.DerivCounts', WHERE WHAT IT READS IS OF BULK AT MOST 1048576: true; the input reads as it did. -/
def derivCountsUptoRow : OpenClaim := { program := "ytljkobijoenabaa", sum := "1afa5aea8e238441fb53bc73d4a1c930f51cb110dc81ddeb06b2e065755d30fe", func := "accidence/accidencelaw07.DerivCounts", spec := "derivCounts", inPlace := ["math.Float64frombits", "math.Float64bits"], unfollowed := true, recurses := true, apart := false, narrowed := true }
def DerivCountsUptoSaid : Prop := derivCountsUptoRow.holds Try.pinned (OpenSpec.upto derivCountsSpec)

/-- 'accidencelaw11.LeftTells', WHERE WHAT IT READS IS OF BULK AT MOST 1048576: true; the input reads as it did. -/
def leftTellsUptoRow : OpenClaim := { program := "ytljkobijoenabaa", sum := "1afa5aea8e238441fb53bc73d4a1c930f51cb110dc81ddeb06b2e065755d30fe", func := "accidence/accidencelaw11.LeftTells", spec := "leftTells", inPlace := ["math.Float64frombits", "math.Float64bits"], unfollowed := true, recurses := true, apart := false, narrowed := true }
def LeftTellsUptoSaid : Prop := leftTellsUptoRow.holds Try.pinned (OpenSpec.upto leftTellsSpec)

/-- 'accidencelaw11.LeftCycles', WHERE WHAT IT READS IS OF BULK AT MOST 1048576: true; the input reads as it did. -/
def leftCyclesUptoRow : OpenClaim := { program := "ytljkobijoenabaa", sum := "1afa5aea8e238441fb53bc73d4a1c930f51cb110dc81ddeb06b2e065755d30fe", func := "accidence/accidencelaw11.LeftCycles", spec := "leftCycles", inPlace := ["math.Float64frombits", "math.Float64bits"], unfollowed := true, recurses := true, apart := false, narrowed := true }
def LeftCyclesUptoSaid : Prop := leftCyclesUptoRow.holds Try.pinned (OpenSpec.upto leftCyclesSpec)

/-- 'accidencelaw11.LeftChecks', WHERE WHAT IT READS IS OF BULK AT MOST 1048576: true; the input reads as it did. -/
def leftChecksUptoRow : OpenClaim := { program := "ytljkobijoenabaa", sum := "1afa5aea8e238441fb53bc73d4a1c930f51cb110dc81ddeb06b2e065755d30fe", func := "accidence/accidencelaw11.LeftChecks", spec := "leftChecks", inPlace := ["math.Float64frombits", "math.Float64bits"], unfollowed := true, recurses := true, apart := false, narrowed := true }
def LeftChecksUptoSaid : Prop := leftChecksUptoRow.holds Try.pinned (OpenSpec.upto leftChecksSpec)

/-- 'accidencelaw11.LeftJoins', WHERE WHAT IT READS IS OF BULK AT MOST 1048576: true; the input reads as it did. -/
def leftJoinsUptoRow : OpenClaim := { program := "ytljkobijoenabaa", sum := "1afa5aea8e238441fb53bc73d4a1c930f51cb110dc81ddeb06b2e065755d30fe", func := "accidence/accidencelaw11.LeftJoins", spec := "leftJoins", inPlace := ["math.Float64frombits", "math.Float64bits"], unfollowed := true, recurses := true, apart := false, narrowed := true }
def LeftJoinsUptoSaid : Prop := leftJoinsUptoRow.holds Try.pinned (OpenSpec.upto leftJoinsSpec)

end Rows
end Go.Proofs.Ytljkobijoenabaa
