import Derived.Test.YtomikgkoegkofaaGreatDoorUsf
namespace Go.Proofs.YtomikgkoegkofaaGreatDoor.dv
open Go.ChangeShapes Go.WideShapes Go.ChangeAt Go.RowKit Go.Maps Go.WideMaps Go.WideElems
set_option linter.unusedVariables false
set_option linter.unusedSimpArgs false
/-! ways, one by one -/
def WayV (x : Way) : Value := .agg #[.int .i64 (x.1 : Int), .int .i64 (x.2.1 : Int), .int .i64 x.2.2]
set_option maxRecDepth 100000 in
theorem add_any (w : World) (a b : Nat) (ha : a ≤ Far) (hb : b ≤ Far) : Calls Tryz.prog 93 #[.int .i64 a, .int .i64 b] w fun e w' => e = .returned (.int .i64 (min (a + b) Far : Nat)) ∧ w' = w := by
  unfold Far at *
  have hs : IntKind.i64.wrap (1073741824 - (a : Int)) = 1073741824 - (a : Int) := by rw [IntKind.wrap_i64]; omega
  have hp : IntKind.i64.wrap ((a : Int) + (b : Int)) = (a : Int) + (b : Int) := by rw [IntKind.wrap_i64]; omega
  by_cases h : 1073741824 - (a : Int) ≤ (b : Int)
  · have e : min (a + b) 1073741824 = 1073741824 := by omega
    rw [e]
    clear e
    go_enter Tryz.func93, Tryz.ntmps93
    go_wp2
    go_ret
    exact ⟨rfl, rfl⟩
  · have e : min (a + b) 1073741824 = a + b := by omega
    rw [e]
    clear e
    go_enter Tryz.func93, Tryz.ntmps93
    go_wp2
    go_ret
    exact ⟨rfl, rfl⟩
set_option maxRecDepth 100000 in
theorem ahead_any (w : World) (x y : Way) : Calls Tryz.prog 67 #[WayV x, WayV y] w fun e w' => (∃ b, e = .returned (.bool b) ∧ (b = true ↔ ahd x y)) ∧ Below w.heap.size w w' := by
  obtain ⟨x1, x2, x3⟩ := x
  obtain ⟨y1, y2, y3⟩ := y
  unfold WayV ahd
  dsimp only
  have hbl : Below w.heap.size w ((w.alloc (.cells #[.int .i64 (x1 : Int), .int .i64 (x2 : Int), .int .i64 x3] 57)).alloc (.cells #[.int .i64 (y1 : Int), .int .i64 (y2 : Int), .int .i64 y3] 57)) := ((Below.refl _ w).alloc (Nat.le_refl _) _).alloc (by simp) _
  have b0 := (Blk.new w 57 #[.int .i64 (x1 : Int), .int .i64 (x2 : Int), .int .i64 x3]).alloc (.cells #[.int .i64 (y1 : Int), .int .i64 (y2 : Int), .int .i64 y3] 57)
  have b1 := Blk.new (w.alloc (.cells #[.int .i64 (x1 : Int), .int .i64 (x2 : Int), .int .i64 x3] 57)) 57 #[.int .i64 (y1 : Int), .int .i64 (y2 : Int), .int .i64 y3]
  rw [World.size_alloc] at b1
  have c0 := b0.cell 0
  have c1 := b0.cell 1
  have d0 := b1.cell 0
  have d1 := b1.cell 1
  simp only [List.getElem?_toArray, List.getElem?_cons_zero, List.getElem?_cons_succ] at c0 c1 d0 d1
  by_cases h1 : x1 < y1
  · have h1' : decide ((x1 : Int) < (y1 : Int)) = true := decide_eq_true (by omega)
    go_enter Tryz.func67, Tryz.ntmps67
    go_wp2
    go_ret
    exact ⟨⟨true, by simp [h1], by simp [h1]⟩, hbl⟩
  · have h1' : decide ((x1 : Int) < (y1 : Int)) = false := decide_eq_false (by omega)
    by_cases h2 : x1 = y1
    · subst h2
      by_cases h3 : x2 < y2
      · have h3' : decide ((x2 : Int) < (y2 : Int)) = true := decide_eq_true (by omega)
        go_enter Tryz.func67, Tryz.ntmps67
        go_wp2
        go_ret
        exact ⟨⟨true, by simp [h3], by simp [h3]⟩, hbl⟩
      · have h3' : decide ((x2 : Int) < (y2 : Int)) = false := decide_eq_false (by omega)
        go_enter Tryz.func67, Tryz.ntmps67
        go_wp2
        go_ret
        exact ⟨⟨false, by simp [h3], by simp [h3]⟩, hbl⟩
    · have h2' : ((x1 : Int) == (y1 : Int)) = false := by rw [beq_eq_false_iff_ne]; omega
      go_enter Tryz.func67, Tryz.ntmps67
      go_wp2
      go_ret
      exact ⟨⟨false, by simp [h1, h2], by simp [h1, h2]⟩, hbl⟩
set_option maxRecDepth 100000 in
theorem none_any (w : World) : Calls Tryz.prog 64 #[] w fun e w' => e = .returned (WayV noW) ∧ Below w.heap.size w w' := by
  go_enter Tryz.func64, Tryz.ntmps64
  go_wp2
  refine bodyPost_ret (v := WayV noW) (by simp [results, Tryz.results64, go_sem, WayV, noW, Far]) rfl ?_
  exact ⟨rfl, (Below.refl _ w).alloc (Nat.le_refl _) _⟩
end Go.Proofs.YtomikgkoegkofaaGreatDoor.dv
