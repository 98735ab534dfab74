import Derived.Test.YtomikgkoegkofaaDvo
namespace Go.Proofs.Ytomikgkoegkofaa.dv
open Go.ChangeShapes Go.WideShapes Go.ChangeAt Go.RowKit Go.Maps Go.WideMaps Go.WideElems
set_option linter.unusedVariables false
set_option linter.unusedSimpArgs false
/-! the document's example -/
instance (n : Int) : Decidable (In64 n) := by unfold In64; infer_instance
def pairsR : List Rl := [⟨0, [-1, 0, -2], 0⟩, ⟨0, [], 4611686018427387904⟩]
set_option maxRecDepth 100000 in
set_option maxHeartbeats 1000000 in
theorem pairs_any (w : World) : Calls Try.prog 39 #[] w fun e w' => ∃ t v r, e = .returned (.agg #[.slice (some t) 2 2, .slice (some v) 1 1, .slice (some ⟨r, 0, none⟩) 2 2]) ∧ RulesAt w'.heap.size w' (.slice (some ⟨r, 0, none⟩) 2 2) pairsR ∧ Below w.heap.size w w' := by
  have bG : Blk (((((w.alloc (.cells #[.slice (some ⟨w.heap.size + 1, 0, none⟩) 2 2, .slice (some ⟨w.heap.size + 1 + 1, 0, none⟩) 1 1, .slice (some ⟨w.heap.size + 1 + 1 + 1 + 1, 0, none⟩) 2 2] 25)).alloc (.cells #[.string ⟨#[97]⟩, .string ⟨#[98]⟩] 9)).alloc (.cells #[.string ⟨#[115]⟩] 9)).alloc (.cells #[.int .i64 (-1), .int .i64 0, .int .i64 (-2)] 3)).alloc (.cells #[.int .i64 0, .slice (some ⟨w.heap.size + 1 + 1 + 1, 0, none⟩) 3 3, .float .f64 0, .int .i64 0, .slice none 0 0, .float .f64 4611686018427387904] 52)) w.heap.size 25 _ := ((((Blk.new w 25 _).alloc _).alloc _).alloc _).alloc _
  have bC : Blk (((((w.alloc (.cells #[.slice (some ⟨w.heap.size + 1, 0, none⟩) 2 2, .slice (some ⟨w.heap.size + 1 + 1, 0, none⟩) 1 1, .slice (some ⟨w.heap.size + 1 + 1 + 1 + 1, 0, none⟩) 2 2] 25)).alloc (.cells #[.string ⟨#[97]⟩, .string ⟨#[98]⟩] 9)).alloc (.cells #[.string ⟨#[115]⟩] 9)).alloc (.cells #[.int .i64 (-1), .int .i64 0, .int .i64 (-2)] 3)).alloc (.cells #[.int .i64 0, .slice (some ⟨w.heap.size + 1 + 1 + 1, 0, none⟩) 3 3, .float .f64 0, .int .i64 0, .slice none 0 0, .float .f64 4611686018427387904] 52)) (w.heap.size + 1 + 1 + 1) 3 #[.int .i64 (-1), .int .i64 0, .int .i64 (-2)] := by
    have := (Blk.new (((w.alloc (.cells #[.slice (some ⟨w.heap.size + 1, 0, none⟩) 2 2, .slice (some ⟨w.heap.size + 1 + 1, 0, none⟩) 1 1, .slice (some ⟨w.heap.size + 1 + 1 + 1 + 1, 0, none⟩) 2 2] 25)).alloc (.cells #[.string ⟨#[97]⟩, .string ⟨#[98]⟩] 9)).alloc (.cells #[.string ⟨#[115]⟩] 9)) 3 #[.int .i64 (-1), .int .i64 0, .int .i64 (-2)]).alloc (.cells #[.int .i64 0, .slice (some ⟨w.heap.size + 1 + 1 + 1, 0, none⟩) 3 3, .float .f64 0, .int .i64 0, .slice none 0 0, .float .f64 4611686018427387904] 52)
    simpa using this
  have bD : Blk (((((w.alloc (.cells #[.slice (some ⟨w.heap.size + 1, 0, none⟩) 2 2, .slice (some ⟨w.heap.size + 1 + 1, 0, none⟩) 1 1, .slice (some ⟨w.heap.size + 1 + 1 + 1 + 1, 0, none⟩) 2 2] 25)).alloc (.cells #[.string ⟨#[97]⟩, .string ⟨#[98]⟩] 9)).alloc (.cells #[.string ⟨#[115]⟩] 9)).alloc (.cells #[.int .i64 (-1), .int .i64 0, .int .i64 (-2)] 3)).alloc (.cells #[.int .i64 0, .slice (some ⟨w.heap.size + 1 + 1 + 1, 0, none⟩) 3 3, .float .f64 0, .int .i64 0, .slice none 0 0, .float .f64 4611686018427387904] 52)) (w.heap.size + 1 + 1 + 1 + 1) 52 #[.int .i64 0, .slice (some ⟨w.heap.size + 1 + 1 + 1, 0, none⟩) 3 3, .float .f64 0, .int .i64 0, .slice none 0 0, .float .f64 4611686018427387904] := by
    have := Blk.new ((((w.alloc (.cells #[.slice (some ⟨w.heap.size + 1, 0, none⟩) 2 2, .slice (some ⟨w.heap.size + 1 + 1, 0, none⟩) 1 1, .slice (some ⟨w.heap.size + 1 + 1 + 1 + 1, 0, none⟩) 2 2] 25)).alloc (.cells #[.string ⟨#[97]⟩, .string ⟨#[98]⟩] 9)).alloc (.cells #[.string ⟨#[115]⟩] 9)).alloc (.cells #[.int .i64 (-1), .int .i64 0, .int .i64 (-2)] 3)) 52 #[.int .i64 0, .slice (some ⟨w.heap.size + 1 + 1 + 1, 0, none⟩) 3 3, .float .f64 0, .int .i64 0, .slice none 0 0, .float .f64 4611686018427387904]
    simpa using this
  have hbe : Below w.heap.size w (((((w.alloc (.cells #[.slice (some ⟨w.heap.size + 1, 0, none⟩) 2 2, .slice (some ⟨w.heap.size + 1 + 1, 0, none⟩) 1 1, .slice (some ⟨w.heap.size + 1 + 1 + 1 + 1, 0, none⟩) 2 2] 25)).alloc (.cells #[.string ⟨#[97]⟩, .string ⟨#[98]⟩] 9)).alloc (.cells #[.string ⟨#[115]⟩] 9)).alloc (.cells #[.int .i64 (-1), .int .i64 0, .int .i64 (-2)] 3)).alloc (.cells #[.int .i64 0, .slice (some ⟨w.heap.size + 1 + 1 + 1, 0, none⟩) 3 3, .float .f64 0, .int .i64 0, .slice none 0 0, .float .f64 4611686018427387904] 52)) := (((((Below.refl _ w).alloc (Nat.le_refl _) _).alloc (by simp) _).alloc (by simp; omega) _).alloc (by simp; omega) _).alloc (by simp; omega) _
  have e0 := bG.cell 0
  have e1 := bG.cell 1
  have e2 := bG.cell 2
  simp only [List.getElem?_toArray, List.getElem?_cons_zero, List.getElem?_cons_succ] at e0 e1 e2
  go_enter Try.func39, Try.ntmps39
  go_wp2
  refine bodyPost_ret (v := .agg #[.slice (some ⟨w.heap.size + 1, 0, none⟩) 2 2, .slice (some ⟨w.heap.size + 1 + 1, 0, none⟩) 1 1, .slice (some ⟨w.heap.size + 1 + 1 + 1 + 1, 0, none⟩) 2 2]) (by simp [results, Try.results39, go_sem, e0, e1, e2]) rfl ?_
  generalize hW : (((((w.alloc (.cells #[.slice (some ⟨w.heap.size + 1, 0, none⟩) 2 2, .slice (some ⟨w.heap.size + 1 + 1, 0, none⟩) 1 1, .slice (some ⟨w.heap.size + 1 + 1 + 1 + 1, 0, none⟩) 2 2] 25)).alloc (.cells #[.string ⟨#[97]⟩, .string ⟨#[98]⟩] 9)).alloc (.cells #[.string ⟨#[115]⟩] 9)).alloc (.cells #[.int .i64 (-1), .int .i64 0, .int .i64 (-2)] 3)).alloc (.cells #[.int .i64 0, .slice (some ⟨w.heap.size + 1 + 1 + 1, 0, none⟩) 3 3, .float .f64 0, .int .i64 0, .slice none 0 0, .float .f64 4611686018427387904] 52)) = W at *
  clear hW bG e0 e1 e2
  refine ⟨_, _, _, rfl, ⟨_, 2, rfl, by decide, fun k r hk => ?_⟩, hbe⟩
  have hc : ∀ j, W.cell? ((⟨w.heap.size + 1 + 1 + 1 + 1, 0, none⟩ : Addr).add j) = #[.int .i64 0, .slice (some ⟨w.heap.size + 1 + 1 + 1, 0, none⟩) 3 3, .float .f64 0, .int .i64 0, .slice none 0 0, .float .f64 4611686018427387904][j]? := fun j => by
    rw [Addr.add_lit, Nat.zero_add]
    exact bD.cell j
  refine ⟨_, rfl, bD.lt, ?_⟩
  match k, hk with
  | 0, hk =>
    cases hk
    refine ⟨some ⟨w.heap.size + 1 + 1 + 1, 0, none⟩, 3, hc 0, hc 1, hc 2, by decide, by decide, fun h => (by cases h), fun j hj => ⟨_, rfl, bC.lt, ?_⟩, by decide, by decide⟩
    rw [Addr.add_lit, Nat.zero_add, bC.cell j]
    match j, hj with
    | 0, _ => rfl
    | 1, _ => rfl
    | 2, _ => rfl
  | 1, hk =>
    cases hk
    refine ⟨none, 0, hc 3, hc 4, hc 5, by decide, by decide, fun _ => rfl, fun j hj => absurd hj (by simp), by decide, by decide⟩
  | k + 2, hk => cases hk
end Go.Proofs.Ytomikgkoegkofaa.dv
