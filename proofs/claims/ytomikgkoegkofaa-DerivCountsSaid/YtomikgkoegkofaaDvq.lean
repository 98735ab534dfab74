import Derived.Test.YtomikgkoegkofaaDvp
import Derived.Test.YtomikgkoegkofaaDwl
import Derived.Test.YtomikgkoegkofaaDwn
namespace Go.Proofs.Ytomikgkoegkofaa.dv
open Go.ChangeShapes Go.WideShapes Go.ChangeAt Go.RowKit Go.Maps Go.WideMaps Go.WideElems
set_option linter.unusedVariables false
set_option linter.unusedSimpArgs false
/-! the document's example is as said -/
theorem al_step (w : World) (t v : Addr) (r : Nat) (hR : RulesAt w.heap.size w (.slice (some ⟨r, 0, none⟩) 2 2) pairsR) : Calls Try.prog 15 #[.agg #[.slice (some t) 2 2, .slice (some v) 1 1, .slice (some ⟨r, 0, none⟩) 2 2], .slice (some ⟨w.heap.size, 0, none⟩) 2 2, .int .i64 0] (w.alloc (.cells #[.int .i64 (-2), .int .i64 0] 3)) fun e w' => ∃ u, e = .returned (.tuple #[u, .int .i64 0]) ∧ WordAt w' u [-2, -1, 0, -2] ∧ Below w.heap.size w w' := by
  refine (step_any (w.alloc (.cells #[.int .i64 (-2), .int .i64 0] 3)) w.heap.size (some t) (some v) 2 2 1 1 (.slice (some ⟨r, 0, none⟩) 2 2) (.slice (some ⟨w.heap.size, 0, none⟩) 2 2) pairsR [-2, 0] 0 (hR.below (below_lit _ _ _)) (by simp) (lit_row w [-2, 0] 2 _ rfl rfl (by decide) (by decide)) (by decide) (by decide)).mono ?_
  rintro e w2 ⟨u2, rfl, ho2, _, hb2⟩
  have e1 : refW pairsR (fvW [-2, 0]) 0 = 0 := by decide
  have e2 : stepL pairsR [-2, 0] 0 = [-2, -1, 0, -2] := by decide
  have ho := ho2 e1
  rw [e2] at ho
  exact ⟨u2, by rw [e1], word_own ho rfl (by decide), (below_lit _ _ _).trans (hb2.mono (by simp))⟩
theorem al_replay (w : World) (t v : Addr) (r : Nat) (hR : RulesAt w.heap.size w (.slice (some ⟨r, 0, none⟩) 2 2) pairsR) : Calls Try.prog 21 #[.agg #[.slice (some t) 2 2, .slice (some v) 1 1, .slice (some ⟨r, 0, none⟩) 2 2], .slice (some ⟨w.heap.size, 0, none⟩) 1 1, .slice (some ⟨w.heap.size + 1, 0, none⟩) 3 3] ((w.alloc (.cells #[.int .i64 0] 3)).alloc (.cells #[.int .i64 0, .int .i64 1, .int .i64 1] 3)) fun e w' => e = .returned (.tuple #[.slice none 0 0, .int .i64 2, .int .i64 13]) ∧ Below w.heap.size w w' := by
  have h2 := lit_row (w.alloc (.cells #[.int .i64 0] 3)) [0, 1, 1] 3 _ rfl rfl (by decide) (by decide)
  rw [World.size_alloc] at h2
  refine (replay_any ((w.alloc (.cells #[.int .i64 0] 3)).alloc (.cells #[.int .i64 0, .int .i64 1, .int .i64 1] 3)) w.heap.size (some t) (some v) 2 2 1 1 (.slice (some ⟨r, 0, none⟩) 2 2) (.slice (some ⟨w.heap.size, 0, none⟩) 1 1) (.slice (some ⟨w.heap.size + 1, 0, none⟩) 3 3) pairsR [0] [0, 1, 1] (hR.below (two_below _ _ _ _ _)) (by simp; omega) ((lit_row w [0] 1 _ rfl rfl (by decide) (by decide)).below (below_lit _ _ _)) h2 (by decide) (by decide) (by decide)).mono ?_
  rintro e w2 ⟨u2, rfl, _, hu, hb2⟩
  have e1 : replW pairsR [0] [0, 1, 1] 0 = ([], 2, 13) := by decide
  rw [e1] at hu ⊢
  obtain rfl := hu (by decide)
  exact ⟨rfl, (two_below _ _ _ _ _).trans (hb2.mono (by simp; omega))⟩
theorem al_yield (w : World) (t v : Addr) (r : Nat) (hR : RulesAt w.heap.size w (.slice (some ⟨r, 0, none⟩) 2 2) pairsR) : Calls Try.prog 23 #[.agg #[.slice (some t) 2 2, .slice (some v) 1 1, .slice (some ⟨r, 0, none⟩) 2 2], .slice (some ⟨w.heap.size, 0, none⟩) 1 1, .slice (some ⟨w.heap.size + 1, 0, none⟩) 3 3] ((w.alloc (.cells #[.int .i64 0] 3)).alloc (.cells #[.int .i64 0, .int .i64 0, .int .i64 1] 3)) fun e w' => ∃ u, e = .returned (.tuple #[u, .int .i64 0]) ∧ WordAt w' u [0, 0, 1, 1] ∧ Below w.heap.size w w' := by
  have h2 := lit_row (w.alloc (.cells #[.int .i64 0] 3)) [0, 0, 1] 3 _ rfl rfl (by decide) (by decide)
  rw [World.size_alloc] at h2
  refine (yield_any ((w.alloc (.cells #[.int .i64 0] 3)).alloc (.cells #[.int .i64 0, .int .i64 0, .int .i64 1] 3)) w.heap.size (some t) (some v) 2 2 1 1 (.slice (some ⟨r, 0, none⟩) 2 2) (.slice (some ⟨w.heap.size, 0, none⟩) 1 1) (.slice (some ⟨w.heap.size + 1, 0, none⟩) 3 3) pairsR [0] [0, 0, 1] (hR.below (two_below _ _ _ _ _)) (by simp; omega) ((lit_row w [0] 1 _ rfl rfl (by decide) (by decide)).below (below_lit _ _ _)) h2 (by decide) (by decide) (by decide)).mono ?_
  rintro e w2 ⟨u2, rfl, ho2, _, hb2⟩
  have e1 : yieldW pairsR [0] [0, 0, 1] = ([0, 0, 1, 1], 0) := by decide
  rw [e1] at ho2 ⊢
  exact ⟨u2, rfl, word_own (ho2 rfl) rfl (by decide), (two_below _ _ _ _ _).trans (hb2.mono (by simp; omega))⟩
theorem al_lead (w : World) : Calls Try.prog 17 #[.slice (some ⟨w.heap.size, 0, none⟩) 3 3] (w.alloc (.cells #[.int .i64 (-2), .int .i64 (-1), .int .i64 0] 3)) fun e w' => ∃ u, e = .returned (.tuple #[u, .int .i64 2]) ∧ WordAt w' u [1, 0] ∧ Below w.heap.size w w' := by
  refine (lead_any (w.alloc (.cells #[.int .i64 (-2), .int .i64 (-1), .int .i64 0] 3)) (.slice (some ⟨w.heap.size, 0, none⟩) 3 3) [-2, -1, 0] (lit_row w [-2, -1, 0] 3 _ rfl rfl (by decide) (by decide)) (by decide)).mono ?_
  rintro e w2 ⟨u2, rfl, ho2, hb2⟩
  have e1 : idxW [-2, -1, 0] = 2 := by decide
  have e2 : (leadW [-2, -1, 0]).map (fun x => -1 - x) = [1, 0] := by decide
  have e3 : (leadW [-2, -1, 0]).length = 2 := by decide
  rw [e2, e3] at ho2
  rw [e1]
  exact ⟨u2, rfl, word_own ho2 rfl (by decide), (below_lit _ _ _).trans (hb2.mono (by simp))⟩
theorem al_sum : sumF (wtsW pairsR [0, 1]) = some 4611686018427387904 := by
  show addF 0 4611686018427387904 = some 4611686018427387904
  decide +kernel
theorem al_weight (w : World) (t v : Addr) (r : Nat) (hR : RulesAt w.heap.size w (.slice (some ⟨r, 0, none⟩) 2 2) pairsR) : Calls Try.prog 26 #[.agg #[.slice (some t) 2 2, .slice (some v) 1 1, .slice (some ⟨r, 0, none⟩) 2 2], .slice (some ⟨w.heap.size, 0, none⟩) 2 2] (w.alloc (.cells #[.int .i64 0, .int .i64 1] 3)) fun e w' => e = .returned (.float .f64 4611686018427387904) ∧ Below w.heap.size w w' := by
  refine (weight_any (w.alloc (.cells #[.int .i64 0, .int .i64 1] 3)) w.heap.size (some t) (some v) 2 2 1 1 (.slice (some ⟨r, 0, none⟩) 2 2) (.slice (some ⟨w.heap.size, 0, none⟩) 2 2) pairsR [0, 1] (hR.below (below_lit _ _ _)) (by simp) (lit_row w [0, 1] 2 _ rfl rfl (by decide) (by decide)) (by decide) (by unfold Wf; decide)).mono ?_
  rintro e w2 ⟨f, rfl, hf, hb2⟩
  rw [al_sum] at hf
  obtain ⟨_, rfl, _⟩ := hf
  exact ⟨rfl, (below_lit _ _ _).trans (hb2.mono (by simp))⟩
set_option maxRecDepth 100000 in
set_option maxHeartbeats 2000000 in
theorem alive_any (w : World) : Calls Try.prog 12 #[] w fun e w' => e = .returned (.bool true) ∧ Below w.heap.size w w' := by
  go_enter Try.func12, Try.ntmps12
  go_wp2_with fail
  refine (pairs_any w).mono ?_
  rintro e w1 ⟨t1, v1, r1, rfl, hR1, hb1⟩
  go_wp2_with fail
  refine (al_step w1 t1 v1 r1 hR1).mono ?_
  rintro e w2 ⟨u2, rfl, hw2, hb2⟩
  go_wp2_with fail
  refine (pairs_any w2).mono ?_
  rintro e w3 ⟨t3, v3, r3, rfl, hR3, hb3⟩
  go_wp2_with fail
  refine (al_replay w3 t3 v3 r3 hR3).mono ?_
  rintro e w4 ⟨rfl, hb4⟩
  go_wp2_with fail
  refine (pairs_any w4).mono ?_
  rintro e w5 ⟨t5, v5, r5, rfl, hR5, hb5⟩
  go_wp2_with fail
  refine (al_yield w5 t5 v5 r5 hR5).mono ?_
  rintro e w6 ⟨u6, rfl, hw6, hb6⟩
  go_wp2_with fail
  refine (al_lead w6).mono ?_
  rintro e w7 ⟨u7, rfl, hw7, hb7⟩
  have z2 := hb3.size
  have z4 := hb4.size
  have z5 := hb5.size
  have z6 := hb6.size
  have z7 := hb7.size
  have hx27 : Below w2.heap.size w2 w7 := (((hb3.trans (hb4.mono z2)).trans (hb5.mono (by omega))).trans (hb6.mono (by omega))).trans (hb7.mono (by omega))
  have hw27 := hw2.below hx27
  have hw67 := hw6.below hb7
  have hb17 : Below w.heap.size w w7 := (hb1.trans (hb2.mono hb1.size)).trans (hx27.mono (by have := hb1.size; have := hb2.size; omega))
  clear hR1 hR3 hR5 hw2 hw6 hb1 hb2 hb3 hb4 hb5 hb6 hb7 hx27 z2 z4 z5 z6 z7
  go_wp2_with fail
  have h8 := rsame_self (w7.alloc (.cells #[.int .i64 (-2), .int .i64 (-1), .int .i64 0, .int .i64 (-2)] 3)) u2 (.slice (some ⟨w7.heap.size, 0, none⟩) 4 4) [-2, -1, 0, -2] (hw27.below (below_lit _ _ _)) (lit_row w7 [-2, -1, 0, -2] 4 _ rfl rfl (by decide) (by decide)).word (by decide)
  refine h8.mono ?_
  rintro e w8 ⟨rfl, hb8⟩
  have hb78 : Below w7.heap.size w7 w8 := (below_lit _ _ _).trans (hb8.mono (by simp))
  clear h8
  go_wp2_with fail
  have h9 := rsame_self (w8.alloc (.cells #[.int .i64 0, .int .i64 0, .int .i64 1, .int .i64 1] 3)) u6 (.slice (some ⟨w8.heap.size, 0, none⟩) 4 4) [0, 0, 1, 1] ((hw67.below hb78).below (below_lit _ _ _)) (lit_row w8 [0, 0, 1, 1] 4 _ rfl rfl (by decide) (by decide)).word (by decide)
  refine h9.mono ?_
  rintro e w9 ⟨rfl, hb9⟩
  have hb89 : Below w8.heap.size w8 w9 := (below_lit _ _ _).trans (hb9.mono (by simp))
  have hb79 : Below w7.heap.size w7 w9 := hb78.trans (hb89.mono hb78.size)
  clear h9
  go_wp2_with fail
  have h10 := rsame_self (w9.alloc (.cells #[.int .i64 1, .int .i64 0] 3)) u7 (.slice (some ⟨w9.heap.size, 0, none⟩) 2 2) [1, 0] ((hw7.below hb79).below (below_lit _ _ _)) (lit_row w9 [1, 0] 2 _ rfl rfl (by decide) (by decide)).word (by decide)
  refine h10.mono ?_
  rintro e w10 ⟨rfl, hb10⟩
  have hb910 : Below w9.heap.size w9 w10 := (below_lit _ _ _).trans (hb10.mono (by simp))
  have hb710 : Below w7.heap.size w7 w10 := hb79.trans (hb910.mono hb79.size)
  clear h10
  go_wp2_with fail
  refine (pairs_any w10).mono ?_
  rintro e w11 ⟨t11, v11, r11, rfl, hR11, hb11⟩
  go_wp2_with fail
  refine (al_weight w11 t11 v11 r11 hR11).mono ?_
  rintro e w12 ⟨rfl, hb12⟩
  have hend : Below w.heap.size w w12 := hb17.trans (((hb710.trans (hb11.mono hb710.size)).trans (hb12.mono (Nat.le_trans hb710.size hb11.size))).mono hb17.size)
  clear hR11 hb11 hb12 hb710 hb17 hb79 hb78 hb89 hb910
  go_wp2_with fail
  go_ret
  exact ⟨rfl, hend⟩
end Go.Proofs.Ytomikgkoegkofaa.dv
