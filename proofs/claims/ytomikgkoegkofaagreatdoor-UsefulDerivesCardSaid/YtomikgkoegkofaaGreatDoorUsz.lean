import Derived.Test.YtomikgkoegkofaaGreatDoorUsy
namespace Go.Proofs.YtomikgkoegkofaaGreatDoor.dv
open Go.ChangeShapes Go.WideShapes Go.ChangeAt Go.RowKit Go.Maps Go.WideMaps Go.WideElems
set_option linter.unusedVariables false
set_option linter.unusedSimpArgs false
/-! layer 9: same, of lists that are equal -/
set_option maxRecDepth 100000 in
set_option maxHeartbeats 4000000 in
theorem bsame_any (w : World) (v u : Value) (S : List Bool) (hv : ReadB w v S) (hu : ReadB w u S) : Calls Tryz.prog 12 #[v, u] w fun e w' => e = .returned (.bool true) ∧ Below w.heap.size w w' := by
  obtain ⟨ao, cap, rfl, hm, hc⟩ := hv
  obtain ⟨bo, cbp, rfl, _, hd⟩ := hu
  have hm2 : S.length ≤ 9223372036854775807 := by unfold maxLen at hm; omega
  have HC := Lib.hid hc
  have HD := Lib.hid hd
  clear hc hd hm
  go_enter Tryz.func12, Tryz.ntmps12
  go_wp2
  go_loopw [13] (fun q W => ∃ k : Nat, k ≤ S.length ∧ q = .int .i64 k ∧ Below w.heap.size w W) (fun q _ => S.length - (intOf q).toNat)
  case atStart => exact ⟨0, Nat.zero_le _, rfl, Below.refl _ _⟩
  case round =>
    obtain ⟨W, rfl⟩ : ∃ W : World, W = wr := ⟨_, rfl⟩
    obtain ⟨k, hk, hq, hbw⟩ := hrel
    obtain rfl := hq
    have HBW := Lib.hid hbw
    clear hbw
    by_cases hlt : k < S.length
    · have hlt2 : (k : Int) < (S.length : Int) := by omega
      have hk0 : (0 : Int) ≤ (k : Int) := by omega
      obtain ⟨a, rfl, ha, e1⟩ := HC.out k hlt
      obtain ⟨c, rfl, hc, e2⟩ := HD.out k hlt
      replace e1 := (HBW.out.cell (p := a.add k) (by rw [add_block]; exact ha)).trans e1
      replace e2 := (HBW.out.cell (p := c.add k) (by rw [add_block]; exact hc)).trans e2
      obtain ⟨x, hx⟩ : ∃ x, x = S.getD k false := ⟨_, rfl⟩
      rw [← hx] at e1 e2
      clear hx
      cases x
      · go_wp2
        refine wp_region_EQ (fun U => U.cell? (a.add k) = some (.bool false) ∧ U.cell? (c.add k) = some (.bool false)) [] (by kernel_rfl) ?_
        have HS : _ := And.intro (DRC W _ _ e1) (DRC W _ _ e2)
        change anyE _ _ _ _ _ _ _ _ _ (World.drew _)
        refine anyE_take (i := 0) (v := ?_) rfl (by kernel_rfl) (by kernel_rfl) (by kernel_rfl) (by kernel_rfl) (by kernel_rfl) (fun c _ _ h => absurd rfl (h.1 c)) (Or.inl ⟨by kernel_rfl, ?_⟩) HS ?_
        rotate_left
        · intro w _; go_simp; with_reducible rfl
        refine anyE_take (i := 1) (v := ?_) rfl (by kernel_rfl) (by kernel_rfl) (by kernel_rfl) (by kernel_rfl) (by kernel_rfl) (fun c _ _ h => absurd rfl (h.1 c)) (Or.inl ⟨by kernel_rfl, ?_⟩) HS ?_
        rotate_left
        · intro w _; go_simp; with_reducible rfl
        refine anyE_take (i := 2) (v := ?_) rfl (by kernel_rfl) (by kernel_rfl) (by kernel_rfl) (by kernel_rfl) (by kernel_rfl) (fun c _ _ h => absurd rfl (h.1 c)) (Or.inl ⟨by kernel_rfl, ?_⟩) HS ?_
        rotate_left
        · intro w _; go_simp; with_reducible rfl
        refine anyE_take (i := 3) (v := ?_) rfl (by kernel_rfl) (by kernel_rfl) (by kernel_rfl) (by kernel_rfl) (by kernel_rfl) (fun c _ _ h => absurd rfl (h.1 c)) (Or.inl ⟨by kernel_rfl, ?_⟩) HS ?_
        rotate_left
        · intro w hw; have hw := hw.1; go_simp; with_reducible rfl
        refine anyE_take (i := 4) (v := ?_) rfl (by kernel_rfl) (by kernel_rfl) (by kernel_rfl) (by kernel_rfl) (by kernel_rfl) (fun c _ _ h => absurd rfl (h.1 c)) (Or.inl ⟨by kernel_rfl, ?_⟩) HS ?_
        rotate_left
        · intro w _; go_simp; with_reducible rfl
        refine anyE_take (i := 5) (v := ?_) rfl (by kernel_rfl) (by kernel_rfl) (by kernel_rfl) (by kernel_rfl) (by kernel_rfl) (fun c _ _ h => absurd rfl (h.1 c)) (Or.inl ⟨by kernel_rfl, ?_⟩) HS ?_
        rotate_left
        · intro w _; go_simp; with_reducible rfl
        refine anyE_take (i := 6) (v := ?_) rfl (by kernel_rfl) (by kernel_rfl) (by kernel_rfl) (by kernel_rfl) (by kernel_rfl) (fun c _ _ h => absurd rfl (h.1 c)) (Or.inl ⟨by kernel_rfl, ?_⟩) HS ?_
        rotate_left
        · intro w _; go_simp; with_reducible rfl
        refine anyE_take (i := 7) (v := ?_) rfl (by kernel_rfl) (by kernel_rfl) (by kernel_rfl) (by kernel_rfl) (by kernel_rfl) (fun c _ _ h => absurd rfl (h.1 c)) (Or.inl ⟨by kernel_rfl, ?_⟩) HS ?_
        rotate_left
        · intro w hw; have hw := hw.2; go_simp; with_reducible rfl
        refine anyE_take (i := 8) (v := ?_) rfl (by kernel_rfl) (by kernel_rfl) (by kernel_rfl) (by kernel_rfl) (by kernel_rfl) (fun c _ _ h => absurd rfl (h.1 c)) (Or.inl ⟨by kernel_rfl, ?_⟩) HS ?_
        rotate_left
        · intro w _; go_simp; with_reducible rfl
        refine anyE_done (by kernel_rfl) ?_ _
        refine ⟨(fun c h => by cases h), ?_⟩
        have hdr := HBW.out.drew
        generalize World.drew W = W2 at *
        simp only [Act.put, List.setIfInBounds_toArray, List.set_cons_succ, List.set_cons_zero, List.getElem_toArray, List.getElem_cons_zero, List.getElem_cons_succ]
        go_wp2
        exact ⟨⟨k + 1, hlt, congrArg (Value.int .i64) (by omega), hdr⟩, by simp only [intOf]; omega⟩
      · go_wp2
        refine wp_region_EQ (fun U => U.cell? (a.add k) = some (.bool true) ∧ U.cell? (c.add k) = some (.bool true)) [] (by kernel_rfl) ?_
        have HS : _ := And.intro (DRC W _ _ e1) (DRC W _ _ e2)
        change anyE _ _ _ _ _ _ _ _ _ (World.drew _)
        refine anyE_take (i := 0) (v := ?_) rfl (by kernel_rfl) (by kernel_rfl) (by kernel_rfl) (by kernel_rfl) (by kernel_rfl) (fun c _ _ h => absurd rfl (h.1 c)) (Or.inl ⟨by kernel_rfl, ?_⟩) HS ?_
        rotate_left
        · intro w _; go_simp; with_reducible rfl
        refine anyE_take (i := 1) (v := ?_) rfl (by kernel_rfl) (by kernel_rfl) (by kernel_rfl) (by kernel_rfl) (by kernel_rfl) (fun c _ _ h => absurd rfl (h.1 c)) (Or.inl ⟨by kernel_rfl, ?_⟩) HS ?_
        rotate_left
        · intro w _; go_simp; with_reducible rfl
        refine anyE_take (i := 2) (v := ?_) rfl (by kernel_rfl) (by kernel_rfl) (by kernel_rfl) (by kernel_rfl) (by kernel_rfl) (fun c _ _ h => absurd rfl (h.1 c)) (Or.inl ⟨by kernel_rfl, ?_⟩) HS ?_
        rotate_left
        · intro w _; go_simp; with_reducible rfl
        refine anyE_take (i := 3) (v := ?_) rfl (by kernel_rfl) (by kernel_rfl) (by kernel_rfl) (by kernel_rfl) (by kernel_rfl) (fun c _ _ h => absurd rfl (h.1 c)) (Or.inl ⟨by kernel_rfl, ?_⟩) HS ?_
        rotate_left
        · intro w hw; have hw := hw.1; go_simp; with_reducible rfl
        refine anyE_take (i := 4) (v := ?_) rfl (by kernel_rfl) (by kernel_rfl) (by kernel_rfl) (by kernel_rfl) (by kernel_rfl) (fun c _ _ h => absurd rfl (h.1 c)) (Or.inl ⟨by kernel_rfl, ?_⟩) HS ?_
        rotate_left
        · intro w _; go_simp; with_reducible rfl
        refine anyE_take (i := 5) (v := ?_) rfl (by kernel_rfl) (by kernel_rfl) (by kernel_rfl) (by kernel_rfl) (by kernel_rfl) (fun c _ _ h => absurd rfl (h.1 c)) (Or.inl ⟨by kernel_rfl, ?_⟩) HS ?_
        rotate_left
        · intro w _; go_simp; with_reducible rfl
        refine anyE_take (i := 6) (v := ?_) rfl (by kernel_rfl) (by kernel_rfl) (by kernel_rfl) (by kernel_rfl) (by kernel_rfl) (fun c _ _ h => absurd rfl (h.1 c)) (Or.inl ⟨by kernel_rfl, ?_⟩) HS ?_
        rotate_left
        · intro w _; go_simp; with_reducible rfl
        refine anyE_take (i := 7) (v := ?_) rfl (by kernel_rfl) (by kernel_rfl) (by kernel_rfl) (by kernel_rfl) (by kernel_rfl) (fun c _ _ h => absurd rfl (h.1 c)) (Or.inl ⟨by kernel_rfl, ?_⟩) HS ?_
        rotate_left
        · intro w hw; have hw := hw.2; go_simp; with_reducible rfl
        refine anyE_take (i := 8) (v := ?_) rfl (by kernel_rfl) (by kernel_rfl) (by kernel_rfl) (by kernel_rfl) (by kernel_rfl) (fun c _ _ h => absurd rfl (h.1 c)) (Or.inl ⟨by kernel_rfl, ?_⟩) HS ?_
        rotate_left
        · intro w _; go_simp; with_reducible rfl
        refine anyE_done (by kernel_rfl) ?_ _
        refine ⟨(fun c h => by cases h), ?_⟩
        have hdr := HBW.out.drew
        generalize World.drew W = W2 at *
        simp only [Act.put, List.setIfInBounds_toArray, List.set_cons_succ, List.set_cons_zero, List.getElem_toArray, List.getElem_cons_zero, List.getElem_cons_succ]
        go_wp2
        exact ⟨⟨k + 1, hlt, congrArg (Value.int .i64) (by omega), hdr⟩, by simp only [intOf]; omega⟩
    · obtain rfl : k = S.length := by omega
      go_wp2
      go_ret
      exact ⟨rfl, HBW.out⟩
end Go.Proofs.YtomikgkoegkofaaGreatDoor.dv
