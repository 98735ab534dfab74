import Derived.Test.YtomikgkoegkofaaGreatDoorDvt
namespace Go.Proofs.YtomikgkoegkofaaGreatDoor.dv
open Go.ChangeShapes Go.WideShapes Go.ChangeAt Go.RowKit Go.Maps Go.WideMaps Go.WideElems
set_option linter.unusedVariables false
set_option linter.unusedSimpArgs false
/-! whether a rule may be: it is answered -/

theorem later {T G : Prop} (f : T → G) (t : T) : G := f t
def Ans (w : World) : Ending → World → Prop := fun e w' => ∃ b, e = .returned (.bool b) ∧ Below w.heap.size w w'
def AnsIf (P : Prop) (w : World) : Ending → World → Prop := fun e w' => ∃ b, e = .returned (.bool b) ∧ (b = true → P) ∧ Below w.heap.size w w'
def SymOk (tl vl : Nat) (s : Int) : Prop := s < vl ∧ -1 - s < tl
def RlOk (tl vl : Nat) (r : Rl) : Prop := 0 ≤ r.left ∧ r.left < vl ∧ ∀ s ∈ r.right, SymOk tl vl s
theorem ans_of {P : Prop} {w : World} {e : Ending} {w' : World} (h : AnsIf P w e w') : Ans w e w' := by
  obtain ⟨b, h1, _, h2⟩ := h
  exact ⟨b, h1, h2⟩
theorem sym_all {tl vl : Nat} {F : List Int} {n : Nat} (hn : n = F.length) (h : ∀ i, i < n → SymOk tl vl (F.getD i 0)) : ∀ s ∈ F, SymOk tl vl s := fun s hs => by
  obtain ⟨i, hi, rfl⟩ := List.mem_iff_getElem.1 hs
  have := h i (by omega)
  rwa [List.getD_eq_getElem?_getD, List.getElem?_eq_getElem hi] at this
theorem sym_more {tl vl : Nat} {F : List Int} {j : Nat} {y : Int} (h : ∀ i, i < j → SymOk tl vl (F.getD i 0)) (hy : y = F.getD j 0) (hs : SymOk tl vl y) : ∀ i, i < j + 1 → SymOk tl vl (F.getD i 0) := fun i hi => by
  rcases Nat.lt_or_ge i j with h1 | h1
  · exact h i h1
  · obtain rfl : i = j := by omega
    rw [← hy]; exact hs
theorem run_store_float (P : Program) (w : World) (a : Addr) (m : Mode) (k : FloatKind) (b : Nat) : (store a (.float k b) m).run P w = stored P w a (.float k b) m := run_store P w a _ m rfl
attribute [local go_sem] run_store_float

set_option maxRecDepth 100000 in
set_option maxHeartbeats 0 in
theorem rule_any (w : World) (B : Nat) (ta va ra : Option Addr) (tl tc vl vc rc : Nat) (R : List Rl) (k : Nat) (hk : k < R.length) (hR : RulesAt B w (.slice ra R.length rc) R) (hB : B ≤ w.heap.size) (hn : R.length ≤ 24) (ht : tl ≤ 6) (hv : vl ≤ 8) (h8 : ∀ r ∈ R, r.right.length ≤ 8) :
    Calls Tryz.prog 28 #[.agg #[.slice ta tl tc, .slice va vl vc, .slice ra R.length rc], .int .i64 k] w (AnsIf (∀ r', R[k]? = some r' → RlOk tl vl r') w) := by
  have b0 := Blk.new w 25 #[.slice ta tl tc, .slice va vl vc, .slice ra R.length rc]
  have hbl : Below w.heap.size w (w.alloc (.cells #[.slice ta tl tc, .slice va vl vc, .slice ra R.length rc] 25)) := below_lit _ _ _
  have hR1 := hR.below (hbl.mono hB)
  generalize hW0 : w.alloc (.cells #[.slice ta tl tc, .slice va vl vc, .slice ra R.length rc] 25) = w0 at *
  have hz0 : w0.heap.size = w.heap.size + 1 := by rw [← hW0]; simp
  have d2 := b0.cell 2
  simp only [List.getElem?_toArray, List.getElem?_cons_zero, List.getElem?_cons_succ] at d2
  obtain ⟨a, r, ao, cap, rfl, hab, hrk, g1, g2, g3, g4, g5, g6, g7, g8, g9⟩ := hR1.at k hk
  have hr8 := h8 r (List.mem_of_getElem? hrk)
  have br := Blk.new w0 44 #[.int .i64 r.left, .slice ao r.right.length cap, .float .f64 r.wt]
  have bg := b0.alloc (.cells #[.int .i64 r.left, .slice ao r.right.length cap, .float .f64 r.wt] 44)
  have hbr : Below w0.heap.size w0 (w0.alloc (.cells #[.int .i64 r.left, .slice ao r.right.length cap, .float .f64 r.wt] 44)) := below_lit _ _ _
  rw [hz0] at br
  have hbr' : Below w.heap.size w (w0.alloc (.cells #[.int .i64 r.left, .slice ao r.right.length cap, .float .f64 r.wt] 44)) := hbl.trans (hbr.mono (by omega))
  have hR2 := hR1.below (hbr.mono (by omega))
  have HR1 := Lib.hid hR2
  have H7 := Lib.hid g7
  clear hR hR1 hR2 g7
  go_enter Tryz.func28, Tryz.ntmps28
  go_wp2
  generalize hW1 : w0.alloc (.cells #[.int .i64 r.left, .slice ao r.right.length cap, .float .f64 r.wt] 44) = w1 at *
  have x0 := br.cell 0
  have x1 := br.cell 1
  have x2 := br.cell 2
  have e0 := bg.cell 0
  have e1 := bg.cell 1
  have e2 := bg.cell 2
  simp only [List.getElem?_toArray, List.getElem?_cons_zero, List.getElem?_cons_succ] at x0
  simp only [List.getElem?_toArray, List.getElem?_cons_zero, List.getElem?_cons_succ] at x1
  simp only [List.getElem?_toArray, List.getElem?_cons_zero, List.getElem?_cons_succ] at x2
  simp only [List.getElem?_toArray, List.getElem?_cons_zero, List.getElem?_cons_succ] at e0
  simp only [List.getElem?_toArray, List.getElem?_cons_zero, List.getElem?_cons_succ] at e1
  simp only [List.getElem?_toArray, List.getElem?_cons_zero, List.getElem?_cons_succ] at e2
  by_cases c1 : r.left < 0
  · have c1' := decide_eq_true c1
    go_quiet (fail)
    go_wp2
    go_ret
    exact ⟨_, rfl, (fun h => by cases h), below_drewN hbr' _⟩
  · have c1' := decide_eq_false c1
    by_cases c2 : (vl : Int) ≤ r.left
    · have c2' := decide_eq_true c2
      go_quiet (fail)
      go_wp2
      go_ret
      exact ⟨_, rfl, (fun h => by cases h), below_drewN hbr' _⟩
    · have c2' := decide_eq_false c2
      cases k with
      | zero =>
        have c3' : decide ((0 : Int) < ((0 : Nat) : Int)) = false := rfl
        have c4 : (decide ((24 : Int) < (r.right.length : Int))) = false := decide_eq_false (by omega)
        refine wp_region_any (by kernel_rfl) ?_
        change wpAny _ _ _ _ _ _ _ (World.drew _)
        refine wpAny_take (i := 0) (v := ?_) rfl (by kernel_rfl) (by kernel_rfl) (by kernel_rfl) (fun _ _ _ h => h) (Or.inl ⟨by kernel_rfl, ?_⟩) ?_
        rotate_left
        · intro w; go_simp; with_reducible rfl
        refine wpAny_ready (rs := [1]) (by kernel_rfl) (by simp) ?_
        refine AllReady.cons rfl (fun K hK => ?_) AllReady.nil
        go_simp
        refine hK _ _ ?_
        clear hK K
        refine wpAny_take (i := 2) (v := ?_) rfl (by kernel_rfl) (by kernel_rfl) (by kernel_rfl) (fun _ _ _ h => h) (Or.inl ⟨by kernel_rfl, ?_⟩) ?_
        rotate_left
        · intro w; go_simp; with_reducible rfl
        refine wpAny_take (i := 3) (v := ?_) rfl (by kernel_rfl) (by kernel_rfl) (by kernel_rfl) (fun _ _ _ h => h) (Or.inl ⟨by kernel_rfl, ?_⟩) ?_
        rotate_left
        · intro w; go_simp; with_reducible rfl
        refine wpAny_take (i := 4) (v := ?_) rfl (by kernel_rfl) (by kernel_rfl) (by kernel_rfl) (fun _ _ _ h => h) (Or.inl ⟨by kernel_rfl, ?_⟩) ?_
        rotate_left
        · intro w; go_simp; with_reducible rfl
        refine wpAny_take (i := 6) (v := ?_) rfl (by kernel_rfl) (by kernel_rfl) (by kernel_rfl) (fun _ _ _ h => h) (Or.inl ⟨by kernel_rfl, ?_⟩) ?_
        rotate_left
        · intro w; go_simp; with_reducible rfl
        apply later
        · intro hG
          refine wpAny_ready (rs := [5, 7]) (by kernel_rfl) (by simp) ?_
          refine AllReady.cons rfl (fun K hK => ?_) (AllReady.cons rfl (fun K hK => ?_) AllReady.nil)
          · go_simp
            refine hK _ _ ?_
            clear hK K
            refine wpAny_ready (rs := [7]) (by kernel_rfl) (by simp) ?_
            refine AllReady.cons rfl (fun K hK => ?_) AllReady.nil
            · go_simp
              refine hK _ _ ?_
              clear hK K
              refine wpAny_take (i := 8) (v := ?_) rfl (by kernel_rfl) (by kernel_rfl) (by kernel_rfl) (fun _ _ _ h => h) (Or.inl ⟨by kernel_rfl, ?_⟩) ?_
              rotate_left
              · intro w; go_simp; with_reducible rfl
              refine wpAny_take (i := 9) (v := ?_) rfl (by kernel_rfl) (by kernel_rfl) (by kernel_rfl) (fun _ _ _ h => h) (Or.inl ⟨by kernel_rfl, ?_⟩) ?_
              rotate_left
              · intro w; go_simp; with_reducible rfl
              exact hG
          · go_simp
            refine hK _ _ ?_
            clear hK K
            refine wpAny_take (i := 8) (v := ?_) rfl (by kernel_rfl) (by kernel_rfl) (by kernel_rfl) (fun _ _ _ h => h) (Or.inl ⟨by kernel_rfl, ?_⟩) ?_
            rotate_left
            · intro w; go_simp; with_reducible rfl
            refine wpAny_ready (rs := [5]) (by kernel_rfl) (by simp) ?_
            refine AllReady.cons rfl (fun K hK => ?_) AllReady.nil
            · go_simp
              refine hK _ _ ?_
              clear hK K
              refine wpAny_take (i := 9) (v := ?_) rfl (by kernel_rfl) (by kernel_rfl) (by kernel_rfl) (fun _ _ _ h => h) (Or.inl ⟨by kernel_rfl, ?_⟩) ?_
              rotate_left
              · intro w; go_simp; with_reducible rfl
              exact hG
        refine wpAny_take (i := 10) (v := ?_) rfl (by kernel_rfl) (by kernel_rfl) (by kernel_rfl) (fun _ _ _ h => h) (Or.inl ⟨by kernel_rfl, ?_⟩) ?_
        rotate_left
        · intro w; go_simp; with_reducible rfl
        refine wpAny_take (i := 11) (v := ?_) rfl (by kernel_rfl) (by kernel_rfl) (by kernel_rfl) (fun _ _ _ h => h) (Or.inl ⟨by kernel_rfl, ?_⟩) ?_
        rotate_left
        · intro w; go_simp; with_reducible rfl
        refine wpAny_take (i := 12) (v := ?_) rfl (by kernel_rfl) (by kernel_rfl) (by kernel_rfl) (fun _ _ _ h => h) (Or.inl ⟨by kernel_rfl, ?_⟩) ?_
        rotate_left
        · intro w; go_simp; with_reducible rfl
        refine wpAny_take (i := 13) (v := ?_) rfl (by kernel_rfl) (by kernel_rfl) (by kernel_rfl) (fun _ _ _ h => h) (Or.inl ⟨by kernel_rfl, ?_⟩) ?_
        rotate_left
        · intro w; go_simp; with_reducible rfl
        refine wpAny_take (i := 14) (v := ?_) rfl (by kernel_rfl) (by kernel_rfl) (by kernel_rfl) (fun _ _ _ h => h) (Or.inl ⟨by kernel_rfl, ?_⟩) ?_
        rotate_left
        · intro w; go_simp; with_reducible rfl
        refine wpAny_take (i := 15) (v := undef) rfl (by kernel_rfl) (by kernel_rfl) (by kernel_rfl) (fun _ _ _ h => h) (Or.inr ⟨by kernel_rfl, rfl⟩) ?_
        refine wpAny_take (i := 16) (v := undef) rfl (by kernel_rfl) (by kernel_rfl) (by kernel_rfl) (fun _ _ _ h => h) (Or.inr ⟨by kernel_rfl, rfl⟩) ?_
        refine wpAny_take (i := 17) (v := undef) rfl (by kernel_rfl) (by kernel_rfl) (by kernel_rfl) (fun _ _ _ h => h) (Or.inr ⟨by kernel_rfl, rfl⟩) ?_
        refine wpAny_take (i := 18) (v := undef) rfl (by kernel_rfl) (by kernel_rfl) (by kernel_rfl) (fun _ _ _ h => h) (Or.inr ⟨by kernel_rfl, rfl⟩) ?_
        refine wpAny_take (i := 19) (v := undef) rfl (by kernel_rfl) (by kernel_rfl) (by kernel_rfl) (fun _ _ _ h => h) (Or.inr ⟨by kernel_rfl, rfl⟩) ?_
        refine wpAny_take (i := 20) (v := undef) rfl (by kernel_rfl) (by kernel_rfl) (by kernel_rfl) (fun _ _ _ h => h) (Or.inr ⟨by kernel_rfl, rfl⟩) ?_
        refine wpAny_take (i := 21) (v := undef) rfl (by kernel_rfl) (by kernel_rfl) (by kernel_rfl) (fun _ _ _ h => h) (Or.inr ⟨by kernel_rfl, rfl⟩) ?_
        refine wpAny_take (i := 22) (v := undef) rfl (by kernel_rfl) (by kernel_rfl) (by kernel_rfl) (fun _ _ _ h => h) (Or.inr ⟨by kernel_rfl, rfl⟩) ?_
        refine wpAny_take (i := 23) (v := undef) rfl (by kernel_rfl) (by kernel_rfl) (by kernel_rfl) (fun _ _ _ h => h) (Or.inr ⟨by kernel_rfl, rfl⟩) ?_
        refine wpAny_take (i := 24) (v := undef) rfl (by kernel_rfl) (by kernel_rfl) (by kernel_rfl) (fun _ _ _ h => h) (Or.inr ⟨by kernel_rfl, rfl⟩) ?_
        refine wpAny_take (i := 25) (v := ?_) rfl (by kernel_rfl) (by kernel_rfl) (by kernel_rfl) (fun _ _ _ h => h) (Or.inl ⟨by kernel_rfl, ?_⟩) ?_
        rotate_left
        · intro w; go_simp; with_reducible rfl
        refine wpAny_take (i := 26) (v := ?_) rfl (by kernel_rfl) (by kernel_rfl) (by kernel_rfl) (fun _ _ _ h => h) (Or.inl ⟨by kernel_rfl, ?_⟩) ?_
        rotate_left
        · intro w; go_simp; with_reducible rfl
        refine wpAny_take (i := 27) (v := ?_) rfl (by kernel_rfl) (by kernel_rfl) (by kernel_rfl) (fun _ _ _ h => h) (Or.inl ⟨by kernel_rfl, ?_⟩) ?_
        rotate_left
        · intro w; go_simp; with_reducible rfl
        refine wpAny_take (i := 28) (v := ?_) rfl (by kernel_rfl) (by kernel_rfl) (by kernel_rfl) (fun _ _ _ h => h) (Or.inl ⟨by kernel_rfl, ?_⟩) ?_
        rotate_left
        · intro w; go_simp; with_reducible rfl
        refine wpAny_ready (rs := [29]) (by kernel_rfl) (by simp) ?_
        refine AllReady.cons rfl (fun K hK => ?_) AllReady.nil
        go_simp
        refine hK _ _ ?_
        clear hK K
        refine wpAny_take (i := 30) (v := ?_) rfl (by kernel_rfl) (by kernel_rfl) (by kernel_rfl) (fun _ _ _ h => h) (Or.inl ⟨by kernel_rfl, ?_⟩) ?_
        rotate_left
        · intro w; go_simp; with_reducible rfl
        refine wpAny_take (i := 31) (v := ?_) rfl (by kernel_rfl) (by kernel_rfl) (by kernel_rfl) (fun _ _ _ h => h) (Or.inl ⟨by kernel_rfl, ?_⟩) ?_
        rotate_left
        · intro w; go_simp; with_reducible rfl
        refine wpAny_take (i := 32) (v := ?_) rfl (by kernel_rfl) (by kernel_rfl) (by kernel_rfl) (fun _ _ _ h => h) (Or.inl ⟨by kernel_rfl, ?_⟩) ?_
        rotate_left
        · intro w; go_simp; with_reducible rfl
        refine wpAny_take (i := 33) (v := ?_) rfl (by kernel_rfl) (by kernel_rfl) (by kernel_rfl) (fun _ _ _ h => h) (Or.inl ⟨by kernel_rfl, ?_⟩) ?_
        rotate_left
        · intro w; go_simp; with_reducible rfl
        refine wpAny_take (i := 34) (v := ?_) rfl (by kernel_rfl) (by kernel_rfl) (by kernel_rfl) (fun _ _ _ h => h) (Or.inl ⟨by kernel_rfl, ?_⟩) ?_
        rotate_left
        · intro w; go_simp; with_reducible rfl
        refine wpAny_ready (rs := [35]) (by kernel_rfl) (by simp) ?_
        refine AllReady.cons rfl (fun K hK => ?_) AllReady.nil
        go_simp
        refine hK _ _ ?_
        clear hK K
        refine wpAny_ready (rs := [36]) (by kernel_rfl) (by simp) ?_
        refine AllReady.cons rfl (fun K hK => ?_) AllReady.nil
        go_simp
        go_at_call 62
        refine (told_any _ _).mono ?_
        rintro e w5 ⟨b1, rfl, n5, rfl⟩
        refine hK _ _ ?_
        clear hK K
        refine wpAny_take (i := 37) (v := ?_) rfl (by kernel_rfl) (by kernel_rfl) (by kernel_rfl) (fun _ _ _ h => h) (Or.inl ⟨by kernel_rfl, ?_⟩) ?_
        rotate_left
        · intro w; go_simp; with_reducible rfl
        refine wpAny_take (i := 38) (v := ?_) rfl (by kernel_rfl) (by kernel_rfl) (by kernel_rfl) (fun _ _ _ h => h) (Or.inl ⟨by kernel_rfl, ?_⟩) ?_
        rotate_left
        · intro w; go_simp; with_reducible rfl
        refine wpAny_done (by kernel_rfl) ?_ _
        cases b1
        · go_wp2
          go_ret
          exact ⟨_, rfl, (fun h => by cases h), below_drewN hbr' _⟩
        · go_wp2
          go_loopw [6] (fun i wr => ∃ j : Nat, j ≤ r.right.length ∧ i = .int .i64 j ∧ (∀ i, i < j → SymOk tl vl (r.right.getD i 0)) ∧ ∃ m, wr = w1.drewN m) (fun i _ => r.right.length - (intOf i).toNat)
          case atStart => exact ⟨0, Nat.zero_le _, rfl, fun i hi => absurd hi (Nat.not_lt_zero _), 1 + n5, rfl⟩
          case round =>
            obtain ⟨j, hj, rfl, hal, m, rfl⟩ := hrel
            have HAL := Lib.hid hal
            clear hal
            by_cases hlt : j < r.right.length
            · obtain ⟨a2, rfl, hab2, hc2⟩ := H7.out j hlt
              have hc2' := (hbr.cell (p := a2.add j) (by rw [add_block]; omega)).trans hc2
              have hy := g8 (r.right.getD j 0) (by rw [List.getD_eq_getElem?_getD, List.getElem?_eq_getElem hlt]; simp)
              have hx := cm_if (r.right.getD j 0) hy
              have hx2 := cm_any (r.right.getD j 0) hy
              clear hc2 hy
              obtain ⟨y, hyy⟩ : ∃ y, y = r.right.getD j 0 := ⟨_, rfl⟩
              rw [← hyy] at hc2' hx hx2
              have HYY := Lib.hid hyy
              clear hyy
              by_cases q1 : (vl : Int) ≤ y
              · go_wp2
                all_goals go_ret
                all_goals exact ⟨_, rfl, (fun h => by cases h), below_drewN hbr' _⟩
              · by_cases q2 : y < 0
                · by_cases q3 : (tl : Int) ≤ -1 - y
                  · go_wp2
                    all_goals go_ret
                    all_goals exact ⟨_, rfl, (fun h => by cases h), below_drewN hbr' _⟩
                  · go_wp2
                    exact ⟨⟨j + 1, hlt, congrArg (Value.int .i64) (by omega), sym_more HAL.out HYY.out ⟨by omega, by omega⟩, m, rfl⟩, by simp only [intOf]; omega⟩
                · go_wp2
                  exact ⟨⟨j + 1, hlt, congrArg (Value.int .i64) (by omega), sym_more HAL.out HYY.out ⟨by omega, by omega⟩, m, rfl⟩, by simp only [intOf]; omega⟩
            · obtain rfl : j = r.right.length := by omega
              have hfin : ∀ r', R[0]? = some r' → RlOk tl vl r' := fun r' hr' => by
                cases hrk.symm.trans hr'
                exact ⟨by omega, by omega, sym_all rfl HAL.out⟩
              have HFIN := Lib.hid hfin
              clear hfin
              go_wp2
              go_loopw [8] (fun i wr => ∃ j : Nat, j ≤ 0 ∧ i = .int .i64 j ∧ ∃ m, wr = w1.drewN m) (fun i _ => 0 - (intOf i).toNat)
              case atStart => exact ⟨0, Nat.zero_le _, rfl, m, rfl⟩
              case round =>
                obtain ⟨j, hj, rfl, m2, rfl⟩ := hrel
                by_cases hlt : j < 0
                · exact absurd hlt (Nat.not_lt_zero _)
                · obtain rfl : j = 0 := by omega
                  go_wp2
                  go_ret
                  exact ⟨_, rfl, (fun _ => HFIN.out), below_drewN hbr' _⟩
      | succ k =>
        obtain ⟨a3, r3, ao3, cap3, ea3, hab3, hrk3, p1, _⟩ := HR1.out.at k (by omega)
        cases ea3
        by_cases c3 : r.left < r3.left
        · have c3' := decide_eq_true c3
          go_quiet (fail)
          go_wp2
          go_ret
          exact ⟨_, rfl, (fun h => by cases h), below_drewN hbr' _⟩
        · have c3' := decide_eq_false c3
          have c4 : (decide ((24 : Int) < (r.right.length : Int))) = false := decide_eq_false (by omega)
          have hwk : IntKind.i64.wrap (k : Int) = (k : Int) := by rw [IntKind.wrap_i64]; omega
          have hkb : 0 ≤ (k : Int) ∧ (k : Int) < (R.length : Int) := ⟨by omega, by omega⟩
          refine wp_region_any (by kernel_rfl) ?_
          change wpAny _ _ _ _ _ _ _ (World.drew _)
          refine wpAny_take (i := 0) (v := ?_) rfl (by kernel_rfl) (by kernel_rfl) (by kernel_rfl) (fun _ _ _ h => h) (Or.inl ⟨by kernel_rfl, ?_⟩) ?_
          rotate_left
          · intro w; go_simp; with_reducible rfl
          refine wpAny_ready (rs := [1]) (by kernel_rfl) (by simp) ?_
          refine AllReady.cons rfl (fun K hK => ?_) AllReady.nil
          go_simp
          refine hK _ _ ?_
          clear hK K
          refine wpAny_take (i := 2) (v := ?_) rfl (by kernel_rfl) (by kernel_rfl) (by kernel_rfl) (fun _ _ _ h => h) (Or.inl ⟨by kernel_rfl, ?_⟩) ?_
          rotate_left
          · intro w; go_simp; with_reducible rfl
          refine wpAny_take (i := 3) (v := ?_) rfl (by kernel_rfl) (by kernel_rfl) (by kernel_rfl) (fun _ _ _ h => h) (Or.inl ⟨by kernel_rfl, ?_⟩) ?_
          rotate_left
          · intro w; go_simp; with_reducible rfl
          refine wpAny_take (i := 4) (v := ?_) rfl (by kernel_rfl) (by kernel_rfl) (by kernel_rfl) (fun _ _ _ h => h) (Or.inl ⟨by kernel_rfl, ?_⟩) ?_
          rotate_left
          · intro w; go_simp; with_reducible rfl
          refine wpAny_take (i := 6) (v := ?_) rfl (by kernel_rfl) (by kernel_rfl) (by kernel_rfl) (fun _ _ _ h => h) (Or.inl ⟨by kernel_rfl, ?_⟩) ?_
          rotate_left
          · intro w; go_simp; with_reducible rfl
          apply later
          · intro hG
            refine wpAny_ready (rs := [5, 7]) (by kernel_rfl) (by simp) ?_
            refine AllReady.cons rfl (fun K hK => ?_) (AllReady.cons rfl (fun K hK => ?_) AllReady.nil)
            · go_simp
              refine hK _ _ ?_
              clear hK K
              refine wpAny_ready (rs := [7]) (by kernel_rfl) (by simp) ?_
              refine AllReady.cons rfl (fun K hK => ?_) AllReady.nil
              · go_simp
                refine hK _ _ ?_
                clear hK K
                refine wpAny_take (i := 8) (v := ?_) rfl (by kernel_rfl) (by kernel_rfl) (by kernel_rfl) (fun _ _ _ h => h) (Or.inl ⟨by kernel_rfl, ?_⟩) ?_
                rotate_left
                · intro w; go_simp; with_reducible rfl
                refine wpAny_take (i := 9) (v := ?_) rfl (by kernel_rfl) (by kernel_rfl) (by kernel_rfl) (fun _ _ _ h => h) (Or.inl ⟨by kernel_rfl, ?_⟩) ?_
                rotate_left
                · intro w; go_simp; with_reducible rfl
                exact hG
            · go_simp
              refine hK _ _ ?_
              clear hK K
              refine wpAny_take (i := 8) (v := ?_) rfl (by kernel_rfl) (by kernel_rfl) (by kernel_rfl) (fun _ _ _ h => h) (Or.inl ⟨by kernel_rfl, ?_⟩) ?_
              rotate_left
              · intro w; go_simp; with_reducible rfl
              refine wpAny_ready (rs := [5]) (by kernel_rfl) (by simp) ?_
              refine AllReady.cons rfl (fun K hK => ?_) AllReady.nil
              · go_simp
                refine hK _ _ ?_
                clear hK K
                refine wpAny_take (i := 9) (v := ?_) rfl (by kernel_rfl) (by kernel_rfl) (by kernel_rfl) (fun _ _ _ h => h) (Or.inl ⟨by kernel_rfl, ?_⟩) ?_
                rotate_left
                · intro w; go_simp; with_reducible rfl
                exact hG
          refine wpAny_take (i := 10) (v := ?_) rfl (by kernel_rfl) (by kernel_rfl) (by kernel_rfl) (fun _ _ _ h => h) (Or.inl ⟨by kernel_rfl, ?_⟩) ?_
          rotate_left
          · intro w; go_simp; with_reducible rfl
          refine wpAny_take (i := 11) (v := ?_) rfl (by kernel_rfl) (by kernel_rfl) (by kernel_rfl) (fun _ _ _ h => h) (Or.inl ⟨by kernel_rfl, ?_⟩) ?_
          rotate_left
          · intro w; go_simp; with_reducible rfl
          refine wpAny_take (i := 12) (v := ?_) rfl (by kernel_rfl) (by kernel_rfl) (by kernel_rfl) (fun _ _ _ h => h) (Or.inl ⟨by kernel_rfl, ?_⟩) ?_
          rotate_left
          · intro w; go_simp; with_reducible rfl
          refine wpAny_take (i := 13) (v := ?_) rfl (by kernel_rfl) (by kernel_rfl) (by kernel_rfl) (fun _ _ _ h => h) (Or.inl ⟨by kernel_rfl, ?_⟩) ?_
          rotate_left
          · intro w; go_simp; with_reducible rfl
          refine wpAny_take (i := 14) (v := ?_) rfl (by kernel_rfl) (by kernel_rfl) (by kernel_rfl) (fun _ _ _ h => h) (Or.inl ⟨by kernel_rfl, ?_⟩) ?_
          rotate_left
          · intro w; go_simp; with_reducible rfl
          refine wpAny_take (i := 15) (v := ?_) rfl (by kernel_rfl) (by kernel_rfl) (by kernel_rfl) (fun _ _ _ h => h) (Or.inl ⟨by kernel_rfl, ?_⟩) ?_
          rotate_left
          · intro w; go_simp; with_reducible rfl
          refine wpAny_take (i := 17) (v := ?_) rfl (by kernel_rfl) (by kernel_rfl) (by kernel_rfl) (fun _ _ _ h => h) (Or.inl ⟨by kernel_rfl, ?_⟩) ?_
          rotate_left
          · intro w; go_simp; with_reducible rfl
          refine wpAny_take (i := 18) (v := ?_) rfl (by kernel_rfl) (by kernel_rfl) (by kernel_rfl) (fun _ _ _ h => h) (Or.inl ⟨by kernel_rfl, ?_⟩) ?_
          rotate_left
          · intro w; go_simp; with_reducible rfl
          refine wpAny_take (i := 22) (v := ?_) rfl (by kernel_rfl) (by kernel_rfl) (by kernel_rfl) (fun _ _ _ h => h) (Or.inl ⟨by kernel_rfl, ?_⟩) ?_
          rotate_left
          · intro w; go_simp; with_reducible rfl
          apply later
          · intro hG
            refine wpAny_ready (rs := [16, 23]) (by kernel_rfl) (by simp) ?_
            refine AllReady.cons rfl (fun K hK => ?_) (AllReady.cons rfl (fun K hK => ?_) AllReady.nil)
            · go_simp
              refine hK _ _ ?_
              clear hK K
              refine wpAny_take (i := 19) (v := ?_) rfl (by kernel_rfl) (by kernel_rfl) (by kernel_rfl) (fun _ _ _ h => h) (Or.inl ⟨by kernel_rfl, ?_⟩) ?_
              rotate_left
              · intro w; go_simp; with_reducible rfl
              refine wpAny_take (i := 20) (v := ?_) rfl (by kernel_rfl) (by kernel_rfl) (by kernel_rfl) (fun _ _ _ h => h) (Or.inl ⟨by kernel_rfl, ?_⟩) ?_
              rotate_left
              · intro w; go_simp; with_reducible rfl
              refine wpAny_ready (rs := [21, 23]) (by kernel_rfl) (by simp) ?_
              refine AllReady.cons rfl (fun K hK => ?_) (AllReady.cons rfl (fun K hK => ?_) AllReady.nil)
              · go_simp
                refine hK _ _ ?_
                clear hK K
                refine wpAny_ready (rs := [23]) (by kernel_rfl) (by simp) ?_
                refine AllReady.cons rfl (fun K hK => ?_) AllReady.nil
                · go_simp
                  refine hK _ _ ?_
                  clear hK K
                  exact hG
              · go_simp
                refine hK _ _ ?_
                clear hK K
                refine wpAny_ready (rs := [21]) (by kernel_rfl) (by simp) ?_
                refine AllReady.cons rfl (fun K hK => ?_) AllReady.nil
                · go_simp
                  refine hK _ _ ?_
                  clear hK K
                  exact hG
            · go_simp
              refine hK _ _ ?_
              clear hK K
              refine wpAny_ready (rs := [16]) (by kernel_rfl) (by simp) ?_
              refine AllReady.cons rfl (fun K hK => ?_) AllReady.nil
              · go_simp
                refine hK _ _ ?_
                clear hK K
                refine wpAny_take (i := 19) (v := ?_) rfl (by kernel_rfl) (by kernel_rfl) (by kernel_rfl) (fun _ _ _ h => h) (Or.inl ⟨by kernel_rfl, ?_⟩) ?_
                rotate_left
                · intro w; go_simp; with_reducible rfl
                refine wpAny_take (i := 20) (v := ?_) rfl (by kernel_rfl) (by kernel_rfl) (by kernel_rfl) (fun _ _ _ h => h) (Or.inl ⟨by kernel_rfl, ?_⟩) ?_
                rotate_left
                · intro w; go_simp; with_reducible rfl
                refine wpAny_ready (rs := [21]) (by kernel_rfl) (by simp) ?_
                refine AllReady.cons rfl (fun K hK => ?_) AllReady.nil
                · go_simp
                  refine hK _ _ ?_
                  clear hK K
                  exact hG
          refine wpAny_take (i := 24) (v := ?_) rfl (by kernel_rfl) (by kernel_rfl) (by kernel_rfl) (fun _ _ _ h => h) (Or.inl ⟨by kernel_rfl, ?_⟩) ?_
          rotate_left
          · intro w; go_simp; with_reducible rfl
          refine wpAny_take (i := 25) (v := ?_) rfl (by kernel_rfl) (by kernel_rfl) (by kernel_rfl) (fun _ _ _ h => h) (Or.inl ⟨by kernel_rfl, ?_⟩) ?_
          rotate_left
          · intro w; go_simp; with_reducible rfl
          refine wpAny_take (i := 26) (v := ?_) rfl (by kernel_rfl) (by kernel_rfl) (by kernel_rfl) (fun _ _ _ h => h) (Or.inl ⟨by kernel_rfl, ?_⟩) ?_
          rotate_left
          · intro w; go_simp; with_reducible rfl
          refine wpAny_take (i := 27) (v := ?_) rfl (by kernel_rfl) (by kernel_rfl) (by kernel_rfl) (fun _ _ _ h => h) (Or.inl ⟨by kernel_rfl, ?_⟩) ?_
          rotate_left
          · intro w; go_simp; with_reducible rfl
          refine wpAny_take (i := 28) (v := ?_) rfl (by kernel_rfl) (by kernel_rfl) (by kernel_rfl) (fun _ _ _ h => h) (Or.inl ⟨by kernel_rfl, ?_⟩) ?_
          rotate_left
          · intro w; go_simp; with_reducible rfl
          refine wpAny_ready (rs := [29]) (by kernel_rfl) (by simp) ?_
          refine AllReady.cons rfl (fun K hK => ?_) AllReady.nil
          go_simp
          refine hK _ _ ?_
          clear hK K
          refine wpAny_take (i := 30) (v := ?_) rfl (by kernel_rfl) (by kernel_rfl) (by kernel_rfl) (fun _ _ _ h => h) (Or.inl ⟨by kernel_rfl, ?_⟩) ?_
          rotate_left
          · intro w; go_simp; with_reducible rfl
          refine wpAny_take (i := 31) (v := ?_) rfl (by kernel_rfl) (by kernel_rfl) (by kernel_rfl) (fun _ _ _ h => h) (Or.inl ⟨by kernel_rfl, ?_⟩) ?_
          rotate_left
          · intro w; go_simp; with_reducible rfl
          refine wpAny_take (i := 32) (v := ?_) rfl (by kernel_rfl) (by kernel_rfl) (by kernel_rfl) (fun _ _ _ h => h) (Or.inl ⟨by kernel_rfl, ?_⟩) ?_
          rotate_left
          · intro w; go_simp; with_reducible rfl
          refine wpAny_take (i := 33) (v := ?_) rfl (by kernel_rfl) (by kernel_rfl) (by kernel_rfl) (fun _ _ _ h => h) (Or.inl ⟨by kernel_rfl, ?_⟩) ?_
          rotate_left
          · intro w; go_simp; with_reducible rfl
          refine wpAny_take (i := 34) (v := ?_) rfl (by kernel_rfl) (by kernel_rfl) (by kernel_rfl) (fun _ _ _ h => h) (Or.inl ⟨by kernel_rfl, ?_⟩) ?_
          rotate_left
          · intro w; go_simp; with_reducible rfl
          refine wpAny_ready (rs := [35]) (by kernel_rfl) (by simp) ?_
          refine AllReady.cons rfl (fun K hK => ?_) AllReady.nil
          go_simp
          refine hK _ _ ?_
          clear hK K
          refine wpAny_ready (rs := [36]) (by kernel_rfl) (by simp) ?_
          refine AllReady.cons rfl (fun K hK => ?_) AllReady.nil
          go_simp
          go_at_call 62
          refine (told_any _ _).mono ?_
          rintro e w5 ⟨b1, rfl, n5, rfl⟩
          refine hK _ _ ?_
          clear hK K
          refine wpAny_take (i := 37) (v := ?_) rfl (by kernel_rfl) (by kernel_rfl) (by kernel_rfl) (fun _ _ _ h => h) (Or.inl ⟨by kernel_rfl, ?_⟩) ?_
          rotate_left
          · intro w; go_simp; with_reducible rfl
          refine wpAny_take (i := 38) (v := ?_) rfl (by kernel_rfl) (by kernel_rfl) (by kernel_rfl) (fun _ _ _ h => h) (Or.inl ⟨by kernel_rfl, ?_⟩) ?_
          rotate_left
          · intro w; go_simp; with_reducible rfl
          refine wpAny_done (by kernel_rfl) ?_ _
          cases b1
          · go_wp2
            go_ret
            exact ⟨_, rfl, (fun h => by cases h), below_drewN hbr' _⟩
          · go_wp2
            go_loopw [6] (fun i wr => ∃ j : Nat, j ≤ r.right.length ∧ i = .int .i64 j ∧ (∀ i, i < j → SymOk tl vl (r.right.getD i 0)) ∧ ∃ m, wr = w1.drewN m) (fun i _ => r.right.length - (intOf i).toNat)
            case atStart => exact ⟨0, Nat.zero_le _, rfl, fun i hi => absurd hi (Nat.not_lt_zero _), 1 + n5, rfl⟩
            case round =>
              obtain ⟨j, hj, rfl, hal, m, rfl⟩ := hrel
              have HAL := Lib.hid hal
              clear hal
              by_cases hlt : j < r.right.length
              · obtain ⟨a2, rfl, hab2, hc2⟩ := H7.out j hlt
                have hc2' := (hbr.cell (p := a2.add j) (by rw [add_block]; omega)).trans hc2
                have hy := g8 (r.right.getD j 0) (by rw [List.getD_eq_getElem?_getD, List.getElem?_eq_getElem hlt]; simp)
                have hx := cm_if (r.right.getD j 0) hy
                have hx2 := cm_any (r.right.getD j 0) hy
                clear hc2 hy
                obtain ⟨y, hyy⟩ : ∃ y, y = r.right.getD j 0 := ⟨_, rfl⟩
                rw [← hyy] at hc2' hx hx2
                have HYY := Lib.hid hyy
                clear hyy
                by_cases q1 : (vl : Int) ≤ y
                · go_wp2
                  all_goals go_ret
                  all_goals exact ⟨_, rfl, (fun h => by cases h), below_drewN hbr' _⟩
                · by_cases q2 : y < 0
                  · by_cases q3 : (tl : Int) ≤ -1 - y
                    · go_wp2
                      all_goals go_ret
                      all_goals exact ⟨_, rfl, (fun h => by cases h), below_drewN hbr' _⟩
                    · go_wp2
                      exact ⟨⟨j + 1, hlt, congrArg (Value.int .i64) (by omega), sym_more HAL.out HYY.out ⟨by omega, by omega⟩, m, rfl⟩, by simp only [intOf]; omega⟩
                  · go_wp2
                    exact ⟨⟨j + 1, hlt, congrArg (Value.int .i64) (by omega), sym_more HAL.out HYY.out ⟨by omega, by omega⟩, m, rfl⟩, by simp only [intOf]; omega⟩
              · obtain rfl : j = r.right.length := by omega
                have hfin : ∀ r', R[k + 1]? = some r' → RlOk tl vl r' := fun r' hr' => by
                  cases hrk.symm.trans hr'
                  exact ⟨by omega, by omega, sym_all rfl HAL.out⟩
                have HFIN := Lib.hid hfin
                clear hfin
                go_wp2
                go_loopw [8] (fun i wr => ∃ j : Nat, j ≤ (k + 1) ∧ i = .int .i64 j ∧ ∃ m, wr = w1.drewN m) (fun i _ => (k + 1) - (intOf i).toNat)
                case atStart => exact ⟨0, Nat.zero_le _, rfl, m, rfl⟩
                case round =>
                  obtain ⟨j, hj, rfl, m2, rfl⟩ := hrel
                  by_cases hlt : j < (k + 1)
                  · obtain ⟨a4, r4, ao4, cap4, ea4, hab4, hrk4, s1, s2, s3, s4, s5, s6, s7, s8, s9⟩ := HR1.out.at j (by omega)
                    cases ea4
                    by_cases hle : r4.left = r.left
                    · have hw1 : WordAt w1 (.slice ao4 r4.right.length cap4) r4.right := ⟨ao4, cap4, rfl, s8, fun i hi => by obtain ⟨a5, e5, hab5, hc5⟩ := s7 i hi; exact ⟨a5, e5, by have := hbr'.size; omega, hc5⟩⟩
                      have hw2 : WordAt w1 (.slice ao r.right.length cap) r.right := ⟨ao, cap, rfl, g8, fun i hi => by obtain ⟨a5, e5, hab5, hc5⟩ := H7.out i hi; exact ⟨a5, e5, by have := hbr'.size; omega, (hbr.cell (p := a5.add i) (by rw [add_block]; omega)).trans hc5⟩⟩
                      have h84 := h8 r4 (List.mem_of_getElem? hrk4)
                      have hsm : ∀ x, Calls Tryz.prog 10 #[.slice ao4 r4.right.length cap4, .slice ao r.right.length cap] (w1.drewN (m2 + x)) fun e w' => e = .returned (.bool (decide (r4.right = r.right))) ∧ ∃ n, w' = w1.drewN (m2 + n) := fun x => (rsame_any (w1.drewN (m2 + x)) _ _ _ _ hw1 hw2 (by omega) (by omega)).mono fun _ _ ⟨he, m', hm⟩ => ⟨he, x + m', by rw [hm, drewN_add, Nat.add_assoc]⟩
                      have HSM := Lib.hid hsm
                      clear hsm hw1 hw2 s7 s8 s9
                      rw [hle] at s1
                      go_wp2
                      go_quiet ((go_at_call 10; exact HSM.out _))
                      cases hd : decide (r4.right = r.right)
                      · go_wp2
                        exact ⟨⟨j + 1, hlt, congrArg (Value.int .i64) (by omega), _, rfl⟩, by simp only [intOf]; omega⟩
                      · go_wp2
                        go_ret
                        first | exact ⟨_, rfl, (fun h => by cases h), below_drewN hbr' _⟩ | exact ⟨_, rfl, (fun h => by cases h), below_drewN (below_drewN hbr' _) _⟩
                    · have c5 : (r4.left == r.left) = false := by rw [beq_eq_false_iff_ne]; exact hle
                      go_wp2
                      go_quiet (fail)
                      go_wp2
                      exact ⟨⟨j + 1, hlt, congrArg (Value.int .i64) (by omega), _, rfl⟩, by simp only [intOf]; omega⟩
                  · obtain rfl : j = (k + 1) := by omega
                    go_wp2
                    go_ret
                    exact ⟨_, rfl, (fun _ => HFIN.out), below_drewN hbr' _⟩
end Go.Proofs.YtomikgkoegkofaaGreatDoor.dv
