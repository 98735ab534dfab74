import Derived.Deep.Slices
import Derived.Deep.Fields
import Derived.ChangeSame
import Derived.Lib.SmallJoins
import Derived.SliceStrings
import Derived.Test.YtljkobijoenabaaMg
namespace Go.Proofs.Ytljkobijoenabaa.dv
open Go.ChangeShapes Go.WideShapes Go.ChangeAt Go.RowKit Go.Maps Go.WideMaps Go.WideElems
set_option linter.unusedVariables false
set_option linter.unusedSimpArgs false
/-! whether a rule may be: it is answered -/

theorem later {T G : Prop} (f : T → G) (t : T) : G := f t
def Ans (w : World) : Ending → World → Prop := fun e w' => ∃ b, e = .returned (.bool b) ∧ Below w.heap.size w w'
def AnsIf (P : Prop) (w : World) : Ending → World → Prop := fun e w' => ∃ b, e = .returned (.bool b) ∧ (b = true → P) ∧ Below w.heap.size w w'
def SymOk (tl vl : Nat) (s : Int) : Prop := s < vl ∧ -1 - s < tl
def RlOk (tl vl : Nat) (r : Rl) : Prop := 0 ≤ r.left ∧ r.left < vl ∧ ∀ s ∈ r.right, SymOk tl vl s
theorem ans_of {P : Prop} {w : World} {e : Ending} {w' : World} (h : AnsIf P w e w') : Ans w e w' := by
  obtain ⟨b, h1, _, h2⟩ := h
  exact ⟨b, h1, h2⟩
theorem sym_all {tl vl : Nat} {F : List Int} {n : Nat} (hn : n = F.length) (h : ∀ i, i < n → SymOk tl vl (F.getD i 0)) : ∀ s ∈ F, SymOk tl vl s := fun s hs => by
  obtain ⟨i, hi, rfl⟩ := List.mem_iff_getElem.1 hs
  have := h i (by omega)
  rwa [List.getD_eq_getElem?_getD, List.getElem?_eq_getElem hi] at this
theorem sym_more {tl vl : Nat} {F : List Int} {j : Nat} {y : Int} (h : ∀ i, i < j → SymOk tl vl (F.getD i 0)) (hy : y = F.getD j 0) (hs : SymOk tl vl y) : ∀ i, i < j + 1 → SymOk tl vl (F.getD i 0) := fun i hi => by
  rcases Nat.lt_or_ge i j with h1 | h1
  · exact h i h1
  · obtain rfl : i = j := by omega
    rw [← hy]; exact hs
theorem run_store_float (P : Program) (w : World) (a : Addr) (m : Mode) (k : FloatKind) (b : Nat) : (store a (.float k b) m).run P w = stored P w a (.float k b) m := run_store P w a _ m rfl
attribute [local go_sem] run_store_float

set_option maxRecDepth 100000 in
set_option maxHeartbeats 0 in
theorem rule_any (w : World) (B : Nat) (ta va ra : Option Addr) (tl tc vl vc rc : Nat) (R : List Rl) (k : Nat) (hk : k < R.length) (hR : RulesAt B w (.slice ra R.length rc) R) (hB : B ≤ w.heap.size) (hn : R.length ≤ 24) (ht : tl ≤ 6) (hv : vl ≤ 8) (h8 : ∀ r ∈ R, r.right.length ≤ 8) :
    Calls Try.prog 41 #[.agg #[.slice ta tl tc, .slice va vl vc, .slice ra R.length rc], .int .i64 k] w (AnsIf (∀ r', R[k]? = some r' → RlOk tl vl r') w) := by
  have b0 := Blk.new w 25 #[.slice ta tl tc, .slice va vl vc, .slice ra R.length rc]
  have hbl : Below w.heap.size w (w.alloc (.cells #[.slice ta tl tc, .slice va vl vc, .slice ra R.length rc] 25)) := below_lit _ _ _
  have hR1 := hR.below (hbl.mono hB)
  generalize hW0 : w.alloc (.cells #[.slice ta tl tc, .slice va vl vc, .slice ra R.length rc] 25) = w0 at *
  have hz0 : w0.heap.size = w.heap.size + 1 := by rw [← hW0]; simp
  have d2 := b0.cell 2
  simp only [List.getElem?_toArray, List.getElem?_cons_zero, List.getElem?_cons_succ] at d2
  obtain ⟨a, r, ao, cap, rfl, hab, hrk, g1, g2, g3, g4, g5, g6, g7, g8, g9⟩ := hR1.at k hk
  have hr8 := h8 r (List.mem_of_getElem? hrk)
  have br := Blk.new w0 52 #[.int .i64 r.left, .slice ao r.right.length cap, .float .f64 r.wt]
  have bg := b0.alloc (.cells #[.int .i64 r.left, .slice ao r.right.length cap, .float .f64 r.wt] 52)
  have hbr : Below w0.heap.size w0 (w0.alloc (.cells #[.int .i64 r.left, .slice ao r.right.length cap, .float .f64 r.wt] 52)) := below_lit _ _ _
  rw [hz0] at br
  have hbr' : Below w.heap.size w (w0.alloc (.cells #[.int .i64 r.left, .slice ao r.right.length cap, .float .f64 r.wt] 52)) := hbl.trans (hbr.mono (by omega))
  have hR2 := hR1.below (hbr.mono (by omega))
  have HR1 := Lib.hid hR2
  have H7 := Lib.hid g7
  clear hR hR1 hR2 g7
  go_enter Try.func41, Try.ntmps41
  go_wp2
  generalize hW1 : w0.alloc (.cells #[.int .i64 r.left, .slice ao r.right.length cap, .float .f64 r.wt] 52) = w1 at *
  have x0 := br.cell 0
  have x1 := br.cell 1
  have x2 := br.cell 2
  have e0 := bg.cell 0
  have e1 := bg.cell 1
  have e2 := bg.cell 2
  simp only [List.getElem?_toArray, List.getElem?_cons_zero, List.getElem?_cons_succ] at x0
  simp only [List.getElem?_toArray, List.getElem?_cons_zero, List.getElem?_cons_succ] at x1
  simp only [List.getElem?_toArray, List.getElem?_cons_zero, List.getElem?_cons_succ] at x2
  simp only [List.getElem?_toArray, List.getElem?_cons_zero, List.getElem?_cons_succ] at e0
  simp only [List.getElem?_toArray, List.getElem?_cons_zero, List.getElem?_cons_succ] at e1
  simp only [List.getElem?_toArray, List.getElem?_cons_zero, List.getElem?_cons_succ] at e2
  by_cases c1 : r.left < 0
  · have c1' := decide_eq_true c1
    go_quiet (fail)
    go_wp2
    go_ret
    exact ⟨_, rfl, (fun h => by cases h), below_drewN hbr' _⟩
  · have c1' := decide_eq_false c1
    by_cases c2 : (vl : Int) ≤ r.left
    · have c2' := decide_eq_true c2
      go_quiet (fail)
      go_wp2
      go_ret
      exact ⟨_, rfl, (fun h => by cases h), below_drewN hbr' _⟩
    · have c2' := decide_eq_false c2
      cases k with
      | zero =>
        have c3' : decide ((0 : Int) < ((0 : Nat) : Int)) = false := rfl
        have c4 : (decide ((24 : Int) < (r.right.length : Int))) = false := decide_eq_false (by omega)
        refine wp_region_any (by kernel_rfl) ?_
        change wpAny _ _ _ _ _ _ _ (World.drew _)
        refine wpAny_take (i := 0) (v := ?_) rfl (by kernel_rfl) (by kernel_rfl) (by kernel_rfl) (fun _ _ _ h => h) (Or.inl ⟨by kernel_rfl, ?_⟩) ?_
        rotate_left
        · intro w; go_simp; with_reducible rfl
        refine wpAny_ready (rs := [1]) (by kernel_rfl) (by simp) ?_
        refine AllReady.cons rfl (fun K hK => ?_) AllReady.nil
        go_simp
        refine hK _ _ ?_
        clear hK K
        refine wpAny_take (i := 2) (v := ?_) rfl (by kernel_rfl) (by kernel_rfl) (by kernel_rfl) (fun _ _ _ h => h) (Or.inl ⟨by kernel_rfl, ?_⟩) ?_
        rotate_left
        · intro w; go_simp; with_reducible rfl
        refine wpAny_take (i := 3) (v := ?_) rfl (by kernel_rfl) (by kernel_rfl) (by kernel_rfl) (fun _ _ _ h => h) (Or.inl ⟨by kernel_rfl, ?_⟩) ?_
        rotate_left
        · intro w; go_simp; with_reducible rfl
        refine wpAny_take (i := 4) (v := ?_) rfl (by kernel_rfl) (by kernel_rfl) (by kernel_rfl) (fun _ _ _ h => h) (Or.inl ⟨by kernel_rfl, ?_⟩) ?_
        rotate_left
        · intro w; go_simp; with_reducible rfl
        refine wpAny_take (i := 6) (v := ?_) rfl (by kernel_rfl) (by kernel_rfl) (by kernel_rfl) (fun _ _ _ h => h) (Or.inl ⟨by kernel_rfl, ?_⟩) ?_
        rotate_left
        · intro w; go_simp; with_reducible rfl
        apply later
        · intro hG
          refine wpAny_ready (rs := [5, 7]) (by kernel_rfl) (by simp) ?_
          refine AllReady.cons rfl (fun K hK => ?_) (AllReady.cons rfl (fun K hK => ?_) AllReady.nil)
          · go_simp
            refine hK _ _ ?_
            clear hK K
            refine wpAny_ready (rs := [7]) (by kernel_rfl) (by simp) ?_
            refine AllReady.cons rfl (fun K hK => ?_) AllReady.nil
            · go_simp
              refine hK _ _ ?_
              clear hK K
              refine wpAny_take (i := 8) (v := ?_) rfl (by kernel_rfl) (by kernel_rfl) (by kernel_rfl) (fun _ _ _ h => h) (Or.inl ⟨by kernel_rfl, ?_⟩) ?_
              rotate_left
              · intro w; go_simp; with_reducible rfl
              refine wpAny_take (i := 9) (v := ?_) rfl (by kernel_rfl) (by kernel_rfl) (by kernel_rfl) (fun _ _ _ h => h) (Or.inl ⟨by kernel_rfl, ?_⟩) ?_
              rotate_left
              · intro w; go_simp; with_reducible rfl
              exact hG
          · go_simp
            refine hK _ _ ?_
            clear hK K
            refine wpAny_take (i := 8) (v := ?_) rfl (by kernel_rfl) (by kernel_rfl) (by kernel_rfl) (fun _ _ _ h => h) (Or.inl ⟨by kernel_rfl, ?_⟩) ?_
            rotate_left
            · intro w; go_simp; with_reducible rfl
            refine wpAny_ready (rs := [5]) (by kernel_rfl) (by simp) ?_
            refine AllReady.cons rfl (fun K hK => ?_) AllReady.nil
            · go_simp
              refine hK _ _ ?_
              clear hK K
              refine wpAny_take (i := 9) (v := ?_) rfl (by kernel_rfl) (by kernel_rfl) (by kernel_rfl) (fun _ _ _ h => h) (Or.inl ⟨by kernel_rfl, ?_⟩) ?_
              rotate_left
              · intro w; go_simp; with_reducible rfl
              exact hG
        refine wpAny_take (i := 10) (v := ?_) rfl (by kernel_rfl) (by kernel_rfl) (by kernel_rfl) (fun _ _ _ h => h) (Or.inl ⟨by kernel_rfl, ?_⟩) ?_
        rotate_left
        · intro w; go_simp; with_reducible rfl
        refine wpAny_take (i := 11) (v := ?_) rfl (by kernel_rfl) (by kernel_rfl) (by kernel_rfl) (fun _ _ _ h => h) (Or.inl ⟨by kernel_rfl, ?_⟩) ?_
        rotate_left
        · intro w; go_simp; with_reducible rfl
        refine wpAny_take (i := 12) (v := ?_) rfl (by kernel_rfl) (by kernel_rfl) (by kernel_rfl) (fun _ _ _ h => h) (Or.inl ⟨by kernel_rfl, ?_⟩) ?_
        rotate_left
        · intro w; go_simp; with_reducible rfl
        refine wpAny_take (i := 13) (v := ?_) rfl (by kernel_rfl) (by kernel_rfl) (by kernel_rfl) (fun _ _ _ h => h) (Or.inl ⟨by kernel_rfl, ?_⟩) ?_
        rotate_left
        · intro w; go_simp; with_reducible rfl
        refine wpAny_take (i := 14) (v := ?_) rfl (by kernel_rfl) (by kernel_rfl) (by kernel_rfl) (fun _ _ _ h => h) (Or.inl ⟨by kernel_rfl, ?_⟩) ?_
        rotate_left
        · intro w; go_simp; with_reducible rfl
        refine wpAny_take (i := 15) (v := undef) rfl (by kernel_rfl) (by kernel_rfl) (by kernel_rfl) (fun _ _ _ h => h) (Or.inr ⟨by kernel_rfl, rfl⟩) ?_
        refine wpAny_take (i := 16) (v := undef) rfl (by kernel_rfl) (by kernel_rfl) (by kernel_rfl) (fun _ _ _ h => h) (Or.inr ⟨by kernel_rfl, rfl⟩) ?_
        refine wpAny_take (i := 17) (v := undef) rfl (by kernel_rfl) (by kernel_rfl) (by kernel_rfl) (fun _ _ _ h => h) (Or.inr ⟨by kernel_rfl, rfl⟩) ?_
        refine wpAny_take (i := 18) (v := undef) rfl (by kernel_rfl) (by kernel_rfl) (by kernel_rfl) (fun _ _ _ h => h) (Or.inr ⟨by kernel_rfl, rfl⟩) ?_
        refine wpAny_take (i := 19) (v := undef) rfl (by kernel_rfl) (by kernel_rfl) (by kernel_rfl) (fun _ _ _ h => h) (Or.inr ⟨by kernel_rfl, rfl⟩) ?_
        refine wpAny_take (i := 20) (v := undef) rfl (by kernel_rfl) (by kernel_rfl) (by kernel_rfl) (fun _ _ _ h => h) (Or.inr ⟨by kernel_rfl, rfl⟩) ?_
        refine wpAny_take (i := 21) (v := undef) rfl (by kernel_rfl) (by kernel_rfl) (by kernel_rfl) (fun _ _ _ h => h) (Or.inr ⟨by kernel_rfl, rfl⟩) ?_
        refine wpAny_take (i := 22) (v := undef) rfl (by kernel_rfl) (by kernel_rfl) (by kernel_rfl) (fun _ _ _ h => h) (Or.inr ⟨by kernel_rfl, rfl⟩) ?_
        refine wpAny_take (i := 23) (v := undef) rfl (by kernel_rfl) (by kernel_rfl) (by kernel_rfl) (fun _ _ _ h => h) (Or.inr ⟨by kernel_rfl, rfl⟩) ?_
        refine wpAny_take (i := 24) (v := undef) rfl (by kernel_rfl) (by kernel_rfl) (by kernel_rfl) (fun _ _ _ h => h) (Or.inr ⟨by kernel_rfl, rfl⟩) ?_
        refine wpAny_take (i := 25) (v := ?_) rfl (by kernel_rfl) (by kernel_rfl) (by kernel_rfl) (fun _ _ _ h => h) (Or.inl ⟨by kernel_rfl, ?_⟩) ?_
        rotate_left
        · intro w; go_simp; with_reducible rfl
        refine wpAny_take (i := 26) (v := ?_) rfl (by kernel_rfl) (by kernel_rfl) (by kernel_rfl) (fun _ _ _ h => h) (Or.inl ⟨by kernel_rfl, ?_⟩) ?_
        rotate_left
        · intro w; go_simp; with_reducible rfl
        refine wpAny_take (i := 27) (v := ?_) rfl (by kernel_rfl) (by kernel_rfl) (by kernel_rfl) (fun _ _ _ h => h) (Or.inl ⟨by kernel_rfl, ?_⟩) ?_
        rotate_left
        · intro w; go_simp; with_reducible rfl
        refine wpAny_take (i := 28) (v := ?_) rfl (by kernel_rfl) (by kernel_rfl) (by kernel_rfl) (fun _ _ _ h => h) (Or.inl ⟨by kernel_rfl, ?_⟩) ?_
        rotate_left
        · intro w; go_simp; with_reducible rfl
        refine wpAny_ready (rs := [29]) (by kernel_rfl) (by simp) ?_
        refine AllReady.cons rfl (fun K hK => ?_) AllReady.nil
        go_simp
        refine hK _ _ ?_
        clear hK K
        refine wpAny_take (i := 30) (v := ?_) rfl (by kernel_rfl) (by kernel_rfl) (by kernel_rfl) (fun _ _ _ h => h) (Or.inl ⟨by kernel_rfl, ?_⟩) ?_
        rotate_left
        · intro w; go_simp; with_reducible rfl
        refine wpAny_take (i := 31) (v := ?_) rfl (by kernel_rfl) (by kernel_rfl) (by kernel_rfl) (fun _ _ _ h => h) (Or.inl ⟨by kernel_rfl, ?_⟩) ?_
        rotate_left
        · intro w; go_simp; with_reducible rfl
        refine wpAny_take (i := 32) (v := ?_) rfl (by kernel_rfl) (by kernel_rfl) (by kernel_rfl) (fun _ _ _ h => h) (Or.inl ⟨by kernel_rfl, ?_⟩) ?_
        rotate_left
        · intro w; go_simp; with_reducible rfl
        refine wpAny_take (i := 33) (v := ?_) rfl (by kernel_rfl) (by kernel_rfl) (by kernel_rfl) (fun _ _ _ h => h) (Or.inl ⟨by kernel_rfl, ?_⟩) ?_
        rotate_left
        · intro w; go_simp; with_reducible rfl
        refine wpAny_take (i := 34) (v := ?_) rfl (by kernel_rfl) (by kernel_rfl) (by kernel_rfl) (fun _ _ _ h => h) (Or.inl ⟨by kernel_rfl, ?_⟩) ?_
        rotate_left
        · intro w; go_simp; with_reducible rfl
        refine wpAny_ready (rs := [35]) (by kernel_rfl) (by simp) ?_
        refine AllReady.cons rfl (fun K hK => ?_) AllReady.nil
        go_simp
        refine hK _ _ ?_
        clear hK K
        refine wpAny_ready (rs := [36]) (by kernel_rfl) (by simp) ?_
        refine AllReady.cons rfl (fun K hK => ?_) AllReady.nil
        go_simp
        go_at_call 70
        refine (told_any _ _).mono ?_
        rintro e w5 ⟨b1, rfl, n5, rfl⟩
        refine hK _ _ ?_
        clear hK K
        refine wpAny_take (i := 37) (v := ?_) rfl (by kernel_rfl) (by kernel_rfl) (by kernel_rfl) (fun _ _ _ h => h) (Or.inl ⟨by kernel_rfl, ?_⟩) ?_
        rotate_left
        · intro w; go_simp; with_reducible rfl
        refine wpAny_take (i := 38) (v := ?_) rfl (by kernel_rfl) (by kernel_rfl) (by kernel_rfl) (fun _ _ _ h => h) (Or.inl ⟨by kernel_rfl, ?_⟩) ?_
        rotate_left
        · intro w; go_simp; with_reducible rfl
        refine wpAny_done (by kernel_rfl) ?_ _
        cases b1
        · go_wp2
          go_ret
          exact ⟨_, rfl, (fun h => by cases h), below_drewN hbr' _⟩
        · go_wp2
          go_loopw [6] (fun i wr => ∃ j : Nat, j ≤ r.right.length ∧ i = .int .i64 j ∧ (∀ i, i < j → SymOk tl vl (r.right.getD i 0)) ∧ ∃ m, wr = w1.drewN m) (fun i _ => r.right.length - (intOf i).toNat)
          case atStart => exact ⟨0, Nat.zero_le _, rfl, fun i hi => absurd hi (Nat.not_lt_zero _), 1 + n5, rfl⟩
          case round =>
            obtain ⟨j, hj, rfl, hal, m, rfl⟩ := hrel
            have HAL := Lib.hid hal
            clear hal
            by_cases hlt : j < r.right.length
            · obtain ⟨a2, rfl, hab2, hc2⟩ := H7.out j hlt
              have hc2' := (hbr.cell (p := a2.add j) (by rw [add_block]; omega)).trans hc2
              have hy := g8 (r.right.getD j 0) (by rw [List.getD_eq_getElem?_getD, List.getElem?_eq_getElem hlt]; simp)
              have hx := cm_if (r.right.getD j 0) hy
              have hx2 := cm_any (r.right.getD j 0) hy
              clear hc2 hy
              obtain ⟨y, hyy⟩ : ∃ y, y = r.right.getD j 0 := ⟨_, rfl⟩
              rw [← hyy] at hc2' hx hx2
              have HYY := Lib.hid hyy
              clear hyy
              by_cases q1 : (vl : Int) ≤ y
              · go_wp2
                all_goals go_ret
                all_goals exact ⟨_, rfl, (fun h => by cases h), below_drewN hbr' _⟩
              · by_cases q2 : y < 0
                · by_cases q3 : (tl : Int) ≤ -1 - y
                  · go_wp2
                    all_goals go_ret
                    all_goals exact ⟨_, rfl, (fun h => by cases h), below_drewN hbr' _⟩
                  · go_wp2
                    exact ⟨⟨j + 1, hlt, congrArg (Value.int .i64) (by omega), sym_more HAL.out HYY.out ⟨by omega, by omega⟩, m, rfl⟩, by simp only [intOf]; omega⟩
                · go_wp2
                  exact ⟨⟨j + 1, hlt, congrArg (Value.int .i64) (by omega), sym_more HAL.out HYY.out ⟨by omega, by omega⟩, m, rfl⟩, by simp only [intOf]; omega⟩
            · obtain rfl : j = r.right.length := by omega
              have hfin : ∀ r', R[0]? = some r' → RlOk tl vl r' := fun r' hr' => by
                cases hrk.symm.trans hr'
                exact ⟨by omega, by omega, sym_all rfl HAL.out⟩
              have HFIN := Lib.hid hfin
              clear hfin
              go_wp2
              go_loopw [8] (fun i wr => ∃ j : Nat, j ≤ 0 ∧ i = .int .i64 j ∧ ∃ m, wr = w1.drewN m) (fun i _ => 0 - (intOf i).toNat)
              case atStart => exact ⟨0, Nat.zero_le _, rfl, m, rfl⟩
              case round =>
                obtain ⟨j, hj, rfl, m2, rfl⟩ := hrel
                by_cases hlt : j < 0
                · exact absurd hlt (Nat.not_lt_zero _)
                · obtain rfl : j = 0 := by omega
                  go_wp2
                  go_ret
                  exact ⟨_, rfl, (fun _ => HFIN.out), below_drewN hbr' _⟩
      | succ k =>
        obtain ⟨a3, r3, ao3, cap3, ea3, hab3, hrk3, p1, _⟩ := HR1.out.at k (by omega)
        cases ea3
        by_cases c3 : r.left < r3.left
        · have c3' := decide_eq_true c3
          go_quiet (fail)
          go_wp2
          go_ret
          exact ⟨_, rfl, (fun h => by cases h), below_drewN hbr' _⟩
        · have c3' := decide_eq_false c3
          have c4 : (decide ((24 : Int) < (r.right.length : Int))) = false := decide_eq_false (by omega)
          have hwk : IntKind.i64.wrap (k : Int) = (k : Int) := by rw [IntKind.wrap_i64]; omega
          have hkb : 0 ≤ (k : Int) ∧ (k : Int) < (R.length : Int) := ⟨by omega, by omega⟩
          refine wp_region_any (by kernel_rfl) ?_
          change wpAny _ _ _ _ _ _ _ (World.drew _)
          refine wpAny_take (i := 0) (v := ?_) rfl (by kernel_rfl) (by kernel_rfl) (by kernel_rfl) (fun _ _ _ h => h) (Or.inl ⟨by kernel_rfl, ?_⟩) ?_
          rotate_left
          · intro w; go_simp; with_reducible rfl
          refine wpAny_ready (rs := [1]) (by kernel_rfl) (by simp) ?_
          refine AllReady.cons rfl (fun K hK => ?_) AllReady.nil
          go_simp
          refine hK _ _ ?_
          clear hK K
          refine wpAny_take (i := 2) (v := ?_) rfl (by kernel_rfl) (by kernel_rfl) (by kernel_rfl) (fun _ _ _ h => h) (Or.inl ⟨by kernel_rfl, ?_⟩) ?_
          rotate_left
          · intro w; go_simp; with_reducible rfl
          refine wpAny_take (i := 3) (v := ?_) rfl (by kernel_rfl) (by kernel_rfl) (by kernel_rfl) (fun _ _ _ h => h) (Or.inl ⟨by kernel_rfl, ?_⟩) ?_
          rotate_left
          · intro w; go_simp; with_reducible rfl
          refine wpAny_take (i := 4) (v := ?_) rfl (by kernel_rfl) (by kernel_rfl) (by kernel_rfl) (fun _ _ _ h => h) (Or.inl ⟨by kernel_rfl, ?_⟩) ?_
          rotate_left
          · intro w; go_simp; with_reducible rfl
          refine wpAny_take (i := 6) (v := ?_) rfl (by kernel_rfl) (by kernel_rfl) (by kernel_rfl) (fun _ _ _ h => h) (Or.inl ⟨by kernel_rfl, ?_⟩) ?_
          rotate_left
          · intro w; go_simp; with_reducible rfl
          apply later
          · intro hG
            refine wpAny_ready (rs := [5, 7]) (by kernel_rfl) (by simp) ?_
            refine AllReady.cons rfl (fun K hK => ?_) (AllReady.cons rfl (fun K hK => ?_) AllReady.nil)
            · go_simp
              refine hK _ _ ?_
              clear hK K
              refine wpAny_ready (rs := [7]) (by kernel_rfl) (by simp) ?_
              refine AllReady.cons rfl (fun K hK => ?_) AllReady.nil
              · go_simp
                refine hK _ _ ?_
                clear hK K
                refine wpAny_take (i := 8) (v := ?_) rfl (by kernel_rfl) (by kernel_rfl) (by kernel_rfl) (fun _ _ _ h => h) (Or.inl ⟨by kernel_rfl, ?_⟩) ?_
                rotate_left
                · intro w; go_simp; with_reducible rfl
                refine wpAny_take (i := 9) (v := ?_) rfl (by kernel_rfl) (by kernel_rfl) (by kernel_rfl) (fun _ _ _ h => h) (Or.inl ⟨by kernel_rfl, ?_⟩) ?_
                rotate_left
                · intro w; go_simp; with_reducible rfl
                exact hG
            · go_simp
              refine hK _ _ ?_
              clear hK K
              refine wpAny_take (i := 8) (v := ?_) rfl (by kernel_rfl) (by kernel_rfl) (by kernel_rfl) (fun _ _ _ h => h) (Or.inl ⟨by kernel_rfl, ?_⟩) ?_
              rotate_left
              · intro w; go_simp; with_reducible rfl
              refine wpAny_ready (rs := [5]) (by kernel_rfl) (by simp) ?_
              refine AllReady.cons rfl (fun K hK => ?_) AllReady.nil
              · go_simp
                refine hK _ _ ?_
                clear hK K
                refine wpAny_take (i := 9) (v := ?_) rfl (by kernel_rfl) (by kernel_rfl) (by kernel_rfl) (fun _ _ _ h => h) (Or.inl ⟨by kernel_rfl, ?_⟩) ?_
                rotate_left
                · intro w; go_simp; with_reducible rfl
                exact hG
          refine wpAny_take (i := 10) (v := ?_) rfl (by kernel_rfl) (by kernel_rfl) (by kernel_rfl) (fun _ _ _ h => h) (Or.inl ⟨by kernel_rfl, ?_⟩) ?_
          rotate_left
          · intro w; go_simp; with_reducible rfl
          refine wpAny_take (i := 11) (v := ?_) rfl (by kernel_rfl) (by kernel_rfl) (by kernel_rfl) (fun _ _ _ h => h) (Or.inl ⟨by kernel_rfl, ?_⟩) ?_
          rotate_left
          · intro w; go_simp; with_reducible rfl
          refine wpAny_take (i := 12) (v := ?_) rfl (by kernel_rfl) (by kernel_rfl) (by kernel_rfl) (fun _ _ _ h => h) (Or.inl ⟨by kernel_rfl, ?_⟩) ?_
          rotate_left
          · intro w; go_simp; with_reducible rfl
          refine wpAny_take (i := 13) (v := ?_) rfl (by kernel_rfl) (by kernel_rfl) (by kernel_rfl) (fun _ _ _ h => h) (Or.inl ⟨by kernel_rfl, ?_⟩) ?_
          rotate_left
          · intro w; go_simp; with_reducible rfl
          refine wpAny_take (i := 14) (v := ?_) rfl (by kernel_rfl) (by kernel_rfl) (by kernel_rfl) (fun _ _ _ h => h) (Or.inl ⟨by kernel_rfl, ?_⟩) ?_
          rotate_left
          · intro w; go_simp; with_reducible rfl
          refine wpAny_take (i := 15) (v := ?_) rfl (by kernel_rfl) (by kernel_rfl) (by kernel_rfl) (fun _ _ _ h => h) (Or.inl ⟨by kernel_rfl, ?_⟩) ?_
          rotate_left
          · intro w; go_simp; with_reducible rfl
          refine wpAny_take (i := 17) (v := ?_) rfl (by kernel_rfl) (by kernel_rfl) (by kernel_rfl) (fun _ _ _ h => h) (Or.inl ⟨by kernel_rfl, ?_⟩) ?_
          rotate_left
          · intro w; go_simp; with_reducible rfl
          refine wpAny_take (i := 18) (v := ?_) rfl (by kernel_rfl) (by kernel_rfl) (by kernel_rfl) (fun _ _ _ h => h) (Or.inl ⟨by kernel_rfl, ?_⟩) ?_
          rotate_left
          · intro w; go_simp; with_reducible rfl
          refine wpAny_take (i := 22) (v := ?_) rfl (by kernel_rfl) (by kernel_rfl) (by kernel_rfl) (fun _ _ _ h => h) (Or.inl ⟨by kernel_rfl, ?_⟩) ?_
          rotate_left
          · intro w; go_simp; with_reducible rfl
          apply later
          · intro hG
            refine wpAny_ready (rs := [16, 23]) (by kernel_rfl) (by simp) ?_
            refine AllReady.cons rfl (fun K hK => ?_) (AllReady.cons rfl (fun K hK => ?_) AllReady.nil)
            · go_simp
              refine hK _ _ ?_
              clear hK K
              refine wpAny_take (i := 19) (v := ?_) rfl (by kernel_rfl) (by kernel_rfl) (by kernel_rfl) (fun _ _ _ h => h) (Or.inl ⟨by kernel_rfl, ?_⟩) ?_
              rotate_left
              · intro w; go_simp; with_reducible rfl
              refine wpAny_take (i := 20) (v := ?_) rfl (by kernel_rfl) (by kernel_rfl) (by kernel_rfl) (fun _ _ _ h => h) (Or.inl ⟨by kernel_rfl, ?_⟩) ?_
              rotate_left
              · intro w; go_simp; with_reducible rfl
              refine wpAny_ready (rs := [21, 23]) (by kernel_rfl) (by simp) ?_
              refine AllReady.cons rfl (fun K hK => ?_) (AllReady.cons rfl (fun K hK => ?_) AllReady.nil)
              · go_simp
                refine hK _ _ ?_
                clear hK K
                refine wpAny_ready (rs := [23]) (by kernel_rfl) (by simp) ?_
                refine AllReady.cons rfl (fun K hK => ?_) AllReady.nil
                · go_simp
                  refine hK _ _ ?_
                  clear hK K
                  exact hG
              · go_simp
                refine hK _ _ ?_
                clear hK K
                refine wpAny_ready (rs := [21]) (by kernel_rfl) (by simp) ?_
                refine AllReady.cons rfl (fun K hK => ?_) AllReady.nil
                · go_simp
                  refine hK _ _ ?_
                  clear hK K
                  exact hG
            · go_simp
              refine hK _ _ ?_
              clear hK K
              refine wpAny_ready (rs := [16]) (by kernel_rfl) (by simp) ?_
              refine AllReady.cons rfl (fun K hK => ?_) AllReady.nil
              · go_simp
                refine hK _ _ ?_
                clear hK K
                refine wpAny_take (i := 19) (v := ?_) rfl (by kernel_rfl) (by kernel_rfl) (by kernel_rfl) (fun _ _ _ h => h) (Or.inl ⟨by kernel_rfl, ?_⟩) ?_
                rotate_left
                · intro w; go_simp; with_reducible rfl
                refine wpAny_take (i := 20) (v := ?_) rfl (by kernel_rfl) (by kernel_rfl) (by kernel_rfl) (fun _ _ _ h => h) (Or.inl ⟨by kernel_rfl, ?_⟩) ?_
                rotate_left
                · intro w; go_simp; with_reducible rfl
                refine wpAny_ready (rs := [21]) (by kernel_rfl) (by simp) ?_
                refine AllReady.cons rfl (fun K hK => ?_) AllReady.nil
                · go_simp
                  refine hK _ _ ?_
                  clear hK K
                  exact hG
          refine wpAny_take (i := 24) (v := ?_) rfl (by kernel_rfl) (by kernel_rfl) (by kernel_rfl) (fun _ _ _ h => h) (Or.inl ⟨by kernel_rfl, ?_⟩) ?_
          rotate_left
          · intro w; go_simp; with_reducible rfl
          refine wpAny_take (i := 25) (v := ?_) rfl (by kernel_rfl) (by kernel_rfl) (by kernel_rfl) (fun _ _ _ h => h) (Or.inl ⟨by kernel_rfl, ?_⟩) ?_
          rotate_left
          · intro w; go_simp; with_reducible rfl
          refine wpAny_take (i := 26) (v := ?_) rfl (by kernel_rfl) (by kernel_rfl) (by kernel_rfl) (fun _ _ _ h => h) (Or.inl ⟨by kernel_rfl, ?_⟩) ?_
          rotate_left
          · intro w; go_simp; with_reducible rfl
          refine wpAny_take (i := 27) (v := ?_) rfl (by kernel_rfl) (by kernel_rfl) (by kernel_rfl) (fun _ _ _ h => h) (Or.inl ⟨by kernel_rfl, ?_⟩) ?_
          rotate_left
          · intro w; go_simp; with_reducible rfl
          refine wpAny_take (i := 28) (v := ?_) rfl (by kernel_rfl) (by kernel_rfl) (by kernel_rfl) (fun _ _ _ h => h) (Or.inl ⟨by kernel_rfl, ?_⟩) ?_
          rotate_left
          · intro w; go_simp; with_reducible rfl
          refine wpAny_ready (rs := [29]) (by kernel_rfl) (by simp) ?_
          refine AllReady.cons rfl (fun K hK => ?_) AllReady.nil
          go_simp
          refine hK _ _ ?_
          clear hK K
          refine wpAny_take (i := 30) (v := ?_) rfl (by kernel_rfl) (by kernel_rfl) (by kernel_rfl) (fun _ _ _ h => h) (Or.inl ⟨by kernel_rfl, ?_⟩) ?_
          rotate_left
          · intro w; go_simp; with_reducible rfl
          refine wpAny_take (i := 31) (v := ?_) rfl (by kernel_rfl) (by kernel_rfl) (by kernel_rfl) (fun _ _ _ h => h) (Or.inl ⟨by kernel_rfl, ?_⟩) ?_
          rotate_left
          · intro w; go_simp; with_reducible rfl
          refine wpAny_take (i := 32) (v := ?_) rfl (by kernel_rfl) (by kernel_rfl) (by kernel_rfl) (fun _ _ _ h => h) (Or.inl ⟨by kernel_rfl, ?_⟩) ?_
          rotate_left
          · intro w; go_simp; with_reducible rfl
          refine wpAny_take (i := 33) (v := ?_) rfl (by kernel_rfl) (by kernel_rfl) (by kernel_rfl) (fun _ _ _ h => h) (Or.inl ⟨by kernel_rfl, ?_⟩) ?_
          rotate_left
          · intro w; go_simp; with_reducible rfl
          refine wpAny_take (i := 34) (v := ?_) rfl (by kernel_rfl) (by kernel_rfl) (by kernel_rfl) (fun _ _ _ h => h) (Or.inl ⟨by kernel_rfl, ?_⟩) ?_
          rotate_left
          · intro w; go_simp; with_reducible rfl
          refine wpAny_ready (rs := [35]) (by kernel_rfl) (by simp) ?_
          refine AllReady.cons rfl (fun K hK => ?_) AllReady.nil
          go_simp
          refine hK _ _ ?_
          clear hK K
          refine wpAny_ready (rs := [36]) (by kernel_rfl) (by simp) ?_
          refine AllReady.cons rfl (fun K hK => ?_) AllReady.nil
          go_simp
          go_at_call 70
          refine (told_any _ _).mono ?_
          rintro e w5 ⟨b1, rfl, n5, rfl⟩
          refine hK _ _ ?_
          clear hK K
          refine wpAny_take (i := 37) (v := ?_) rfl (by kernel_rfl) (by kernel_rfl) (by kernel_rfl) (fun _ _ _ h => h) (Or.inl ⟨by kernel_rfl, ?_⟩) ?_
          rotate_left
          · intro w; go_simp; with_reducible rfl
          refine wpAny_take (i := 38) (v := ?_) rfl (by kernel_rfl) (by kernel_rfl) (by kernel_rfl) (fun _ _ _ h => h) (Or.inl ⟨by kernel_rfl, ?_⟩) ?_
          rotate_left
          · intro w; go_simp; with_reducible rfl
          refine wpAny_done (by kernel_rfl) ?_ _
          cases b1
          · go_wp2
            go_ret
            exact ⟨_, rfl, (fun h => by cases h), below_drewN hbr' _⟩
          · go_wp2
            go_loopw [6] (fun i wr => ∃ j : Nat, j ≤ r.right.length ∧ i = .int .i64 j ∧ (∀ i, i < j → SymOk tl vl (r.right.getD i 0)) ∧ ∃ m, wr = w1.drewN m) (fun i _ => r.right.length - (intOf i).toNat)
            case atStart => exact ⟨0, Nat.zero_le _, rfl, fun i hi => absurd hi (Nat.not_lt_zero _), 1 + n5, rfl⟩
            case round =>
              obtain ⟨j, hj, rfl, hal, m, rfl⟩ := hrel
              have HAL := Lib.hid hal
              clear hal
              by_cases hlt : j < r.right.length
              · obtain ⟨a2, rfl, hab2, hc2⟩ := H7.out j hlt
                have hc2' := (hbr.cell (p := a2.add j) (by rw [add_block]; omega)).trans hc2
                have hy := g8 (r.right.getD j 0) (by rw [List.getD_eq_getElem?_getD, List.getElem?_eq_getElem hlt]; simp)
                have hx := cm_if (r.right.getD j 0) hy
                have hx2 := cm_any (r.right.getD j 0) hy
                clear hc2 hy
                obtain ⟨y, hyy⟩ : ∃ y, y = r.right.getD j 0 := ⟨_, rfl⟩
                rw [← hyy] at hc2' hx hx2
                have HYY := Lib.hid hyy
                clear hyy
                by_cases q1 : (vl : Int) ≤ y
                · go_wp2
                  all_goals go_ret
                  all_goals exact ⟨_, rfl, (fun h => by cases h), below_drewN hbr' _⟩
                · by_cases q2 : y < 0
                  · by_cases q3 : (tl : Int) ≤ -1 - y
                    · go_wp2
                      all_goals go_ret
                      all_goals exact ⟨_, rfl, (fun h => by cases h), below_drewN hbr' _⟩
                    · go_wp2
                      exact ⟨⟨j + 1, hlt, congrArg (Value.int .i64) (by omega), sym_more HAL.out HYY.out ⟨by omega, by omega⟩, m, rfl⟩, by simp only [intOf]; omega⟩
                  · go_wp2
                    exact ⟨⟨j + 1, hlt, congrArg (Value.int .i64) (by omega), sym_more HAL.out HYY.out ⟨by omega, by omega⟩, m, rfl⟩, by simp only [intOf]; omega⟩
              · obtain rfl : j = r.right.length := by omega
                have hfin : ∀ r', R[k + 1]? = some r' → RlOk tl vl r' := fun r' hr' => by
                  cases hrk.symm.trans hr'
                  exact ⟨by omega, by omega, sym_all rfl HAL.out⟩
                have HFIN := Lib.hid hfin
                clear hfin
                go_wp2
                go_loopw [8] (fun i wr => ∃ j : Nat, j ≤ (k + 1) ∧ i = .int .i64 j ∧ ∃ m, wr = w1.drewN m) (fun i _ => (k + 1) - (intOf i).toNat)
                case atStart => exact ⟨0, Nat.zero_le _, rfl, m, rfl⟩
                case round =>
                  obtain ⟨j, hj, rfl, m2, rfl⟩ := hrel
                  by_cases hlt : j < (k + 1)
                  · obtain ⟨a4, r4, ao4, cap4, ea4, hab4, hrk4, s1, s2, s3, s4, s5, s6, s7, s8, s9⟩ := HR1.out.at j (by omega)
                    cases ea4
                    by_cases hle : r4.left = r.left
                    · have hw1 : WordAt w1 (.slice ao4 r4.right.length cap4) r4.right := ⟨ao4, cap4, rfl, s8, fun i hi => by obtain ⟨a5, e5, hab5, hc5⟩ := s7 i hi; exact ⟨a5, e5, by have := hbr'.size; omega, hc5⟩⟩
                      have hw2 : WordAt w1 (.slice ao r.right.length cap) r.right := ⟨ao, cap, rfl, g8, fun i hi => by obtain ⟨a5, e5, hab5, hc5⟩ := H7.out i hi; exact ⟨a5, e5, by have := hbr'.size; omega, (hbr.cell (p := a5.add i) (by rw [add_block]; omega)).trans hc5⟩⟩
                      have h84 := h8 r4 (List.mem_of_getElem? hrk4)
                      have hsm : ∀ x, Calls Try.prog 18 #[.slice ao4 r4.right.length cap4, .slice ao r.right.length cap] (w1.drewN (m2 + x)) fun e w' => e = .returned (.bool (decide (r4.right = r.right))) ∧ ∃ n, w' = w1.drewN (m2 + n) := fun x => (rsame_any (w1.drewN (m2 + x)) _ _ _ _ hw1 hw2 (by omega) (by omega)).mono fun _ _ ⟨he, m', hm⟩ => ⟨he, x + m', by rw [hm, drewN_add, Nat.add_assoc]⟩
                      have HSM := Lib.hid hsm
                      clear hsm hw1 hw2 s7 s8 s9
                      rw [hle] at s1
                      go_wp2
                      go_quiet ((go_at_call 18; exact HSM.out _))
                      cases hd : decide (r4.right = r.right)
                      · go_wp2
                        exact ⟨⟨j + 1, hlt, congrArg (Value.int .i64) (by omega), _, rfl⟩, by simp only [intOf]; omega⟩
                      · go_wp2
                        go_ret
                        first | exact ⟨_, rfl, (fun h => by cases h), below_drewN hbr' _⟩ | exact ⟨_, rfl, (fun h => by cases h), below_drewN (below_drewN hbr' _) _⟩
                    · have c5 : (r4.left == r.left) = false := by rw [beq_eq_false_iff_ne]; exact hle
                      go_wp2
                      go_quiet (fail)
                      go_wp2
                      exact ⟨⟨j + 1, hlt, congrArg (Value.int .i64) (by omega), _, rfl⟩, by simp only [intOf]; omega⟩
                  · obtain rfl : j = (k + 1) := by omega
                    go_wp2
                    go_ret
                    exact ⟨_, rfl, (fun _ => HFIN.out), below_drewN hbr' _⟩
end Go.Proofs.Ytljkobijoenabaa.dv
namespace Go.Proofs.Ytljkobijoenabaa.dv
open Go.ChangeShapes Go.WideShapes Go.ChangeAt Go.RowKit Go.Maps Go.WideMaps Go.WideElems Go.Deep Go.Joins
set_option linter.unusedVariables false
set_option linter.unusedSimpArgs false
/-! from what is read to rows and grammars -/
theorem own : ownKnob Try.prog.godebug = none := by kernel_rfl
theorem laidOut : laidOutB Try.prog = true := by kernel_rfl
theorem cInt : Try.prog.cellsOf 3 = 1 := by kernel_rfl
theorem cRule : Try.prog.cellsOf 52 = 3 := by kernel_rfl
theorem blk_lt {w : World} {a : Addr} {v : Value} (h : w.cell? a = some v) : a.block < w.heap.size := by
  rcases Nat.lt_or_ge a.block w.heap.size with hlt | hge
  · exact hlt
  · rw [World.cell?] at h
    simp [Array.getElem?_eq_none hge] at h
theorem blk_lt_add {w : World} {a : Addr} {j : Nat} {v : Value} (h : w.cell? (a.add j) = some v) : a.block < w.heap.size := by
  have := blk_lt h
  rwa [add_block] at this
theorem in64_wf {n : Int} (h : (Lit.int .i64 n).wf = true) : In64 n := by
  simp [Lit.wf, IntKind.min, IntKind.max, IntKind.signed, IntKind.bits] at h
  constructor <;> omega
section
variable {H : Type} {enc : TypeId × Value → H} {W : World}
theorem row_of {a0 : Option Addr} {len cap fuel : Nat} {x : DataW H × List MemPlace} (hf : DataW.trod enc Try.prog W 0 (fun _ => true) true fuel 26 [Value.slice a0 len cap] = some x) : ∃ l : List Int, l.length = len ∧ RowAt W (.slice a0 len cap) l := by
  obtain ⟨d, p⟩ := x
  rcases open_ints Try.underlying26 Try.underlying3 cInt hf with ⟨hcs, hx⟩ | ⟨a, len', cap', zs, hcs, _, hl, hm, hz, hx, hcell, hwz⟩
  · simp at hcs
    obtain ⟨rfl, rfl, rfl⟩ := hcs
    exact ⟨[], rfl, none, 0, rfl, Nat.le_refl _, Nat.zero_le _, fun _ => rfl, by simp, fun i hi => absurd hi (Nat.not_lt_zero _)⟩
  · simp at hcs
    obtain ⟨rfl, rfl, rfl⟩ := hcs
    simp only [if_true] at hz
    have hL : (zs.take len).length = len := by simp; omega
    refine ⟨zs.take len, hL, some a, cap, by rw [hL], by omega, hm, fun h => (by cases h), fun n hn => in64_wf (hwz n (List.mem_of_mem_take hn)), fun i hi => ⟨a, rfl, blk_lt_add (hcell i (by omega)), ?_⟩⟩
    rw [hcell i (by omega)]
    simp [List.getD, List.getElem?_eq_getElem (show i < zs.length by omega), show i < len from by omega]
theorem slice_of {t e : TypeId} {fuel : Nat} {v : Value} {x : DataW H × List MemPlace} (ht : Try.prog.underlying t = some (.slice e)) (hf : DataW.trod enc Try.prog W 0 (fun _ => true) true fuel t [v] = some x) : ∃ a len cap, v = .slice a len cap ∧ len ≤ cap ∧ cap ≤ maxLen ∧ (a = none → cap = 0) := by
  rcases open_slice ht hf with ⟨hcs, _⟩ | ⟨a, len, cap, m, n, D, Pl, hcs, _, hl, hm, _⟩
  · simp at hcs
    exact ⟨none, 0, 0, hcs, Nat.le_refl _, Nat.zero_le _, fun _ => rfl⟩
  · simp at hcs
    exact ⟨some a, len, cap, hcs, hl, hm, fun h => (by cases h)⟩
theorem trod_fl {P : Program} {t : TypeId} {k : FloatKind} {fuel : Nat} {cs : List Value} {x : DataW H × List MemPlace} {base : Nat} {spare : Nat → Bool} {held : Bool} (ht : P.underlying t = some (.float k)) (h : DataW.trod enc P W base spare held fuel t cs = some x) : ∃ b, cs = [.float k b] ∧ (Lit.float k b).wf = true := by
  cases fuel with
  | zero => simp [DataW.trod] at h
  | succ n =>
    unfold DataW.trod at h
    rw [ht] at h
    split at h <;> simp_all
theorem float_of {fuel : Nat} {cs : List Value} {x : DataW H × List MemPlace} (hf : DataW.trod enc Try.prog W 0 (fun _ => true) true fuel 46 cs = some x) : ∃ b, cs = [.float .f64 b] ∧ b < 18446744073709551616 := by
  obtain ⟨b, rfl, hw⟩ := trod_fl Try.underlying46 hf
  refine ⟨b, rfl, ?_⟩
  have e : (2 : Nat) ^ FloatKind.f64.format.width = 18446744073709551616 := by decide
  simp [Lit.wf] at hw
  rw [← e]; exact hw
set_option maxRecDepth 100000 in
theorem rule_of {fuel : Nat} {a : Addr} {i : Nat} {cs' : List Value} {x : DataW H × List MemPlace} (hc : W.cells? 0 (a.add (i * 3)) 3 = some cs') (hf : DataW.trod enc Try.prog W 0 (fun _ => true) true fuel 52 cs' = some x) : ∃ r : Rl, RlAt W.heap.size W a i r ∧ r.wt < 18446744073709551616 ∧ a.block < W.heap.size := by
  obtain ⟨ys, n, _, hx, hlen, hyl, hfl⟩ := DataW.trod_struct Try.underlying52 hf
  rw [cRule] at hlen
  obtain ⟨_, hcl, hat⟩ := World.cells?_some hc
  obtain ⟨c0, c1, c2, rfl⟩ : ∃ c0 c1 c2, cs' = [c0, c1, c2] := by
    match cs', hlen with
    | [c0, c1, c2], _ => exact ⟨c0, c1, c2, rfl⟩
  obtain ⟨y0, y1, y2, rfl⟩ : ∃ y0 y1 y2, ys = [y0, y1, y2] := by
    have hyl' : ys.length = 3 := hyl
    clear hyl hfl hx
    match ys, hyl' with
    | [y0, y1, y2], _ => exact ⟨y0, y1, y2, rfl⟩
  have cInts : Try.prog.cellsOf 26 = 1 := by kernel_rfl
  have cF : Try.prog.cellsOf 46 = 1 := by kernel_rfl
  have h0 : DataW.trod enc Try.prog W 0 (fun _ => true) true n 3 (List.take (Try.prog.cellsOf 3) [c0, c1, c2]) = some y0 := hfl 0 _ rfl
  have h1 : DataW.trod enc Try.prog W 0 (fun _ => true) true n 26 (List.take (Try.prog.cellsOf 26) [c1, c2]) = some y1 := hfl 1 _ rfl
  have h2 : DataW.trod enc Try.prog W 0 (fun _ => true) true n 46 (List.take (Try.prog.cellsOf 46) [c2]) = some y2 := hfl 2 _ rfl
  rw [cInt] at h0
  rw [cInts] at h1
  rw [cF] at h2
  replace h0 : DataW.trod enc Try.prog W 0 (fun _ => true) true n 3 [c0] = some y0 := h0
  replace h1 : DataW.trod enc Try.prog W 0 (fun _ => true) true n 26 [c1] = some y1 := h1
  replace h2 : DataW.trod enc Try.prog W 0 (fun _ => true) true n 46 [c2] = some y2 := h2
  clear hfl
  obtain ⟨l, e0, _, hl⟩ := DataW.trod_int Try.underlying3 h0
  obtain ⟨ao, len, cap, e1, _⟩ := slice_of Try.underlying26 h1
  subst e1
  obtain ⟨xs, hxl, ao', cap', e, g1, g2, g3, g4, g5⟩ := row_of h1
  obtain ⟨b, e2, hb⟩ := float_of h2
  simp at e0 e2
  subst e0
  subst e2
  cases e
  have k0 := hat 0 (by omega)
  have k1 := hat 1 (by omega)
  have k2 := hat 2 (by omega)
  rw [Addr.add_add] at k0 k1 k2
  exact ⟨⟨l, xs, b⟩, ⟨ao, cap, k0, k1, k2, g1, g2, g3, fun j hj => by
    obtain ⟨a', ea, hab, hca⟩ := g5 j hj
    exact ⟨a', ea, hab, hca⟩, g4, in64_wf hl⟩, hb, blk_lt_add k0⟩
theorem rules_of {a0 : Option Addr} {len cap fuel : Nat} {x : DataW H × List MemPlace} (hf : DataW.trod enc Try.prog W 0 (fun _ => true) true fuel 23 [Value.slice a0 len cap] = some x) : ∃ R : List Rl, R.length = len ∧ RulesAt W.heap.size W (.slice a0 len cap) R ∧ Wf R := by
  rcases open_slice Try.underlying23 hf with ⟨hcs, _⟩ | ⟨a, len', cap', m, n, D, Pl, hcs, _, hl, hm, hmm, _, hi⟩
  · simp at hcs
    obtain ⟨rfl, rfl, rfl⟩ := hcs
    exact ⟨[], rfl, ⟨none, 0, rfl, Nat.zero_le _, fun k r hk => by simp at hk⟩, fun r hr => by cases hr⟩
  · simp at hcs
    obtain ⟨rfl, rfl, rfl⟩ := hcs
    simp only [if_true] at hmm
    subst hmm
    have hex : ∀ i, ∃ r : Rl, i < len → RlAt W.heap.size W a i r ∧ r.wt < 18446744073709551616 ∧ a.block < W.heap.size := fun i => by
      by_cases h : i < len
      · obtain ⟨cs', hc, ht⟩ := hi i (by omega)
        rw [cRule] at hc
        obtain ⟨r, hr⟩ := rule_of hc ht
        exact ⟨r, fun _ => hr⟩
      · exact ⟨⟨0, [], 0⟩, fun h' => absurd h' h⟩
    refine ⟨(List.range len).map fun i => (hex i).choose, by simp, ⟨some a, m, by simp, by simp; omega, fun k r hk => ?_⟩, fun r hr => ?_⟩
    · have hkl : k < len := by have := (List.getElem?_eq_some_iff.1 hk).1; simpa using this
      have e : (hex k).choose = r := by simpa [hkl] using hk
      have := (hex k).choose_spec hkl
      rw [e] at this
      exact ⟨a, rfl, this.2.2, this.1⟩
    · obtain ⟨i, hil, rfl⟩ := List.mem_map.1 hr
      exact ((hex i).choose_spec (by simpa using hil)).2.1
theorem strs_of {a0 : Option Addr} {len cap fuel : Nat} {x : DataW H × List MemPlace} (hf : DataW.trod enc Try.prog W 0 (fun _ => true) true fuel 22 [Value.slice a0 len cap] = some x) : StrsAt W.heap.size W a0 len ∧ len ≤ maxLen := by
  have cStr : Try.prog.cellsOf 9 = 1 := by kernel_rfl
  rcases open_slice Try.underlying22 hf with ⟨hcs, _⟩ | ⟨a, len', cap', m, n, D, Pl, hcs, _, hl, hm, hmm, _, hi⟩
  · simp at hcs
    obtain ⟨rfl, rfl, rfl⟩ := hcs
    exact ⟨fun i hi => absurd hi (Nat.not_lt_zero _), Nat.zero_le _⟩
  · simp at hcs
    obtain ⟨rfl, rfl, rfl⟩ := hcs
    simp only [if_true] at hmm
    subst hmm
    refine ⟨fun i hil => ?_, by omega⟩
    obtain ⟨cs', hc, ht⟩ := hi i (by omega)
    rw [cStr, Nat.mul_one] at hc
    obtain ⟨s, rfl, _, hs⟩ := DataW.trod_string Try.underlying9 ht
    obtain ⟨_, hcl, hat⟩ := World.cells?_some hc
    have k0 := hat 0 (by omega)
    rw [Addr.add_add, Nat.add_zero] at k0
    exact ⟨a, s, rfl, blk_lt_add k0, k0, hs⟩
end
end Go.Proofs.Ytljkobijoenabaa.dv
namespace Go.Proofs.Ytljkobijoenabaa.dv
open Go.ChangeShapes Go.WideShapes Go.ChangeAt Go.RowKit Go.Maps Go.WideMaps Go.WideElems
set_option linter.unusedVariables false
set_option linter.unusedSimpArgs false
/-! names: what is answered hangs on the text alone -/
def Says (b : Bool) (w : World) : Ending → World → Prop := fun e w' => e = .returned (.bool b) ∧ w' = w
theorem letter_det (c : Int) : ∃ b, ∀ w, Calls Try.prog 67 #[.int .u8 c] w (Says b w) := by
  by_cases h1 : 97 ≤ c <;> by_cases h2 : c ≤ 122 <;> by_cases h3 : 65 ≤ c <;> by_cases h4 : c ≤ 90
  all_goals
    first
      | (exfalso; omega)
      | (refine ⟨true, fun w => ?_⟩
         go_enter Try.func67, Try.ntmps67
         go_wp2
         go_ret
         exact ⟨rfl, rfl⟩)
      | (refine ⟨false, fun w => ?_⟩
         go_enter Try.func67, Try.ntmps67
         go_wp2
         go_ret
         exact ⟨rfl, rfl⟩)
theorem digit_det (c : Int) : ∃ b, ∀ w, Calls Try.prog 86 #[.int .u8 c] w (Says b w) := by
  by_cases h1 : 48 ≤ c <;> by_cases h2 : c ≤ 57
  all_goals
    first
      | (refine ⟨true, fun w => ?_⟩
         go_enter Try.func86, Try.ntmps86
         go_wp2
         go_ret
         exact ⟨rfl, rfl⟩)
      | (refine ⟨false, fun w => ?_⟩
         go_enter Try.func86, Try.ntmps86
         go_wp2
         go_ret
         exact ⟨rfl, rfl⟩)
theorem quotable_det (c : Int) : ∃ b, ∀ w, Calls Try.prog 69 #[.int .u8 c] w (Says b w) := by
  by_cases h1 : 32 ≤ c <;> by_cases h2 : c ≤ 126 <;> by_cases h3 : c = 39
  all_goals
    first
      | (exfalso; omega)
      | (refine ⟨true, fun w => ?_⟩
         go_enter Try.func69, Try.ntmps69
         go_wp2
         go_ret
         refine ⟨?_, rfl⟩
         first | rfl | (simp [*]; done))
      | (refine ⟨false, fun w => ?_⟩
         go_enter Try.func69, Try.ntmps69
         go_wp2
         go_ret
         refine ⟨?_, rfl⟩
         first | rfl | (simp [*]; done))
theorem inner_det (c : Int) : ∃ b, ∀ w, Calls Try.prog 68 #[.int .u8 c] w (Says b w) := by
  obtain ⟨b1, h1⟩ := letter_det c
  obtain ⟨b2, h2⟩ := digit_det c
  have H1 := Lib.hid h1
  have H2 := Lib.hid h2
  clear h1 h2
  refine ⟨b1 || b2 || (c == 95), fun w => ?_⟩
  cases b1 <;> cases b2
  all_goals
    go_enter Try.func68, Try.ntmps68
    go_wp2_with (first | (go_at_call 67; refine (H1.out _).mono ?_; rintro e w1 ⟨rfl, rfl⟩) | (go_at_call 86; refine (H2.out _).mono ?_; rintro e w1 ⟨rfl, rfl⟩))
    go_ret
    exact ⟨by simp, rfl⟩
set_option maxHeartbeats 1000000 in
theorem isQuote_det (s : ByteArray) (hs : s.size ≤ maxLen) : ∃ b, ∀ w, Calls Try.prog 40 #[.string s] w (Says b w) := by
  unfold maxLen at hs
  obtain ⟨q, hq⟩ := Classical.axiomOfChoice quotable_det
  have HQ := Lib.hid hq
  clear hq
  by_cases hall : ∀ (k : Nat) (h : k < s.size), q (s[k].toNat : Int) = true
  · have HA := Lib.hid hall
    clear hall
    refine ⟨decide (1 ≤ s.size) && decide (s.size ≤ 16), fun w => ?_⟩
    go_enter Try.func40, Try.ntmps40
    go_wp2
    go_loopw [3] (fun i wr => ∃ k : Nat, k ≤ s.size ∧ i = .int .i64 k ∧ wr = w) (fun i _ => s.size - (intOf i).toNat)
    case atStart => exact ⟨0, Nat.zero_le _, rfl, rfl⟩
    case round =>
      obtain ⟨k, hk, rfl, rfl⟩ := hrel
      by_cases hlt : k < s.size
      · have hc := HQ.out (s[k].toNat : Int) wr
        rw [HA.out k hlt] at hc
        go_wp2_with (go_at_call 69; refine hc.mono ?_; rintro e w1 ⟨rfl, rfl⟩)
        exact ⟨⟨k + 1, hlt, congrArg (Value.int .i64) (by omega), trivial⟩, by simp only [intOf]; omega⟩
      · obtain rfl : k = s.size := by omega
        go_wp2
        all_goals go_ret
        all_goals refine ⟨ret_bool ?_, rfl⟩
        all_goals first | (simp; omega) | (simp [*]; done) | (rw [decide_eq_true (show 1 ≤ s.size by omega)]; simp; omega)
  · have HA := Lib.hid hall
    clear hall
    refine ⟨false, fun w => ?_⟩
    go_enter Try.func40, Try.ntmps40
    go_wp2
    go_loopw [3] (fun i wr => ∃ k : Nat, k ≤ s.size ∧ i = .int .i64 k ∧ (∀ (j : Nat) (h : j < s.size), j < k → q (s[j].toNat : Int) = true) ∧ wr = w) (fun i _ => s.size - (intOf i).toNat)
    case atStart => exact ⟨0, Nat.zero_le _, rfl, fun j _ hj => absurd hj (Nat.not_lt_zero _), rfl⟩
    case round =>
      obtain ⟨k, hk, rfl, hj, rfl⟩ := hrel
      have HJ := Lib.hid hj
      clear hj
      by_cases hlt : k < s.size
      · have hc := HQ.out (s[k].toNat : Int) wr
        cases hb : q (s[k].toNat : Int) with
        | false =>
          rw [hb] at hc
          clear hb
          go_wp2_with (go_at_call 69; refine hc.mono ?_; rintro e w1 ⟨rfl, rfl⟩)
          go_ret
          exact ⟨rfl, rfl⟩
        | true =>
          have hmo : ∀ (j : Nat) (h : j < s.size), j < k + 1 → q (s[j].toNat : Int) = true := fun j h hj => by
            rcases Nat.lt_or_ge j k with h2 | h2
            · exact HJ.out j h h2
            · obtain rfl : j = k := by omega
              exact hb
          have HM := Lib.hid hmo
          rw [hb] at hc
          clear hb hmo
          go_wp2_with (go_at_call 69; refine hc.mono ?_; rintro e w1 ⟨rfl, rfl⟩)
          exact ⟨⟨k + 1, hlt, congrArg (Value.int .i64) (by omega), HM.out, trivial⟩, by simp only [intOf]; omega⟩
      · obtain rfl : k = s.size := by omega
        exact absurd (fun j h => HJ.out j h h) HA.out
set_option maxHeartbeats 1000000 in
theorem isName_det (s : ByteArray) (hs : s.size ≤ maxLen) : ∃ b, ∀ w, Calls Try.prog 38 #[.string s] w (Says b w) := by
  unfold maxLen at hs
  obtain ⟨q, hq⟩ := Classical.axiomOfChoice inner_det
  have HQ := Lib.hid hq
  clear hq
  by_cases h1 : 1 ≤ s.size
  · by_cases h24 : s.size ≤ 24
    · have h0 : 0 < s.size := by omega
      obtain ⟨b0, hb0⟩ := letter_det (s[0].toNat : Int)
      have H0 := Lib.hid hb0
      clear hb0
      cases b0
      · refine ⟨false, fun w => ?_⟩
        go_enter Try.func38, Try.ntmps38
        go_wp2_with (go_at_call 67; refine (H0.out _).mono ?_; rintro e w1 ⟨rfl, rfl⟩)
        go_ret
        exact ⟨rfl, rfl⟩
      · by_cases hall : ∀ (k : Nat) (h : k < s.size), q (s[k].toNat : Int) = true
        · have HA := Lib.hid hall
          clear hall
          refine ⟨true, fun w => ?_⟩
          go_enter Try.func38, Try.ntmps38
          go_wp2_with (go_at_call 67; refine (H0.out _).mono ?_; rintro e w1 ⟨rfl, rfl⟩)
          go_loopw [3] (fun i wr => ∃ k : Nat, k ≤ s.size ∧ i = .int .i64 k ∧ wr = w1) (fun i _ => s.size - (intOf i).toNat)
          case atStart => exact ⟨0, Nat.zero_le _, rfl, rfl⟩
          case round =>
            obtain ⟨k, hk, rfl, rfl⟩ := hrel
            by_cases hlt : k < s.size
            · have hc := HQ.out (s[k].toNat : Int) wr
              rw [HA.out k hlt] at hc
              go_wp2_with (go_at_call 68; refine hc.mono ?_; rintro e w1 ⟨rfl, rfl⟩)
              exact ⟨⟨k + 1, hlt, congrArg (Value.int .i64) (by omega), trivial⟩, by simp only [intOf]; omega⟩
            · obtain rfl : k = s.size := by omega
              go_wp2
              go_ret
              exact ⟨rfl, rfl⟩
        · have HA := Lib.hid hall
          clear hall
          refine ⟨false, fun w => ?_⟩
          go_enter Try.func38, Try.ntmps38
          go_wp2_with (go_at_call 67; refine (H0.out _).mono ?_; rintro e w1 ⟨rfl, rfl⟩)
          go_loopw [3] (fun i wr => ∃ k : Nat, k ≤ s.size ∧ i = .int .i64 k ∧ (∀ (j : Nat) (h : j < s.size), j < k → q (s[j].toNat : Int) = true) ∧ wr = w1) (fun i _ => s.size - (intOf i).toNat)
          case atStart => exact ⟨0, Nat.zero_le _, rfl, fun j _ hj => absurd hj (Nat.not_lt_zero _), rfl⟩
          case round =>
            obtain ⟨k, hk, rfl, hj, rfl⟩ := hrel
            have HJ := Lib.hid hj
            clear hj
            by_cases hlt : k < s.size
            · have hc := HQ.out (s[k].toNat : Int) wr
              cases hb : q (s[k].toNat : Int) with
              | false =>
                rw [hb] at hc
                clear hb
                go_wp2_with (go_at_call 68; refine hc.mono ?_; rintro e w1 ⟨rfl, rfl⟩)
                go_ret
                exact ⟨rfl, rfl⟩
              | true =>
                have hmo : ∀ (j : Nat) (h : j < s.size), j < k + 1 → q (s[j].toNat : Int) = true := fun j h hj => by
                  rcases Nat.lt_or_ge j k with h2 | h2
                  · exact HJ.out j h h2
                  · obtain rfl : j = k := by omega
                    exact hb
                have HM := Lib.hid hmo
                rw [hb] at hc
                clear hb hmo
                go_wp2_with (go_at_call 68; refine hc.mono ?_; rintro e w1 ⟨rfl, rfl⟩)
                exact ⟨⟨k + 1, hlt, congrArg (Value.int .i64) (by omega), HM.out, trivial⟩, by simp only [intOf]; omega⟩
            · obtain rfl : k = s.size := by omega
              exact absurd (fun j h => HJ.out j h h) HA.out
    · refine ⟨false, fun w => ?_⟩
      go_enter Try.func38, Try.ntmps38
      go_wp2
      go_ret
      exact ⟨rfl, rfl⟩
  · refine ⟨false, fun w => ?_⟩
    go_enter Try.func38, Try.ntmps38
    go_wp2
    go_ret
    exact ⟨rfl, rfl⟩
theorem str_eq {t s : ByteArray} (h : t.data.toList = s.data.toList) : t = s := by
  cases t
  cases s
  simp at h
  rw [h]
set_option maxHeartbeats 1000000 in
theorem place_det (w0 : World) (B : Nat) (ao : Option Addr) (n cap : Nat) (s : ByteArray) (hs : s.size ≤ maxLen) (hn : n ≤ 8) (h : StrsAt B w0 ao n) : ∃ x : Int, ∀ m, Calls Try.prog 39 #[.slice ao n cap, .string s] (w0.drewN m) fun e w' => e = .returned (.int .i64 x) ∧ w' = w0.drewN m := by
  unfold maxLen at hs
  have hT : ∃ T : Nat → ByteArray, ∀ i, i < n → ∃ a : Addr, ao = some a ∧ w0.cell? (a.add i) = some (.string (T i)) := by
    have hex : ∀ i, ∃ t : ByteArray, i < n → ∃ a : Addr, ao = some a ∧ w0.cell? (a.add i) = some (.string t) := fun i => by
      by_cases hi : i < n
      · obtain ⟨a, t, e, _, hc, _⟩ := h i hi
        exact ⟨t, fun _ => ⟨a, e, hc⟩⟩
      · exact ⟨⟨#[]⟩, fun h' => absurd h' hi⟩
    exact Classical.axiomOfChoice hex
  obtain ⟨T, hT⟩ := hT
  have H := Lib.hid hT
  clear h hT
  by_cases hall : ∃ k, k < n ∧ T k = s ∧ ∀ j, j < k → T j ≠ s
  · obtain ⟨k0, hk0, he, hne⟩ := hall
    have HN := Lib.hid hne
    have HE := Lib.hid he
    clear hne he
    refine ⟨k0, fun m => ?_⟩
    go_enter Try.func39, Try.ntmps39
    go_wp2
    go_loopw [5] (fun i wr => ∃ k : Nat, k ≤ k0 ∧ i = .int .i64 k ∧ wr = w0.drewN m) (fun i _ => n - (intOf i).toNat)
    case atStart => exact ⟨0, Nat.zero_le _, rfl, rfl⟩
    case round =>
      obtain ⟨k, hk, rfl, rfl⟩ := hrel
      obtain ⟨a, rfl, hc⟩ := H.out k (by omega)
      by_cases hlt : k < k0
      · have hne := HN.out k hlt
        generalize T k = t at *
        have hbf : (t.toList == s.toList) = false := by
          rw [beq_eq_false_iff_ne, ByteArray.toList_eq, ByteArray.toList_eq]
          exact fun h => hne (str_eq h)
        go_wp2
        all_goals first
          | (exfalso; contradiction)
          | exact ⟨⟨k + 1, hlt, congrArg (Value.int .i64) (by omega), trivial⟩, by simp only [intOf]; omega⟩
      · obtain rfl : k = k0 := by omega
        have he := HE.out
        generalize T k = t at *
        subst he
        go_wp2
        all_goals first
          | (exfalso; contradiction)
          | (go_ret; exact ⟨rfl, rfl⟩)
  · have hno : ∀ k, k < n → T k ≠ s := fun k => by
      induction k using Nat.strongRecOn with
      | ind k ih =>
        intro hk he
        exact hall ⟨k, hk, he, fun j hj => ih j hj (by omega)⟩
    have HN := Lib.hid hno
    clear hno hall
    refine ⟨-1, fun m => ?_⟩
    go_enter Try.func39, Try.ntmps39
    go_wp2
    go_loopw [5] (fun i wr => ∃ k : Nat, k ≤ n ∧ i = .int .i64 k ∧ wr = w0.drewN m) (fun i _ => n - (intOf i).toNat)
    case atStart => exact ⟨0, Nat.zero_le _, rfl, rfl⟩
    case round =>
      obtain ⟨k, hk, rfl, rfl⟩ := hrel
      by_cases hlt : k < n
      · obtain ⟨a, rfl, hc⟩ := H.out k hlt
        have hne := HN.out k hlt
        generalize T k = t at *
        have hbf : (t.toList == s.toList) = false := by
          rw [beq_eq_false_iff_ne, ByteArray.toList_eq, ByteArray.toList_eq]
          exact fun h => hne (str_eq h)
        go_wp2
        all_goals first
          | (exfalso; contradiction)
          | exact ⟨⟨k + 1, hlt, congrArg (Value.int .i64) (by omega), trivial⟩, by simp only [intOf]; omega⟩
      · obtain rfl : k = n := by omega
        go_wp2
        go_ret
        exact ⟨rfl, rfl⟩
end Go.Proofs.Ytljkobijoenabaa.dv
namespace Go.Proofs.Ytljkobijoenabaa.dv
open Go.ChangeShapes Go.WideShapes Go.ChangeAt Go.RowKit Go.Maps Go.WideMaps Go.WideElems
set_option linter.unusedVariables false
set_option linter.unusedSimpArgs false
/-! whether a grammar is right: it is answered -/
set_option maxRecDepth 100000 in
set_option maxHeartbeats 2000000 in
theorem right_yes (w : World) (B : Nat) (ta va ra : Option Addr) (tl tc vl vc rc : Nat) (R : List Rl) (hR : RulesAt B w (.slice ra R.length rc) R) (hT : StrsAt B w ta tl) (hV : StrsAt B w va vl) (hB : B ≤ w.heap.size) (hn : R.length ≤ 24) (ht : tl ≤ 6) (hv : vl ≤ 8) (h8 : ∀ r ∈ R, r.right.length ≤ 8) :
    Calls Try.prog 14 #[.agg #[.slice ta tl tc, .slice va vl vc, .slice ra R.length rc]] w (AnsIf (1 ≤ vl ∧ ∀ r ∈ R, RlOk tl vl r) w) := by
  have b0 := Blk.new w 25 #[.slice ta tl tc, .slice va vl vc, .slice ra R.length rc]
  have hbl : Below w.heap.size w (w.alloc (.cells #[.slice ta tl tc, .slice va vl vc, .slice ra R.length rc] 25)) := below_lit _ _ _
  have hR1 := hR.below (hbl.mono hB)
  have hT1 := hT.below (hbl.mono hB)
  have hV1 := hV.below (hbl.mono hB)
  generalize hW0 : w.alloc (.cells #[.slice ta tl tc, .slice va vl vc, .slice ra R.length rc] 25) = w0 at *
  have hz0 : w0.heap.size = w.heap.size + 1 := by rw [← hW0]; simp
  have d0 := b0.cell 0
  have d1 := b0.cell 1
  have d2 := b0.cell 2
  simp only [List.getElem?_toArray, List.getElem?_cons_zero, List.getElem?_cons_succ] at d0 d1 d2
  have HR := Lib.hid hR1
  have HT := Lib.hid hT1
  have HV := Lib.hid hV1
  have H8 := Lib.hid h8
  clear hR hT hV hR1 hT1 hV1 h8
  by_cases hv1 : 1 ≤ vl
  · go_enter Try.func14, Try.ntmps14
    go_wp2
    go_loopw [3] (fun i wr => ∃ k : Nat, k ≤ vl ∧ i = .int .i64 k ∧ Qt w0 wr) (fun i _ => vl - (intOf i).toNat)
    case atStart => exact ⟨0, Nat.zero_le _, rfl, 0, rfl⟩
    case round =>
      obtain ⟨k, hk, rfl, hqt⟩ := hrel
      have f0 := (hqt.cell _).trans d0
      have f1 := (hqt.cell _).trans d1
      have f2 := (hqt.cell _).trans d2
      have hbw : Below w.heap.size w wr := hbl.trans (hqt.below.mono (by omega))
      by_cases hlt : k < vl
      · obtain ⟨a, s, rfl, hab, hc0, hs⟩ := HV.out k hlt
        have hc := (hqt.cell _).trans hc0
        obtain ⟨b, hb⟩ := isName_det s hs
        obtain ⟨x, hx⟩ := place_det w0 B (some a) vl vc s hs hv HV.out
        have HBN := Lib.hid hb
        have HX2 : ∀ n, Calls Try.prog 39 #[.slice (some a) vl vc, .string s] (wr.drewN n) fun e w' => e = .returned (.int .i64 x) ∧ w' = wr.drewN n := fun n => by
          obtain ⟨m, rfl⟩ := hqt
          rw [drewN_add]
          exact hx (m + n)
        have HX := Lib.hid HX2
        have HQ := Lib.hid hqt
        clear hb hx HX2 hqt hc0
        cases b
        · go_wp2
          go_quiet ((go_at_call 38; exact Calls.quiet_of_same ((HBN.out _).mono fun _ _ h => ⟨h.1, h.2⟩)))
          go_wp2
          go_ret
          exact ⟨_, rfl, (fun h => by cases h), below_drewN hbw _⟩
        · go_wp2
          go_quiet ((first | (go_at_call 38; exact Calls.quiet_of_same ((HBN.out _).mono fun _ _ h => ⟨h.1, h.2⟩)) | (go_at_call 39; exact Calls.quiet_of_same (HX.out _))))
          by_cases hxk : x = k
          · subst hxk
            go_wp2
            exact ⟨⟨k + 1, hlt, congrArg (Value.int .i64) (by omega), HQ.out.drewN _⟩, by simp only [intOf]; omega⟩
          · go_wp2
            go_ret
            exact ⟨_, rfl, (fun h => by cases h), below_drewN hbw _⟩
      · obtain rfl : vl = k := by omega
        go_wp2
        go_loopw [4] (fun i wr => ∃ k : Nat, k ≤ tl ∧ i = .int .i64 k ∧ Qt w0 wr) (fun i _ => tl - (intOf i).toNat)
        case atStart => exact ⟨0, Nat.zero_le _, rfl, hqt⟩
        case round =>
          clear f0 f1 f2 hbw hqt
          obtain ⟨j, hj, rfl, hqt⟩ := hrel
          have f0 := (hqt.cell _).trans d0
          have f1 := (hqt.cell _).trans d1
          have f2 := (hqt.cell _).trans d2
          have hbw : Below w.heap.size w wr := hbl.trans (hqt.below.mono (by omega))
          by_cases hlt : j < tl
          · obtain ⟨a, s, rfl, hab, hc0, hs⟩ := HT.out j hlt
            have hc := (hqt.cell _).trans hc0
            obtain ⟨b, hb⟩ := isQuote_det s hs
            have HBN := Lib.hid hb
            have HQ := Lib.hid hqt
            clear hb hc0
            cases b
            · clear hqt
              go_wp2
              go_quiet ((go_at_call 40; exact Calls.quiet_of_same ((HBN.out _).mono fun _ _ h => ⟨h.1, h.2⟩)))
              go_wp2
              go_ret
              exact ⟨_, rfl, (fun h => by cases h), below_drewN hbw _⟩
            · by_cases h0 : 0 < j
              · obtain ⟨p, hp⟩ : ∃ p, j = p + 1 := ⟨j - 1, by omega⟩
                obtain ⟨a', s', ea, _, hc0', hs'⟩ := HT.out p (by omega)
                cases ea
                have hc' := (hqt.cell _).trans hc0'
                have e1 : (j : Int) - 1 = (p : Int) := by omega
                have e2 : IntKind.i64.wrap ((j : Int) - 1) = (p : Int) := by rw [IntKind.wrap_i64]; omega
                have c3' : decide ((0 : Int) < (j : Int)) = true := decide_eq_true (by omega)
                have hpl : p < tl := by omega
                have hpi : (p : Int) < (tl : Int) := by omega
                clear hc0' hqt hp
                go_wp2
                go_quiet ((go_at_call 40; exact Calls.quiet_of_same ((HBN.out _).mono fun _ _ h => ⟨h.1, h.2⟩)))
                go_wp2
                all_goals first
                  | (go_ret; exact ⟨_, rfl, (fun h => by cases h), below_drewN hbw _⟩)
                  | exact ⟨⟨j + 1, hlt, congrArg (Value.int .i64) (by omega), HQ.out.drewN _⟩, by simp only [intOf]; omega⟩
              · have c3' : decide ((0 : Int) < (j : Int)) = false := decide_eq_false (by omega)
                clear hqt
                go_wp2
                go_quiet ((go_at_call 40; exact Calls.quiet_of_same ((HBN.out _).mono fun _ _ h => ⟨h.1, h.2⟩)))
                go_wp2
                exact ⟨⟨j + 1, hlt, congrArg (Value.int .i64) (by omega), HQ.out.drewN _⟩, by simp only [intOf]; omega⟩
          · obtain rfl : tl = j := by omega
            go_wp2
            go_loopw [5] (fun i wr => ∃ q : Nat, q ≤ R.length ∧ i = .int .i64 q ∧ (∀ i r', i < q → R[i]? = some r' → RlOk tl vl r') ∧ Below (w.heap.size + 1) w0 wr) (fun i _ => R.length - (intOf i).toNat)
            case atStart => exact ⟨0, Nat.zero_le _, rfl, fun i r' hi => absurd hi (Nat.not_lt_zero _), hqt.below.mono (by omega)⟩
            case round =>
              clear f0 f1 f2 hbw hqt
              obtain ⟨q, hq, rfl, hal, hbr⟩ := hrel
              have HAL := Lib.hid hal
              clear hal
              have hzr := hbr.size
              have bx := b0.below hbr (by omega)
              have f0 := bx.cell 0
              have f1 := bx.cell 1
              have f2 := bx.cell 2
              simp only [List.getElem?_toArray, List.getElem?_cons_zero, List.getElem?_cons_succ] at f0 f1 f2
              by_cases hlt : q < R.length
              · have hru := rule_any wr B ta va ra tl tc vl vc rc R q hlt (HR.out.below (hbr.mono (by omega))) (by omega) hn ht hv H8.out
                go_wp2_with fail
                refine hru.mono ?_
                rintro e w2 ⟨b1, rfl, hok, hb2⟩
                have HOK := Lib.hid hok
                clear hok
                have hb2' : Below (w.heap.size + 1) w0 w2 := hbr.trans (hb2.mono (by omega))
                cases b1
                · go_wp2
                  go_ret
                  exact ⟨_, rfl, (fun h => by cases h), hbl.trans (hb2'.mono (by omega))⟩
                · go_wp2
                  exact ⟨⟨q + 1, hlt, congrArg (Value.int .i64) (by omega), (fun i r' hi hr => by
                    rcases Nat.lt_or_ge i q with h1 | h1
                    · exact HAL.out i r' h1 hr
                    · obtain rfl : i = q := by omega
                      exact HOK.out (by simp) r' hr), hb2'⟩, by simp only [intOf]; omega⟩
              · have hqR : q = R.length := by omega
                subst hqR
                have hfin : 1 ≤ vl ∧ ∀ r ∈ R, RlOk tl vl r := ⟨hv1, fun r hr => by
                  obtain ⟨i, hi, rfl⟩ := List.mem_iff_getElem.1 hr
                  exact HAL.out i _ hi (List.getElem?_eq_getElem hi)⟩
                have HFIN := Lib.hid hfin
                clear hfin
                go_wp2
                go_loopw [6] (fun i wr => ∃ q : Nat, q ≤ vl ∧ i = .int .i64 q ∧ Below (w.heap.size + 1) w0 wr) (fun i _ => vl - (intOf i).toNat)
                case atStart => exact ⟨0, Nat.zero_le _, rfl, hbr⟩
                case round =>
                  clear f0 f1 f2 bx hzr hbr
                  obtain ⟨q, hq, rfl, hbr⟩ := hrel
                  have hzr := hbr.size
                  have bx := b0.below hbr (by omega)
                  have f0 := bx.cell 0
                  have f1 := bx.cell 1
                  have f2 := bx.cell 2
                  simp only [List.getElem?_toArray, List.getElem?_cons_zero, List.getElem?_cons_succ] at f0 f1 f2
                  by_cases hlt : q < vl
                  · have hru := count_any wr B ta va ra tl tc vl vc rc R (q : Int) (HR.out.below (hbr.mono (by omega))) (by omega) hn
                    go_wp2_with fail
                    refine hru.mono ?_
                    rintro e w2 ⟨x1, rfl, hb2⟩
                    have hb2' : Below (w.heap.size + 1) w0 w2 := hbr.trans (hb2.mono (by omega))
                    go_wp2
                    · go_ret
                      exact ⟨_, rfl, (fun h => by cases h), hbl.trans (hb2'.mono (by omega))⟩
                    · exact ⟨⟨q + 1, hlt, congrArg (Value.int .i64) (by omega), hb2'⟩, by simp only [intOf]; omega⟩
                  · obtain rfl : vl = q := by omega
                    go_wp2
                    go_loopw [7] (fun i wr => ∃ q : Nat, q ≤ tl ∧ i = .int .i64 q ∧ Below (w.heap.size + 1) w0 wr) (fun i _ => tl - (intOf i).toNat)
                    case atStart => exact ⟨0, Nat.zero_le _, rfl, hbr⟩
                    case round =>
                      clear f0 f1 f2 bx hzr hbr
                      obtain ⟨q, hq, rfl, hbr⟩ := hrel
                      have hzr := hbr.size
                      have bx := b0.below hbr (by omega)
                      have f0 := bx.cell 0
                      have f1 := bx.cell 1
                      have f2 := bx.cell 2
                      simp only [List.getElem?_toArray, List.getElem?_cons_zero, List.getElem?_cons_succ] at f0 f1 f2
                      by_cases hlt : q < tl
                      · have hru : ∀ z, Calls Try.prog 43 _ wr _ := fun z => uses_any wr B ta va ra tl tc vl vc rc R z (HR.out.below (hbr.mono (by omega))) (by omega) hn H8.out
                        go_wp2_with fail
                        refine (hru _).mono ?_
                        rintro e w2 ⟨b1, rfl, hb2⟩
                        have hb2' : Below (w.heap.size + 1) w0 w2 := hbr.trans (hb2.mono (by omega))
                        cases b1
                        · go_wp2
                          go_ret
                          exact ⟨_, rfl, (fun h => by cases h), hbl.trans (hb2'.mono (by omega))⟩
                        · go_wp2
                          exact ⟨⟨q + 1, hlt, congrArg (Value.int .i64) (by omega), hb2'⟩, by simp only [intOf]; omega⟩
                      · obtain rfl : tl = q := by omega
                        go_wp2
                        go_ret
                        exact ⟨_, rfl, (fun _ => HFIN.out), hbl.trans (hbr.mono (by omega))⟩
  · go_enter Try.func14, Try.ntmps14
    go_wp2
    go_ret
    exact ⟨_, rfl, (fun h => by cases h), hbl⟩
theorem right_any (w : World) (B : Nat) (ta va ra : Option Addr) (tl tc vl vc rc : Nat) (R : List Rl) (hR : RulesAt B w (.slice ra R.length rc) R) (hT : StrsAt B w ta tl) (hV : StrsAt B w va vl) (hB : B ≤ w.heap.size) (hn : R.length ≤ 24) (ht : tl ≤ 6) (hv : vl ≤ 8) (h8 : ∀ r ∈ R, r.right.length ≤ 8) :
    Calls Try.prog 14 #[.agg #[.slice ta tl tc, .slice va vl vc, .slice ra R.length rc]] w (Ans w) := (right_yes w B ta va ra tl tc vl vc rc R hR hT hV hB hn ht hv h8).mono fun _ _ h => ans_of h
end Go.Proofs.Ytljkobijoenabaa.dv
