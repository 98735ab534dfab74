import Derived.Test.YtomikgkoegkofaaGreatDoorDvg
namespace Go.Proofs.YtomikgkoegkofaaGreatDoor.dv
open Go.ChangeShapes Go.WideShapes Go.ChangeAt Go.RowKit Go.Maps Go.WideMaps Go.WideElems
set_option linter.unusedVariables false
set_option linter.unusedSimpArgs false
/-! grammars -/
structure Rl where
  left : Int
  right : List Int
  wt : Nat
/-- a rule in memory, at an address -/
def RlAt (B : Nat) (w : World) (a : Addr) (k : Nat) (r : Rl) : Prop := ∃ ao cap, w.cell? (a.add (k * 3)) = some (.int .i64 r.left) ∧ w.cell? (a.add (k * 3 + 1)) = some (.slice ao r.right.length cap) ∧ w.cell? (a.add (k * 3 + 2)) = some (.float .f64 r.wt) ∧
  r.right.length ≤ cap ∧ cap ≤ maxLen ∧ (ao = none → cap = 0) ∧ RowUnder B w ao r.right ∧ (∀ n ∈ r.right, In64 n) ∧ In64 r.left
def RulesAt (B : Nat) (w : World) (v : Value) (R : List Rl) : Prop := ∃ ao cap, v = .slice ao R.length cap ∧ R.length ≤ maxLen ∧ ∀ k (r : Rl), R[k]? = some r → ∃ a : Addr, ao = some a ∧ a.block < B ∧ RlAt B w a k r
/-- a grammar, but for its names -/
def GAt (B : Nat) (w : World) (g : Value) (tl vl : Nat) (R : List Rl) : Prop := ∃ ta tc va vc rv, g = .agg #[.slice ta tl tc, .slice va vl vc, rv] ∧ RulesAt B w rv R
def isRl (R : List Rl) (k : Int) : Bool := decide (0 ≤ k) && decide (k < R.length)
set_option maxHeartbeats 1000000 in
theorem isRule_any (w : World) (ta va ra : Option Addr) (tl tc vl vc n rc : Nat) (k : Int) (hn : n ≤ maxLen) : Calls Tryz.prog 95 #[.agg #[.slice ta tl tc, .slice va vl vc, .slice ra n rc], .int .i64 k] w fun e w' => e = .returned (.bool (decide (0 ≤ k) && decide (k < n))) ∧ Below w.heap.size w w' := by
  unfold maxLen at hn
  have b0 := Blk.new w 25 #[.slice ta tl tc, .slice va vl vc, .slice ra n rc]
  have c2 := b0.cell 2
  simp only [List.getElem?_toArray, List.getElem?_cons_zero, List.getElem?_cons_succ] at c2
  go_enter Tryz.func95, Tryz.ntmps95
  go_wp2
  · have h1 : 0 ≤ k := by assumption
    go_ret
    exact ⟨by simp [h1], (Below.refl _ w).alloc (Nat.le_refl _) _⟩
  · have h1 : k < 0 := by first | assumption | omega
    go_ret
    exact ⟨by simp [show ¬ 0 ≤ k by omega], (Below.refl _ w).alloc (Nat.le_refl _) _⟩
theorem isVar_yes (w : World) (x : Int) (h : 0 ≤ x) : Calls Tryz.prog 70 #[.int .i64 x] w fun e w' => e = .returned (.bool true) ∧ w' = w := by
  have := isVar_any w x
  rwa [decide_eq_true h] at this
theorem isVar_no (w : World) (x : Int) (h : ¬ 0 ≤ x) : Calls Tryz.prog 70 #[.int .i64 x] w fun e w' => e = .returned (.bool false) ∧ w' = w := by
  have := isVar_any w x
  rwa [decide_eq_false h] at this
theorem isRl_no {R : List Rl} {k : Int} (h : ¬ (0 ≤ k ∧ k < R.length)) : (decide (0 ≤ k) && decide (k < (R.length : Int))) = false := by
  simp only [Bool.and_eq_false_iff, decide_eq_false_iff_not]
  omega
def refW (R : List Rl) (v k : Int) : Int := if isRl R k then (if 0 ≤ v then (if (R.getD k.toNat ⟨0, [], 0⟩).left = v then 0 else 14) else 13) else 12
set_option maxHeartbeats 1000000 in
theorem refusal_any (w : World) (B : Nat) (ta va : Option Addr) (tl tc vl vc : Nat) (rv : Value) (R : List Rl) (v k : Int) (h : RulesAt B w rv R) (hB : B ≤ w.heap.size) : Calls Tryz.prog 73 #[.agg #[.slice ta tl tc, .slice va vl vc, rv], .int .i64 v, .int .i64 k] w fun e w' => e = .returned (.int .i64 (refW R v k)) ∧ Below w.heap.size w w' := by
  obtain ⟨ra, rc, rfl, hn, hr⟩ := h
  have hlen := hn
  unfold maxLen at hlen
  have HR := Lib.hid hr
  clear hr
  have b0 := Blk.new w 25 #[.slice ta tl tc, .slice va vl vc, .slice ra R.length rc]
  have c0 := b0.cell 0
  have c1 := b0.cell 1
  have c2 := b0.cell 2
  simp only [List.getElem?_toArray, List.getElem?_cons_zero, List.getElem?_cons_succ] at c0 c1 c2
  have hbl : Below w.heap.size w (w.alloc (.cells #[.slice ta tl tc, .slice va vl vc, .slice ra R.length rc] 25)) := (Below.refl _ w).alloc (Nat.le_refl _) _
  have his := isRule_any (w.alloc (.cells #[.slice ta tl tc, .slice va vl vc, .slice ra R.length rc] 25)) ta va ra tl tc vl vc R.length rc k hn
  by_cases h1 : 0 ≤ k ∧ k < R.length
  · obtain ⟨h1, h2⟩ := h1
    obtain ⟨kn, rfl⟩ : ∃ kn : Nat, k = kn := ⟨k.toNat, by omega⟩
    have hir : isRl R (kn : Int) = true := by simp [isRl]; omega
    rw [decide_eq_true h1, decide_eq_true h2] at his
    obtain ⟨r, hr⟩ : ∃ r, R[kn]? = some r := ⟨_, List.getElem?_eq_getElem (by omega)⟩
    have hgr : R.getD (kn : Int).toNat ⟨0, [], 0⟩ = r := by simp [List.getD_eq_getElem?_getD, hr]
    obtain ⟨a, rfl, hab, ao, cap, hl, _⟩ := HR.out kn r hr
    go_enter Tryz.func73, Tryz.ntmps73
    go_wp2_with fail
    refine his.mono ?_
    rintro e w1 ⟨rfl, hb1⟩
    have b1 := b0.below hb1 (by simp)
    have d2 := b1.cell 2
    simp only [List.getElem?_toArray, List.getElem?_cons_zero, List.getElem?_cons_succ] at d2
    have hbe : Below w.heap.size w w1 := hbl.trans (hb1.mono (by simp))
    have hl1 : w1.cell? (a.add (kn * 3)) = some (.int .i64 r.left) := ((hbe.mono hB).cell (p := a.add (kn * 3)) (by rw [add_block]; exact hab)).trans hl
    by_cases h3 : 0 ≤ v
    · by_cases h4 : r.left = v
      · subst h4
        go_wp2_with (go_at_call 70; refine (isVar_yes _ _ h3).mono ?_; rintro e w2 ⟨rfl, rfl⟩)
        all_goals
          go_ret
          exact ⟨by simp [refW, hir, h3, hr, List.getD_eq_getElem?_getD], hbe⟩
      · go_wp2_with (go_at_call 70; refine (isVar_yes _ _ h3).mono ?_; rintro e w2 ⟨rfl, rfl⟩)
        all_goals
          go_ret
          exact ⟨by simp [refW, hir, h3, hr, h4, List.getD_eq_getElem?_getD], hbe⟩
    · have hvn := isVar_no w1 v h3
      go_wp2_with fail
      refine hvn.mono ?_
      rintro e w2 ⟨rfl, rfl⟩
      go_wp2
      all_goals
        go_ret
        exact ⟨by simp [refW, hir, show ¬ (0 ≤ v) from by omega], hbe⟩
  · have hir : isRl R k = false := isRl_no h1
    rw [isRl_no h1] at his
    go_enter Tryz.func73, Tryz.ntmps73
    go_wp2_with fail
    refine his.mono ?_
    rintro e w1 ⟨rfl, hb1⟩
    have hbe : Below w.heap.size w w1 := hbl.trans (hb1.mono (by simp))
    go_wp2
    go_ret
    exact ⟨by simp [refW, hir], hbe⟩
end Go.Proofs.YtomikgkoegkofaaGreatDoor.dv
