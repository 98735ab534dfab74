import Derived.Test.YtdhkimlofhipaaaBase
namespace Go.Proofs.Ytdhkimlofhipaaa.mt
open Go.ChangeShapes Go.WideShapes Go.ChangeAt Go.RowKit
set_option linter.unusedVariables false
/-! a meter: a block of two cells -/
def up (n : Int) : Int := if n < 0 then 0 else n
def heldI (n : Int) : Int := if n < 0 then 0 else if 1000000 < n then 1000000 else n
def MtAt (w : World) (g : Nat) (l s : Int) : Prop := Blk w g 39 #[.int .i64 l, .int .i64 s] ∧ 0 ≤ l ∧ 0 ≤ s ∧ l + s ≤ 1000000
theorem heldI_bd (n : Int) : 0 ≤ heldI n ∧ heldI n ≤ 1000000 := by unfold heldI; split <;> (try split) <;> omega
theorem up_bd (n : Int) : 0 ≤ up n := by unfold up; split <;> omega
theorem MtAt.kept {S : Nat → Prop} {w w' : World} {g : Nat} {l s : Int} (h : MtAt w g l s) (k : Kp S w w') (hn : ¬ S g) : MtAt w' g l s := ⟨k.blk h.1 hn, h.2⟩
set_option maxRecDepth 100000 in
theorem new_any (n : Int) (w : World) : Calls Try.prog 8 #[.int .i64 n] w fun e w' => e = .returned (.pointer (some ⟨w.heap.size, 0, none⟩)) ∧ w' = w.alloc (.cells #[.int .i64 (heldI n), .int .i64 0] 39) := by
  rcases (by unfold heldI; by_cases h1 : n < 0
             · simp [h1]
             · by_cases h2 : 1000000 < n <;> simp [h1, h2] : (n < 0 ∧ heldI n = 0) ∨ (¬ n < 0 ∧ 1000000 < n ∧ heldI n = 1000000) ∨ (¬ n < 0 ∧ ¬ 1000000 < n ∧ heldI n = n)) with ⟨h1, e⟩ | ⟨h1, h2, e⟩ | ⟨h1, h2, e⟩ <;> rw [e] <;> clear e
  all_goals
    go_enter Try.func8, Try.ntmps8
    go_wp2
    go_ret
    exact ⟨rfl, rfl⟩
set_option maxRecDepth 100000 in
theorem left_any (w : World) (g : Nat) (l s : Int) (h : MtAt w g l s) : Calls Try.prog 9 #[.pointer (some ⟨g, 0, none⟩)] w fun e w' => e = .returned (.int .i64 l) ∧ w = w' := by
  have hc : w.cell? ⟨g, 0, none⟩ = some (.int .i64 l) := h.1.cell 0
  clear h
  go_enter Try.func9, Try.ntmps9
  go_wp2
  go_ret
  exact ⟨rfl, rfl⟩
set_option maxRecDepth 100000 in
theorem spent_any (w : World) (g : Nat) (l s : Int) (h : MtAt w g l s) : Calls Try.prog 11 #[.pointer (some ⟨g, 0, none⟩)] w fun e w' => e = .returned (.int .i64 s) ∧ w = w' := by
  have hc : w.cell? ⟨g, 1, none⟩ = some (.int .i64 s) := h.1.cell 1
  clear h
  go_enter Try.func11, Try.ntmps11
  go_wp2
  go_ret
  exact ⟨rfl, rfl⟩
theorem MtAt.set2 {w : World} {g : Nat} {l s l' s' : Int} (h : Blk w g 39 #[.int .i64 l, .int .i64 s]) : Blk ((w.setCell ⟨g, 0, none⟩ (.int .i64 l')).setCell ⟨g, 1, none⟩ (.int .i64 s')) g 39 #[.int .i64 l', .int .i64 s'] :=
  (h.set_ 0 (.int .i64 l')).set_ 1 (.int .i64 s')
theorem kp2 (w : World) (g : Nat) (u v : Value) : Kp (fun i => i = g) w ((w.setCell ⟨g, 0, none⟩ u).setCell ⟨g, 1, none⟩ v) :=
  Kp.set_ (S := fun i => i = g) (Kp.set_ (S := fun i => i = g) (Kp.refl _ w) (.inl rfl) u) (.inl rfl) v
/-- the panic's value -/
def Full (g : Nat) : Value := .iface 41 (.agg #[.pointer (some ⟨g, 0, none⟩)])
set_option maxRecDepth 100000 in
theorem spend_ok (w : World) (g : Nat) (l s n : Int) (h : MtAt w g l s) (hn : up n ≤ l) : Calls Try.prog 14 #[.pointer (some ⟨g, 0, none⟩), .int .i64 n] w fun e w' => e = .returned (.tuple #[]) ∧ MtAt w' g (l - up n) (s + up n) ∧ Kp (fun i => i = g) w w' := by
  obtain ⟨hb, h1, h2, h3⟩ := h
  have hu := up_bd n
  have hc : w.cell? ⟨g, 0, none⟩ = some (.int .i64 l) := hb.cell 0
  have hc1 : w.cell? ⟨g, 1, none⟩ = some (.int .i64 s) := hb.cell 1
  have hf := hb.frozen 0
  have hf1 := hb.frozen 1
  rcases (by unfold up; by_cases h1 : n < 0 <;> simp [h1] : (n < 0 ∧ up n = 0) ∨ (¬ n < 0 ∧ up n = n)) with ⟨hn0, e⟩ | ⟨hn0, e⟩ <;> rw [e] at hn hu ⊢ <;> clear e
  all_goals
    go_enter Try.func14, Try.ntmps14
    go_wp2
    refine bodyPost_end (results_none rfl _ _ _) rfl ?_
    refine ⟨rfl, ⟨?_, by omega, by omega, by omega⟩, kp2 _ _ _ _⟩
    first | exact MtAt.set2 hb | (rw [Int.sub_zero, Int.add_zero]; exact MtAt.set2 hb)
set_option maxRecDepth 100000 in
theorem spend_full (w : World) (g : Nat) (l s n : Int) (h : MtAt w g l s) (hn : l < n) : Calls Try.prog 14 #[.pointer (some ⟨g, 0, none⟩), .int .i64 n] w fun e w' => e = .panicked [{ v := Full g, recovered := false }] ∧ MtAt w' g 0 (s + l) ∧ Kp (fun i => i = g) w w' := by
  obtain ⟨hb, h1, h2, h3⟩ := h
  have hc : w.cell? ⟨g, 0, none⟩ = some (.int .i64 l) := hb.cell 0
  have hc1 : w.cell? ⟨g, 1, none⟩ = some (.int .i64 s) := hb.cell 1
  have hf := hb.frozen 0
  have hf1 := hb.frozen 1
  have hn0 : ¬ n < 0 := by omega
  have hnl : ¬ n ≤ l := by omega
  go_enter Try.func14, Try.ntmps14
  go_wp2
  exact ⟨rfl, rfl, ⟨MtAt.set2 hb, by omega, by omega, by omega⟩, kp2 _ _ _ _⟩
end Go.Proofs.Ytdhkimlofhipaaa.mt
