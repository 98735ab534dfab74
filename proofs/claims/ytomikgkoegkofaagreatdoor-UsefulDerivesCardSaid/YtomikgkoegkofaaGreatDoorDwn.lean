import Derived.Test.YtomikgkoegkofaaGreatDoorDvl
namespace Go.Proofs.YtomikgkoegkofaaGreatDoor.dv
open Go.ChangeShapes Go.WideShapes Go.ChangeAt Go.RowKit Go.Maps Go.WideMaps Go.WideElems
set_option linter.unusedVariables false
set_option linter.unusedSimpArgs false
/-! small ones -/
theorem lit_row (w : World) (x : List Int) (n : Nat) (cs : Array Value) (hc : cs = (IV x).toArray) (hn : x.length = n) (hin : ∀ n ∈ x, In64 n) (hl : n ≤ 1000) : RowAt (w.alloc (.cells cs 3)) (.slice (some ⟨w.heap.size, 0, none⟩) n n) x := by
  subst hn
  subst hc
  refine ⟨_, _, rfl, Nat.le_refl _, by unfold maxLen; omega, fun h => (by cases h), hin, fun i hi => ⟨_, rfl, by simp, ?_⟩⟩
  rw [Addr.add_lit, Nat.zero_add, (Blk.new w 3 (IV x).toArray).cell i]
  simp [IV, List.getD_eq_getElem?_getD, hi]
theorem WordAt.drop2 {w w' : World} {v : Value} {x : List Int} (h : WordAt w v x) (hb : Below w.heap.size w w') : WordAt w' v x := h.below hb
theorem below_lit (w : World) (cs : Array Value) (t : TypeId) : Below w.heap.size w (w.alloc (.cells cs t)) := (Below.refl _ w).alloc (Nat.le_refl _) _
theorem rsame_self (w : World) (v u : Value) (x : List Int) (hv : WordAt w v x) (hu : WordAt w u x) (hx : x.length ≤ 1000) : Calls Tryz.prog 10 #[v, u] w fun e w' => e = .returned (.bool true) ∧ Below w.heap.size w w' := by
  refine (rsame_any w v u x x hv hu hx hx).mono ?_
  rintro e w' ⟨rfl, n, rfl⟩
  exact ⟨by simp, below_drewN (Below.refl _ _) n⟩
theorem two_below (w : World) (cs ds : Array Value) (t u : TypeId) : Below w.heap.size w ((w.alloc (.cells cs t)).alloc (.cells ds u)) := ((Below.refl _ w).alloc (Nat.le_refl _) _).alloc (by simp) _
def Wf (R : List Rl) : Prop := ∀ r ∈ R, r.wt < 18446744073709551616
end Go.Proofs.YtomikgkoegkofaaGreatDoor.dv
