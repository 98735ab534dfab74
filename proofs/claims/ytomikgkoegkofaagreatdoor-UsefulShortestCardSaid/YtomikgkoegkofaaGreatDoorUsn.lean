import Derived.Test.YtomikgkoegkofaaGreatDoorUsm
namespace Go.Proofs.YtomikgkoegkofaaGreatDoor.dv
open Go.ChangeShapes Go.WideShapes Go.ChangeAt Go.RowKit Go.Maps Go.WideMaps Go.WideElems
set_option linter.unusedVariables false
set_option linter.unusedSimpArgs false
/-! a list of ways in memory; the way of a symbol -/
def ReadW (w : World) (v : Value) (S : List Way) : Prop := ∃ ao cap, v = .slice ao S.length cap ∧ S.length ≤ maxLen ∧ ∀ i, i < S.length → ∃ a : Addr, ao = some a ∧ a.block < w.heap.size ∧ w.cell? (a.add (i * 3)) = some (.int .i64 ((S.getD i noW).1 : Int)) ∧ w.cell? (a.add (i * 3 + 1)) = some (.int .i64 ((S.getD i noW).2.1 : Int)) ∧ w.cell? (a.add (i * 3 + 2)) = some (.int .i64 (S.getD i noW).2.2)
theorem ReadW.below {w w' : World} {v : Value} {S : List Way} (h : ReadW w v S) (hb : Below w.heap.size w w') : ReadW w' v S := by
  obtain ⟨ao, cap, e, hm, hc⟩ := h
  refine ⟨ao, cap, e, hm, fun i hi => ?_⟩
  obtain ⟨a, e2, hab, h1, h2, h3⟩ := hc i hi
  have k : ∀ j, w'.cell? (a.add j) = w.cell? (a.add j) := fun j => hb.cell (p := a.add j) (by rw [add_block]; exact hab)
  exact ⟨a, e2, Nat.lt_of_lt_of_le hab hb.size, (k _).trans h1, (k _).trans h2, (k _).trans h3⟩
theorem addw_form (a : Addr) (n m : Nat) (hm : m ≠ 0) : a.add (n + m) = { block := (a.add n).block, off := (a.add n).off + m } := by
  unfold Addr.add
  rw [if_neg (by omega)]
  by_cases h : n = 0
  · subst h; simp
  · rw [if_neg h]; simp [Nat.add_assoc]
set_option maxRecDepth 100000 in
set_option maxHeartbeats 2000000 in
theorem wayOf_any (w : World) (v : Value) (S : List Way) (x : Int) (h : ReadW w v S) : Calls Tryz.prog 92 #[.int .i64 x, v] w fun e w' => e = .returned (WayV (wat S x)) ∧ Below w.heap.size w w' := by
  obtain ⟨ao, cap, rfl, hm, hc⟩ := h
  have hit := fun W => isTerm_any W x
  by_cases h0 : x < 0
  · simp only [decide_eq_true h0] at hit
    have hat : wat S x = (1, 0, -1) := by unfold wat; rw [if_pos h0]
    rw [hat]
    clear hc hat
    go_enter Tryz.func92, Tryz.ntmps92
    go_wp2_with fail
    refine (hit _).mono ?_
    rintro e w1 ⟨rfl, rfl⟩
    go_wp2
    refine bodyPost_ret (v := WayV (1, 0, -1)) (by simp [results, Tryz.results92, go_sem, WayV]) rfl ?_
    exact ⟨rfl, (Below.refl _ w).alloc (Nat.le_refl _) _⟩
  · simp only [decide_eq_false h0] at hit
    obtain ⟨k, rfl⟩ : ∃ k : Nat, x = k := ⟨x.toNat, by omega⟩
    have hat : wat S (k : Int) = S.getD k noW := by rw [wat_var (by omega), Int.toNat_natCast]
    rw [hat]
    by_cases hlt : k < S.length
    · obtain ⟨a, rfl, hab, h1, h2, h3⟩ := hc k hlt
      have hlt2 : decide ((S.length : Int) ≤ (k : Int)) = false := decide_eq_false (by omega)
      have hlt3 : (k : Int) < (S.length : Int) := by omega
      generalize S.getD k noW = y at h1 h2 h3 ⊢
      obtain ⟨c, s, r⟩ := y
      simp only at h1 h2 h3
      have hb0 := (Below.refl _ w).alloc (Nat.le_refl _) (.cells #[.int .i64 0, .int .i64 0, .int .i64 0] 57)
      have y0 := (hb0.cell (p := a.add (k * 3)) (by rw [add_block]; exact hab)).trans h1
      have y1 := (hb0.cell (p := a.add (k * 3 + 1)) (by rw [add_block]; exact hab)).trans h2
      have y2 := (hb0.cell (p := a.add (k * 3 + 2)) (by rw [add_block]; exact hab)).trans h3
      rw [addw_form a (k * 3) 1 (by decide)] at y1
      rw [addw_form a (k * 3) 2 (by decide)] at y2
      clear hc hat h1 h2 h3
      go_enter Tryz.func92, Tryz.ntmps92
      go_wp2_with fail
      refine (hit _).mono ?_
      rintro e w1 ⟨rfl, rfl⟩
      go_wp2
      refine bodyPost_ret (v := WayV (c, s, r)) (by simp [results, Tryz.results92, go_sem, WayV]) rfl ?_
      exact ⟨rfl, (Below.refl _ w).alloc (Nat.le_refl _) _⟩
    · have hat2 : S.getD k noW = noW := by rw [List.getD_eq_getElem?_getD, List.getElem?_eq_none (by omega)]; rfl
      have hlt2 : decide ((S.length : Int) ≤ (k : Int)) = true := decide_eq_true (by omega)
      rw [hat2]
      clear hc hat hat2
      go_enter Tryz.func92, Tryz.ntmps92
      go_wp2_with fail
      refine (hit _).mono ?_
      rintro e w1 ⟨rfl, rfl⟩
      go_wp2
      refine bodyPost_ret (v := WayV noW) (by simp [results, Tryz.results92, go_sem, WayV, noW, Far]) rfl ?_
      exact ⟨rfl, ((Below.refl _ w).alloc (Nat.le_refl _) _).alloc (by rw [World.size_alloc]; exact Nat.le_succ _) _⟩
end Go.Proofs.YtomikgkoegkofaaGreatDoor.dv
