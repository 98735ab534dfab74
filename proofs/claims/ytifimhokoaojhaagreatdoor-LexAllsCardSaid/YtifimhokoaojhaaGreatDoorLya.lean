import Derived.Test.YtifimhokoaojhaaGreatDoorLxz
import Derived.Test.YtifimhokoaojhaaGreatDoorLxq
namespace Go.Proofs.YtifimhokoaojhaaGreatDoor.lx
open Go.ChangeShapes Go.WideShapes Go.ChangeAt Go.RowKit
set_option linter.unusedVariables false
attribute [local go_sem] run_store_float
theorem ListT.of_rown {w : World} {B : Nat} {v : Value} {ts : List Tok} (h : w.ownsRow B 60 4 v ts.length (tcells ts)) : ListT w v ts := by
  by_cases h0 : 0 < ts.length
  · obtain ⟨g, cap, e, _, hg, hc⟩ := own_open h h0
    exact ⟨_, cap, e, fun _ => ⟨g, rfl, hg, hc⟩⟩
  · obtain ⟨ao, cap, e⟩ := own_form h
    exact ⟨ao, cap, e, fun h => absurd h h0⟩
set_option maxRecDepth 100000 in
set_option maxHeartbeats 2000000 in
/-- two lists of the same words -/
theorem lsame_any (w : World) (v1 v2 : Value) (ts : List Tok) (hm : ts.length ≤ maxLen) (h1 : ListT w v1 ts) (h2 : ListT w v2 ts) : Calls Tryz.prog 13 #[v1, v2] w fun e w' => e = .returned (.bool true) ∧ Below w.heap.size w w' := by
  obtain ⟨o1, cap1, rfl, hl1⟩ := h1
  obtain ⟨o2, cap2, rfl, hl2⟩ := h2
  obtain ⟨n, hn⟩ : ∃ n, n = ts.length := ⟨_, rfl⟩
  rw [← hn]
  have hm2 : n ≤ 9223372036854775807 := by
    unfold maxLen at hm
    omega
  clear hm
  by_cases h0 : 0 < ts.length
  · obtain ⟨g1, rfl, hg1, hc1⟩ := hl1 h0
    obtain ⟨g2, rfl, hg2, hc2⟩ := hl2 h0
    have HC1 := Lib.hid hc1
    have HC2 := Lib.hid hc2
    have HN := Lib.hid hn
    clear hl1 hl2 hc1 hc2
    rw [← hn] at h0
    clear hn
    go_enter Tryz.func13, Tryz.ntmps13
    go_wp2_with fail
    go_loopw [15] (fun i wr => ∃ k : Nat, i = .int .i64 k ∧ k ≤ n ∧ Below w.heap.size w wr) (fun i _ => n - (intOf i).toNat)
    case atStart => exact ⟨0, rfl, Nat.zero_le _, Below.refl _ _⟩
    case round =>
      obtain ⟨k, rfl, hk, hbr⟩ := hrel
      have hzr := hbr.size
      by_cases hlt : k < n
      · have hx : ∀ j, j < 4 → wr.cell? ⟨g1, k * 4 + j, none⟩ = (tokC (ts.getD k ⟨0, 0, [], 0⟩))[j]? := fun j hj => by
          have h1 := tcells_at ts k j (by rw [← HN.out]; exact hlt) hj
          obtain ⟨u, hu⟩ : ∃ u, (tokC (ts.getD k ⟨0, 0, [], 0⟩))[j]? = some u := ⟨_, List.getElem?_eq_getElem (by simpa [tokC] using hj)⟩
          rw [hu] at h1 ⊢
          exact (hbr.cell (p := ⟨g1, k * 4 + j, none⟩) hg1).trans (HC1.out _ u h1)
        have hy : ∀ j, j < 4 → wr.cell? ⟨g2, k * 4 + j, none⟩ = (tokC (ts.getD k ⟨0, 0, [], 0⟩))[j]? := fun j hj => by
          have h1 := tcells_at ts k j (by rw [← HN.out]; exact hlt) hj
          obtain ⟨u, hu⟩ : ∃ u, (tokC (ts.getD k ⟨0, 0, [], 0⟩))[j]? = some u := ⟨_, List.getElem?_eq_getElem (by simpa [tokC] using hj)⟩
          rw [hu] at h1 ⊢
          exact (hbr.cell (p := ⟨g2, k * 4 + j, none⟩) hg2).trans (HC2.out _ u h1)
        generalize ts.getD k ⟨0, 0, [], 0⟩ = X at *
        obtain ⟨K, P, T, F⟩ := X
        have c0 : wr.cell? ⟨g1, k * 4, none⟩ = some (.int .i64 K) := hx 0 (by decide)
        have c1 : wr.cell? ⟨g1, k * 4 + 1, none⟩ = some (.int .i64 P) := hx 1 (by decide)
        have c2 : wr.cell? ⟨g1, k * 4 + 2, none⟩ = some (.string (S T)) := hx 2 (by decide)
        have c3 : wr.cell? ⟨g1, k * 4 + 3, none⟩ = some (.float .f64 F) := hx 3 (by decide)
        have d0 : wr.cell? ⟨g2, k * 4, none⟩ = some (.int .i64 K) := hy 0 (by decide)
        have d1 : wr.cell? ⟨g2, k * 4 + 1, none⟩ = some (.int .i64 P) := hy 1 (by decide)
        have d2 : wr.cell? ⟨g2, k * 4 + 2, none⟩ = some (.string (S T)) := hy 2 (by decide)
        have d3 : wr.cell? ⟨g2, k * 4 + 3, none⟩ = some (.float .f64 F) := hy 3 (by decide)
        have hgr1 : g1 < wr.heap.size := by omega
        have hgr2 : g2 < wr.heap.size := by omega
        have HBR := Lib.hid hbr
        clear hx hy hbr
        go_wp2_with (go_at_call 18; refine (rsame_self _ _).mono ?_; rintro e w1 ⟨rfl, rfl⟩)
        exact ⟨⟨k + 1, by go_num, hlt, (HBR.out.alloc hzr _).alloc (by simp; omega) _⟩, by simp only [intOf]; omega⟩
      · obtain rfl : k = n := by omega
        go_wp2_with fail
        go_ret
        exact ⟨rfl, hbr⟩
  · obtain rfl : n = 0 := by omega
    clear hl1 hl2 hn
    go_enter Tryz.func13, Tryz.ntmps13
    go_wp2_with fail
    go_loopw [15] (fun i wr => i = .int .i64 0 ∧ Below w.heap.size w wr) (fun i _ => 0)
    case atStart => exact ⟨rfl, Below.refl _ _⟩
    case round =>
      obtain ⟨rfl, hbr⟩ := hrel
      go_wp2_with fail
      go_ret
      exact ⟨rfl, hbr⟩
end Go.Proofs.YtifimhokoaojhaaGreatDoor.lx
