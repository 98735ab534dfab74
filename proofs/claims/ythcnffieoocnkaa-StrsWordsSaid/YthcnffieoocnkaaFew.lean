import Derived.Test.YthcnffieoocnkaaAliv
import Derived.Deep.Matrix
namespace Go.Proofs.Ythcnffieoocnkaa.st
open Go.ChangeShapes Go.WideShapes Go.ChangeAt Go.RowKit Go.Maps Go.WideMaps Go.WideElems
set_option linter.unusedVariables false
/-! what came in -/
def RowAt (w : World) (v : Value) (x : List Int) : Prop := ∃ ao cap, v = .slice ao x.length cap ∧ x.length ≤ cap ∧ cap ≤ maxLen ∧ (ao = none → cap = 0) ∧ (∀ n ∈ x, In64 n) ∧ ∀ i, i < x.length → ∃ a : Addr, ao = some a ∧ a.block < w.heap.size ∧ w.cell? (a.add i) = some (.int .i64 (x.getD i 0))
def RowsAt (w : World) (v : Value) (xss : List (List Int)) : Prop := ∃ ao cap, v = .slice ao xss.length cap ∧ xss.length ≤ maxLen ∧ ∀ i, i < xss.length → ∃ (a : Addr) (u : Value), ao = some a ∧ a.block < w.heap.size ∧ w.cell? (a.add i) = some u ∧ RowAt w u (xss.getD i [])
theorem RowAt.word {w : World} {v : Value} {x : List Int} (h : RowAt w v x) : WordAt w v x := by
  obtain ⟨ao, cap, e, _, _, _, h1, h2⟩ := h
  exact ⟨ao, cap, e, h1, h2⟩
theorem RowAt.below {w w' : World} {v : Value} {xs : List Int} (h : RowAt w v xs) (hb : Below w.heap.size w w') : RowAt w' v xs := by
  obtain ⟨ao, cap, e, h1, h2, h3, hin, hc⟩ := h
  refine ⟨ao, cap, e, h1, h2, h3, hin, fun i hi => ?_⟩
  obtain ⟨a, e2, hab, hcell⟩ := hc i hi
  exact ⟨a, e2, by have := hb.size; omega, (hb.cell (p := a.add i) (by rw [add_block]; exact hab)).trans hcell⟩
theorem RowsAt.below {w w' : World} {v : Value} {xss : List (List Int)} (h : RowsAt w v xss) (hb : Below w.heap.size w w') : RowsAt w' v xss := by
  obtain ⟨ao, cap, e, hm, hc⟩ := h
  refine ⟨ao, cap, e, hm, fun i hi => ?_⟩
  obtain ⟨a, u, e2, hab, hcell, hw⟩ := hc i hi
  exact ⟨a, u, e2, by have := hb.size; omega, (hb.cell (p := a.add i) (by rw [add_block]; exact hab)).trans hcell, hw.below hb⟩
def FewP (xss : List (List Int)) : Prop := xss.length ≤ 20 ∧ ∀ x ∈ xss, x.length ≤ 20
instance (xss : List (List Int)) : Decidable (FewP xss) := by unfold FewP; infer_instance
theorem RowsAt.words {w : World} {v : Value} {xss : List (List Int)} (h : RowsAt w v xss) (hf : FewP xss) : WordsAt w v xss := by
  obtain ⟨ao, cap, e, hm, hc⟩ := h
  refine ⟨ao, cap, e, fun i hi => ?_⟩
  obtain ⟨a, u, e2, hab, hcell, hw⟩ := hc i hi
  refine ⟨a, u, e2, hab, hcell, hw.word, ?_⟩
  have := hf.2 (xss.getD i []) (by rw [List.getD_eq_getElem?_getD, List.getElem?_eq_getElem hi]; simp)
  omega
theorem RowsAt.fine {w : World} {v : Value} {xss : List (List Int)} (h : RowsAt w v xss) (hf : FewP xss) : ∀ x ∈ xss, Fine x := fun x hx => by
  obtain ⟨ao, cap, e, hm, hc⟩ := h
  obtain ⟨i, hi, rfl⟩ := List.mem_iff_getElem.1 hx
  obtain ⟨a, u, e2, hab, hcell, hw⟩ := hc i hi
  have e3 : xss.getD i [] = xss[i] := by rw [List.getD_eq_getElem?_getD, List.getElem?_eq_getElem hi]; simp
  rw [e3] at hw
  obtain ⟨_, _, _, _, _, _, h1, _⟩ := hw
  exact ⟨h1, by have := hf.2 _ hx; omega⟩
set_option maxRecDepth 100000 in
set_option maxHeartbeats 1000000 in
theorem few_any (w : World) (v : Value) (xss : List (List Int)) (hv : RowsAt w v xss) : Calls Try.prog 16 #[v] w fun e w' => e = .returned (.bool (decide (FewP xss))) ∧ w = w' := by
  obtain ⟨ao, cap, rfl, hm, hc⟩ := hv
  unfold maxLen at hm
  have HC := Lib.hid hc
  clear hc
  by_cases hl : xss.length ≤ 20
  · go_enter Try.func16, Try.ntmps16
    go_wp2
    go_loop [10] (fun i => ∃ k : Nat, k ≤ xss.length ∧ i = .int .i64 k ∧ ∀ j, j < k → (xss.getD j []).length ≤ 20) (fun i => xss.length - (intOf i).toNat)
    case atStart => exact ⟨0, Nat.zero_le _, rfl, fun j hj => absurd hj (Nat.not_lt_zero _)⟩
    case round =>
      obtain ⟨k, hk, rfl, hall⟩ := hrel
      have HA := Lib.hid hall
      clear hall
      by_cases hlt : k < xss.length
      · obtain ⟨a, u, rfl, hab, hca, hw⟩ := HC.out k hlt
        obtain ⟨ao2, cap2, rfl, hc1, hc2, _⟩ := hw
        have hmem : xss.getD k [] ∈ xss := by rw [List.getD_eq_getElem?_getD, List.getElem?_eq_getElem hlt]; simp
        have hext : (xss.getD k []).length ≤ 20 → ∀ j, j < k + 1 → (xss.getD j []).length ≤ 20 := fun h j hj => by
          by_cases e : j = k
          · rw [e]; exact h
          · exact HA.out j (by omega)
        have hno : ¬ (xss.getD k []).length ≤ 20 → ¬ FewP xss := fun h hf => h (hf.2 _ hmem)
        clear hmem
        unfold maxLen at hc2
        generalize (xss.getD k []).length = n at *
        have HE := Lib.hid hext
        have HN := Lib.hid hno
        clear hext hno
        by_cases h20 : n ≤ 20
        · go_wp2
          go_round
          case rel => exact ⟨k + 1, by omega, by go_num, HE.out h20⟩
          case measure => simp [intOf]; omega
        · go_wp2
          go_ret
          exact ⟨ret_bool (decide_eq_false (HN.out h20)).symm, rfl⟩
      · obtain rfl : k = xss.length := by omega
        have hd : decide (FewP xss) = true := decide_eq_true ⟨hl, fun x hx => by
          obtain ⟨i, hi, rfl⟩ := List.mem_iff_getElem.1 hx
          have := HA.out i hi
          rw [List.getD_eq_getElem?_getD, List.getElem?_eq_getElem hi] at this
          simpa using this⟩
        have HD := Lib.hid hd
        clear hd
        go_wp2
        go_ret
        exact ⟨ret_bool HD.out.symm, rfl⟩
  · have hd : decide (FewP xss) = false := decide_eq_false (fun h => hl h.1)
    have HD := Lib.hid hd
    clear hd
    go_enter Try.func16, Try.ntmps16
    go_wp2
    go_ret
    exact ⟨ret_bool HD.out.symm, rfl⟩
end Go.Proofs.Ythcnffieoocnkaa.st
