import Derived.Test.YtomikgkoegkofaaGreatDoorDvh
import Derived.Laws.BitsLemmas
namespace Go.Proofs.YtomikgkoegkofaaGreatDoor.dv
open Go.ChangeShapes Go.WideShapes Go.ChangeAt Go.RowKit Go.Maps Go.WideMaps Go.WideElems
set_option linter.unusedVariables false
set_option linter.unusedSimpArgs false
/-! a form's beginning -/
def leadW (F : List Int) : List Int := F.takeWhile fun x => decide (x < 0)
def restW (F : List Int) : List Int := F.dropWhile fun x => decide (x < 0)
def idxW (F : List Int) : Int := if restW F = [] then -1 else (leadW F).length
theorem lead_rest (F : List Int) : leadW F ++ restW F = F := List.takeWhile_append_dropWhile
/-- at place k, all ahead being terminals, stands a variable -/
theorem idx_at (F : List Int) (k : Nat) (hk : k < F.length) (h : ∀ i, i < k → F.getD i 0 < 0) (hv : 0 ≤ F.getD k 0) : idxW F = k ∧ leadW F = F.take k ∧ restW F = F.drop k := by
  have hl : leadW F = F.take k ∧ restW F = F.drop k := by
    have e : F = F.take k ++ F.drop k := (List.take_append_drop k F).symm
    have hd : F.drop k = F.getD k 0 :: F.drop (k + 1) := by
      rw [List.drop_eq_getElem_cons hk, List.getD_eq_getElem?_getD, List.getElem?_eq_getElem hk]; rfl
    have ht : ∀ x ∈ F.take k, decide (x < 0) = true := fun x hx => by
      obtain ⟨i, hi, rfl⟩ := List.mem_iff_getElem.1 hx
      have hi2 : i < k := by simp at hi; omega
      have := h i hi2
      rw [List.getD_eq_getElem?_getD, List.getElem?_eq_getElem (by omega)] at this
      simpa using this
    constructor
    · unfold leadW
      conv => lhs; rw [e]
      rw [List.takeWhile_append_of_pos ht, hd, List.takeWhile_cons, if_neg (by simp only [decide_eq_true_eq]; omega), List.append_nil]
    · unfold restW
      conv => lhs; rw [e]
      rw [List.dropWhile_append_of_pos ht, hd, List.dropWhile_cons, if_neg (by simp only [decide_eq_true_eq]; omega)]
  refine ⟨?_, hl⟩
  unfold idxW
  rw [hl.2, hl.1, if_neg]
  · simp; omega
  · intro e
    have := congrArg List.length e
    simp at this
    omega
theorem idx_none (F : List Int) (h : ∀ i, i < F.length → F.getD i 0 < 0) : idxW F = -1 ∧ leadW F = F ∧ restW F = [] := by
  have ht : ∀ x ∈ F, decide (x < 0) = true := fun x hx => by
    obtain ⟨i, hi, rfl⟩ := List.mem_iff_getElem.1 hx
    have := h i hi
    rw [List.getD_eq_getElem?_getD, List.getElem?_eq_getElem hi] at this
    simpa using this
  have h2 : restW F = [] := by
    have := List.dropWhile_append_of_pos (l₂ := []) ht
    simpa [restW] using this
  refine ⟨by unfold idxW; rw [if_pos h2], ?_, h2⟩
  have := lead_rest F
  rw [h2, List.append_nil] at this
  exact this
set_option maxRecDepth 100000 in
set_option maxHeartbeats 1000000 in
theorem index_any (w : World) (v : Value) (F : List Int) (h : RowAt w v F) : Calls Tryz.prog 69 #[v, .func (.func 70) #[] #[]] w fun e w' => e = .returned (.int .i64 (idxW F)) ∧ w' = w := by
  obtain ⟨ao, cap, rfl, hl, hm, hn, hin, hc⟩ := h
  have hlen : F.length ≤ 9223372036854775807 := by unfold maxLen at hm; omega
  have HC := Lib.hid hc
  clear hc hin
  go_enter Tryz.func69, Tryz.ntmps69
  go_wp2
  go_loopw [5, 8] (fun i q wr => ∃ k : Nat, k ≤ F.length ∧ q = .int .i64 k ∧ (∀ i, i < k → F.getD i 0 < 0) ∧ wr = w) (fun _ q _ => F.length - (intOf q).toNat)
  case atStart => exact ⟨0, Nat.zero_le _, rfl, fun i hi => absurd hi (Nat.not_lt_zero _), rfl⟩
  case round =>
    obtain ⟨k, hk, rfl, hneg, rfl⟩ := hrel
    have HN := Lib.hid hneg
    clear hneg
    by_cases hlt : k < F.length
    · obtain ⟨a, rfl, hab, hca⟩ := HC.out k hlt
      by_cases hv : 0 ≤ F.getD k 0
      · have hid := (idx_at F k hlt HN.out hv).1
        have HI := Lib.hid hid
        clear hid
        generalize F.getD k 0 = x at *
        go_wp2_with (go_at_call 70; refine (isVar_yes _ _ hv).mono ?_; rintro e w2 ⟨rfl, rfl⟩)
        go_ret
        exact ⟨by rw [HI.out]; rfl, rfl⟩
      · have hmo : ∀ i, i < k + 1 → F.getD i 0 < 0 := fun i hi => by
          rcases Nat.lt_or_ge i k with h | h
          · exact HN.out i h
          · obtain rfl : i = k := by omega
            omega
        have HM := Lib.hid hmo
        clear hmo
        generalize F.getD k 0 = x at *
        have hvn := isVar_no wr x hv
        go_wp2_with fail
        refine hvn.mono ?_
        rintro e w2 ⟨rfl, rfl⟩
        go_wp2
        exact ⟨⟨k + 1, hlt, congrArg (Value.int .i64) (by omega), HM.out, trivial⟩, by simp only [intOf]; omega⟩
    · obtain rfl : k = F.length := by omega
      have hid := (idx_none F HN.out).1
      have HI := Lib.hid hid
      clear hid
      go_wp2
      go_ret
      exact ⟨by rw [HI.out]; rfl, rfl⟩
theorem iv_step (xs : List Int) (f : Int → Int) (k : Nat) (hk : k < xs.length) : (IV ((xs.take k).map f) ++ List.replicate (xs.length - k) (Value.int .i64 0)).set k (Value.int .i64 (f (xs.getD k 0))) = IV ((xs.take (k + 1)).map f) ++ List.replicate (xs.length - (k + 1)) (Value.int .i64 0) := by
  have hl : (IV ((xs.take k).map f)).length = k := by simp [IV]; omega
  rw [List.set_append_right _ _ (by omega), hl, Nat.sub_self, List.take_succ_eq_append_getElem hk, show xs.length - k = (xs.length - (k + 1)) + 1 from by omega, List.replicate_succ, List.set_cons_zero]
  simp only [IV, List.map_append, List.map_cons, List.map_nil, List.append_assoc, List.cons_append, List.nil_append, List.getD_eq_getElem?_getD, List.getElem?_eq_getElem hk, Option.getD_some]
theorem cm_any (x : Int) (h : In64 x) : bits .xor .i64 (-1) x = -1 - x := by
  show IntKind.i64.wrap ((BitVec.ofInt 64 (-1) ^^^ BitVec.ofInt 64 x).toNat : Int) = _
  have e : BitVec.ofInt 64 (-1) = BitVec.allOnes 64 := by decide
  obtain ⟨h1, h2⟩ := h
  rw [e, BitVec.allOnes_xor, BitVec.toNat_not, BitVec.toNat_ofInt]
  rw [IntKind.wrap_i64]
  have hp : ((2 ^ 64 : Nat) : Int) = 18446744073709551616 := by decide
  have hq : (2 ^ 64 : Nat) = 18446744073709551616 := by decide
  rw [hq]
  have h3 := Int.emod_nonneg x (show (18446744073709551616 : Int) ≠ 0 by decide)
  have h4 := Int.emod_lt_of_pos x (show (0 : Int) < 18446744073709551616 by decide)
  omega
theorem cm_if (x : Int) (h : In64 x) : bits .xor .i64 (if IntKind.i64.signed = true then -1 else 9223372036854775807) x = -1 - x := cm_any x h
set_option maxRecDepth 100000 in
set_option maxHeartbeats 1000000 in
theorem numbers_any (w : World) (v : Value) (F : List Int) (h : RowAt w v F) (hF : F.length ≤ 1000000) : Calls Tryz.prog 77 #[v] w fun e w' => ∃ u, e = .returned u ∧ w'.ownsRow w.heap.size 3 1 u F.length (IV (F.map fun x => -1 - x)) ∧ Below w.heap.size w w' := by
  obtain ⟨i0, hi, hz0, hz1, hz2⟩ := info_parts info_int
  obtain ⟨ao, cap, rfl, hl, hm, hn, hin, hc⟩ := h
  have HC := Lib.hid hc
  have HIN := Lib.hid hin
  clear hc hin
  go_enter Tryz.func77, Tryz.ntmps77
  go_wp2_with (at_make; refine wpList_make_full _ rfl _ _ 28 rfl w.heap.size 3 i0 (.int .i64 0) 1 Tryz.underlying28 hi hz0 hz1 .i64 .i64 _ _ F.length rfl rfl rfl rfl (by rw [hz2]; omega) (by unfold maxLen; omega) (Nat.le_refl _) ?_; intro w0 hown0 hgrow0)
  have hB0 : Below w.heap.size w w0 := (Below.refl _ _).grown hgrow0 (Nat.le_refl _) (fun k h => by cases h)
  rw [show (Value.int IntKind.i64 0).cells = #[.int .i64 0] from rfl, toList_madeCells_one, Nat.mul_one] at hown0
  clear hgrow0
  go_loopw [11] (fun i wr => ∃ k : Nat, k ≤ F.length ∧ i = .int .i64 k ∧ wr.ownsRow w.heap.size 3 1 (.slice (some ⟨w.heap.size, 0, none⟩) F.length F.length) F.length (IV ((F.take k).map fun x => -1 - x) ++ List.replicate (F.length - k) (.int .i64 0)) ∧ Below w.heap.size w wr) (fun i _ => F.length - (intOf i).toNat)
  case atStart => exact ⟨0, Nat.zero_le _, rfl, hown0, hB0⟩
  case round =>
    obtain ⟨k, hk, rfl, hown, hbel⟩ := hrel
    clear hown0 hB0
    by_cases hlt : k < F.length
    · have hcw : wr.cell? ⟨w.heap.size, k, none⟩ = some (.int .i64 0) := by
        rw [hown.cellAt k (by omega), List.getElem?_append_right (by simp [IV]; omega), List.getElem?_replicate]
        simp [IV]
        omega
      have hfw := hown.frozenAt k
      obtain ⟨a, rfl, hab, hca⟩ := HC.out k hlt
      have hca2 : wr.cell? (a.add k) = some (.int .i64 (F.getD k 0)) := (hbel.cell (p := a.add k) (by rw [add_block]; exact hab)).trans hca
      have hst := iv_step F (fun x => -1 - x) k hlt
      have hnum := HIN.out (F.getD k 0) (by rw [List.getD_eq_getElem?_getD, List.getElem?_eq_getElem hlt]; simp)
      clear hca
      generalize F.getD k 0 = x at *
      have HS := Lib.hid hst
      clear hst
      go_wp2_with fail
      obtain ⟨o1, o2⟩ := hown.stored k (.int .i64 (-1 - x))
      rw [HS.out] at o1
      rw [cm_if x hnum]
      exact ⟨⟨k + 1, by omega, congrArg (Value.int .i64) (by omega), o1, hbel.grown o2 hbel.size (fun k h => by cases h; exact Nat.le_refl _)⟩, by simp only [intOf]; omega⟩
    · have hkk : k = F.length := by omega
      subst hkk
      go_wp2
      go_ret
      refine ⟨_, rfl, ?_, hbel⟩
      rw [List.take_length, Nat.sub_self, List.replicate_zero, List.append_nil] at hown
      exact hown
end Go.Proofs.YtomikgkoegkofaaGreatDoor.dv
