import Derived.Test.YtomikgkoegkofaaDvp
import Derived.Test.YtomikgkoegkofaaDwl
import Derived.Test.YtomikgkoegkofaaDwn
import Derived.Deep.RegionLaw
namespace Go.Proofs.Ytomikgkoegkofaa.dv
open Go.ChangeShapes Go.WideShapes Go.ChangeAt Go.RowKit Go.Maps Go.WideMaps Go.WideElems
set_option linter.unusedVariables false
set_option linter.unusedSimpArgs false
/-! the document's First and Lead -/
set_option maxRecDepth 100000 in
set_option maxHeartbeats 1000000 in
theorem rfirst_any (w : World) (v : Value) (F : List Int) (h : RowAt w v F) : Calls Try.prog 20 #[v] w fun e w' => e = .returned (.int .i64 (idxW F)) ∧ w' = w := by
  obtain ⟨ao, cap, rfl, hl, hm, hn, hin, hc⟩ := h
  have hlen : F.length ≤ 9223372036854775807 := by unfold maxLen at hm; omega
  have HC := Lib.hid hc
  clear hc hin
  go_enter Try.func20, Try.ntmps20
  go_wp2
  go_loopw [3] (fun q wr => ∃ k : Nat, k ≤ F.length ∧ q = .int .i64 k ∧ (∀ i, i < k → F.getD i 0 < 0) ∧ wr = w) (fun q _ => F.length - (intOf q).toNat)
  case atStart => exact ⟨0, Nat.zero_le _, rfl, fun i hi => absurd hi (Nat.not_lt_zero _), rfl⟩
  case round =>
    obtain ⟨k, hk, rfl, hneg, rfl⟩ := hrel
    have HN := Lib.hid hneg
    clear hneg
    by_cases hlt : k < F.length
    · obtain ⟨a, rfl, hab, hca⟩ := HC.out k hlt
      by_cases hv : 0 ≤ F.getD k 0
      · have hid := (idx_at F k hlt HN.out hv).1
        have HI := Lib.hid hid
        clear hid
        generalize F.getD k 0 = x at *
        go_wp2
        go_ret
        exact ⟨by rw [HI.out]; rfl, rfl⟩
      · have hmo : ∀ i, i < k + 1 → F.getD i 0 < 0 := fun i hi => by
          rcases Nat.lt_or_ge i k with h | h
          · exact HN.out i h
          · obtain rfl : i = k := by omega
            omega
        have HM := Lib.hid hmo
        clear hmo
        generalize F.getD k 0 = x at *
        go_wp2
        exact ⟨⟨k + 1, hlt, congrArg (Value.int .i64) (by omega), HM.out, trivial⟩, by simp only [intOf]; omega⟩
    · obtain rfl : k = F.length := by omega
      have hid := (idx_none F HN.out).1
      have HI := Lib.hid hid
      clear hid
      go_wp2
      go_ret
      exact ⟨by rw [HI.out]; rfl, rfl⟩
theorem lead_atW (F : List Int) (k : Nat) (hk : k ≤ F.length) (h : ∀ i, i < k → F.getD i 0 < 0) (he : k = F.length ∨ 0 ≤ F.getD k 0) : leadW F = F.take k := by
  rcases Nat.lt_or_ge k F.length with hlt | hge
  · exact (idx_at F k hlt h (by rcases he with h | h; omega; exact h)).2.1
  · obtain rfl : k = F.length := by omega
    rw [List.take_length]
    exact (idx_none F h).2.1
theorem iv_snoc' (xs : List Int) (f : Int → Int) (j : Nat) (h : j < xs.length) : IV ((xs.take j).map f) ++ IV [f (xs.getD j 0)] = IV ((xs.take (j + 1)).map f) := by
  rw [List.take_succ_eq_append_getElem h, List.getD_eq_getElem?_getD, List.getElem?_eq_getElem h]
  simp only [IV, List.map_append, List.map_cons, List.map_nil, Option.getD_some]
set_option maxRecDepth 100000 in
set_option maxHeartbeats 1000000 in
theorem rlead_any (w : World) (v : Value) (F : List Int) (h : RowAt w v F) (hF : F.length ≤ 1000000) : Calls Try.prog 19 #[v] w fun e w' => ∃ u, e = .returned u ∧ w'.ownsRow w.heap.size 3 1 u (leadW F).length (IV ((leadW F).map fun x => -1 - x)) ∧ Below w.heap.size w w' := by
  obtain ⟨i0, hi, hz0, hz1, hz2⟩ := info_parts info_int
  obtain ⟨ao, cap, rfl, hl, hm, hn, hin, hc⟩ := h
  have HC := Lib.hid hc
  have HIN := Lib.hid hin
  clear hc hin
  go_enter Try.func19, Try.ntmps19
  go_wp2
  go_loopw [3, 4] (fun z i wr => ∃ k : Nat, k ≤ F.length ∧ i = .int .i64 k ∧ (∀ i, i < k → F.getD i 0 < 0) ∧ wr.ownsRow w.heap.size 3 1 z k (IV ((F.take k).map fun x => -1 - x)) ∧ Below w.heap.size w wr) (fun _ i _ => F.length - (intOf i).toNat)
  case atStart => exact ⟨0, Nat.zero_le _, rfl, fun i hi => absurd hi (Nat.not_lt_zero _), World.ownsRow_lit w #[] 0 (Nat.le_refl _) (by decide) rfl, (Below.refl _ _).alloc (Nat.le_refl _) _⟩
  case round =>
    obtain ⟨k, hk, rfl, hneg, hown, hbr⟩ := hrel
    have HN := Lib.hid hneg
    clear hneg
    have hzr := hbr.size
    have HOW := Lib.hid hown
    have HQ : ∀ u, (k = F.length ∨ 0 ≤ F.getD k 0) → wr.ownsRow w.heap.size 3 1 u k (IV ((F.take k).map fun x => -1 - x)) → wr.ownsRow w.heap.size 3 1 u (leadW F).length (IV ((leadW F).map fun x => -1 - x)) := fun u he ho => by
      rw [lead_atW F k hk HN.out he, List.length_take, Nat.min_eq_left hk]
      exact ho
    have HQ := Lib.hid HQ
    by_cases hlt : k < F.length
    · obtain ⟨a, rfl, hab, hca⟩ := HC.out k hlt
      have hca2 : wr.cell? (a.add k) = some (.int .i64 (F.getD k 0)) := (hbr.cell (p := a.add k) (by rw [add_block]; exact hab)).trans hca
      have hlt' : (k : Int) < (F.length : Int) := by omega
      by_cases hv : 0 ≤ F.getD k 0
      · have HE := Lib.hid (HQ.out _ (.inr hv) hown)
        have hnl : (decide (F.getD k 0 < 0)) = false := by simpa using hv
        generalize F.getD k 0 = x at *
        clear hown hca
        go_wp2
        go_ret
        exact ⟨_, rfl, HE.out, hbr⟩
      · have hmo : ∀ i, i < k + 1 → F.getD i 0 < 0 := fun i hi => by
          rcases Nat.lt_or_ge i k with h | h
          · exact HN.out i h
          · obtain rfl : i = k := by omega
            omega
        have HM := Lib.hid hmo
        have hnum := HIN.out (F.getD k 0) (by rw [List.getD_eq_getElem?_getD, List.getElem?_eq_getElem hlt]; simp)
        have hst := iv_snoc' F (fun x => -1 - x) k hlt
        have HS := Lib.hid hst
        have hcm := cm_if (F.getD k 0) hnum
        clear hmo hst hca HQ
        generalize F.getD k 0 = x at *
        generalize (F.take k).map (fun x => -1 - x) = L at *
        go_wp2_with (at_builtin; go_loud (refine wpList_append_own _ rfl _ _ 26 rfl w.heap.size 3 i0 (.int .i64 0) 1 8 Try.underlying26 hi hz0 hz1 hz2 rfl (by decide) _ _ _ rfl (hown.alloc _) ⟨wr.heap.size, 0, none⟩ 1 1 (IV [-1 - x]) rfl rfl (cell_one_new _ _ _) (by intro u hu; simp [IV] at hu; subst hu; rfl) (by unfold maxLen; omega) (by omega) (by simp; omega) ?_); intro v' w2 hown' hgrow _)
        have hb2 : Below w.heap.size w w2 := (hbr.alloc hzr _).grown hgrow (by simp; omega) (fun j hj => (HOW.out.lt j hj).1)
        have hown2 : w2.ownsRow w.heap.size 3 1 v' (k + 1) (IV L ++ IV [-1 - x]) := hown'
        rw [HS.out] at hown2
        exact ⟨⟨k + 1, hlt, congrArg (Value.int .i64) (by omega), HM.out, hown2, hb2⟩, by simp only [intOf]; omega⟩
    · obtain rfl : k = F.length := by omega
      have HE := Lib.hid (HQ.out _ (.inl rfl) hown)
      clear hown
      go_wp2
      go_ret
      exact ⟨_, rfl, HE.out, hbr⟩
end Go.Proofs.Ytomikgkoegkofaa.dv
