import Derived.Test.YtomikgkoegkofaaGreatDoorDvs
namespace Go.Proofs.YtomikgkoegkofaaGreatDoor.dv
open Go.ChangeShapes Go.WideShapes Go.ChangeAt Go.RowKit Go.Maps Go.WideMaps Go.WideElems
set_option linter.unusedVariables false
set_option linter.unusedSimpArgs false
/-! whether a grammar may be: it is answered -/
theorem RulesAt.at {B : Nat} {w : World} {ra : Option Addr} {rc : Nat} {R : List Rl} (h : RulesAt B w (.slice ra R.length rc) R) (k : Nat) (hk : k < R.length) : ∃ (a : Addr) (r : Rl) (ao : Option Addr) (cap : Nat), ra = some a ∧ a.block < B ∧ R[k]? = some r ∧ w.cell? (a.add (k * 3)) = some (.int .i64 r.left) ∧ w.cell? { block := (a.add (k * 3)).block, off := (a.add (k * 3)).off + 1 } = some (.slice ao r.right.length cap) ∧ w.cell? { block := (a.add (k * 3)).block, off := (a.add (k * 3)).off + 2 } = some (.float .f64 r.wt) ∧ r.right.length ≤ cap ∧ cap ≤ maxLen ∧ (ao = none → cap = 0) ∧ RowUnder B w ao r.right ∧ (∀ n ∈ r.right, In64 n) ∧ In64 r.left := by
  obtain ⟨ra', rc', e, _, hr⟩ := h
  cases e
  obtain ⟨r, hrk⟩ : ∃ r, R[k]? = some r := ⟨_, List.getElem?_eq_getElem hk⟩
  obtain ⟨a, ea, hab, ao, cap, h1, h2, h3, h4⟩ := hr k r hrk
  rw [add_form a (k * 3) 1 (by decide)] at h2
  rw [add_form a (k * 3) 2 (by decide)] at h3
  exact ⟨a, r, ao, cap, ea, hab, hrk, h1, h2, h3, h4⟩
set_option maxRecDepth 100000 in
set_option maxHeartbeats 600000 in
theorem count_any (w : World) (B : Nat) (ta va ra : Option Addr) (tl tc vl vc rc : Nat) (R : List Rl) (v : Int) (hR : RulesAt B w (.slice ra R.length rc) R) (hB : B ≤ w.heap.size) (hn : R.length ≤ 24) :
    Calls Tryz.prog 29 #[.agg #[.slice ta tl tc, .slice va vl vc, .slice ra R.length rc], .int .i64 v] w fun e w' => ∃ x, e = .returned (.int .i64 x) ∧ Below w.heap.size w w' := by
  have b0 := Blk.new w 25 #[.slice ta tl tc, .slice va vl vc, .slice ra R.length rc]
  have hbl : Below w.heap.size w (w.alloc (.cells #[.slice ta tl tc, .slice va vl vc, .slice ra R.length rc] 25)) := below_lit _ _ _
  have hR1 := hR.below (hbl.mono hB)
  generalize hW0 : w.alloc (.cells #[.slice ta tl tc, .slice va vl vc, .slice ra R.length rc] 25) = w0 at *
  have d2 := b0.cell 2
  simp only [List.getElem?_toArray, List.getElem?_cons_zero, List.getElem?_cons_succ] at d2
  have HR1 := Lib.hid hR1
  clear hR hR1
  go_enter Tryz.func29, Tryz.ntmps29
  go_wp2_with fail
  go_loopw [5, 6] (fun c i wr => ∃ (x : Int) (k : Nat), c = .int .i64 x ∧ 0 ≤ x ∧ x ≤ k ∧ k ≤ R.length ∧ i = .int .i64 k ∧ wr = w0) (fun _ i _ => R.length - (intOf i).toNat)
  case atStart => exact ⟨0, 0, rfl, by omega, by omega, Nat.zero_le _, rfl, rfl⟩
  case round =>
    obtain ⟨x, k, rfl, hx0, hx1, hk, rfl, rfl⟩ := hrel
    by_cases hlt : k < R.length
    · obtain ⟨a, r, ao, cap, rfl, hab, hrk, h1, _⟩ := HR1.out.at k hlt
      go_wp2
      · exact ⟨⟨x + 1, k + 1, rfl, by omega, by omega, hlt, congrArg (Value.int .i64) (by omega), trivial⟩, by simp only [intOf]; omega⟩
      · exact ⟨⟨x, k + 1, rfl, by omega, by omega, hlt, congrArg (Value.int .i64) (by omega), trivial⟩, by simp only [intOf]; omega⟩
    · obtain rfl : k = R.length := by omega
      go_wp2
      go_ret
      exact ⟨_, rfl, hbl⟩
set_option maxRecDepth 100000 in
set_option maxHeartbeats 600000 in
theorem uses_any (w : World) (B : Nat) (ta va ra : Option Addr) (tl tc vl vc rc : Nat) (R : List Rl) (v : Int) (hR : RulesAt B w (.slice ra R.length rc) R) (hB : B ≤ w.heap.size) (hn : R.length ≤ 24) (h8 : ∀ r ∈ R, r.right.length ≤ 8) :
    Calls Tryz.prog 30 #[.agg #[.slice ta tl tc, .slice va vl vc, .slice ra R.length rc], .int .i64 v] w fun e w' => ∃ b, e = .returned (.bool b) ∧ Below w.heap.size w w' := by
  have b0 := Blk.new w 25 #[.slice ta tl tc, .slice va vl vc, .slice ra R.length rc]
  have hbl : Below w.heap.size w (w.alloc (.cells #[.slice ta tl tc, .slice va vl vc, .slice ra R.length rc] 25)) := below_lit _ _ _
  have hR1 := hR.below (hbl.mono hB)
  generalize hW0 : w.alloc (.cells #[.slice ta tl tc, .slice va vl vc, .slice ra R.length rc] 25) = w0 at *
  have d2 := b0.cell 2
  simp only [List.getElem?_toArray, List.getElem?_cons_zero, List.getElem?_cons_succ] at d2
  have HR1 := Lib.hid hR1
  have H8 := Lib.hid h8
  clear hR hR1 h8
  go_enter Tryz.func30, Tryz.ntmps30
  go_wp2_with fail
  go_loopw [5] (fun i wr => ∃ (k : Nat), k ≤ R.length ∧ i = .int .i64 k ∧ wr = w0) (fun i _ => R.length - (intOf i).toNat)
  case atStart => exact ⟨0, Nat.zero_le _, rfl, rfl⟩
  case round =>
    obtain ⟨k, hk, rfl, rfl⟩ := hrel
    by_cases hlt : k < R.length
    · obtain ⟨a, r, ao, cap, rfl, hab, hrk, h1, h2, h3, h4, h5, h6, h7, _⟩ := HR1.out.at k hlt
      have hr8 := H8.out r (List.mem_of_getElem? hrk)
      have H7 := Lib.hid h7
      clear h7
      go_wp2
      go_loopw [6] (fun i wr2 => ∃ (j : Nat), j ≤ r.right.length ∧ i = .int .i64 j ∧ wr2 = wr) (fun i _ => r.right.length - (intOf i).toNat)
      case atStart => exact ⟨0, Nat.zero_le _, rfl, rfl⟩
      case round =>
        obtain ⟨j, hj, rfl, rfl⟩ := hrel
        by_cases hlt2 : j < r.right.length
        · obtain ⟨a2, rfl, hab2, hc2⟩ := H7.out j hlt2
          generalize r.right.getD j 0 = y at *
          go_wp2
          · go_ret
            exact ⟨_, rfl, hbl⟩
          · exact ⟨⟨j + 1, hlt2, congrArg (Value.int .i64) (by omega), trivial⟩, by simp only [intOf]; omega⟩
        · obtain rfl : j = r.right.length := by omega
          go_wp2
          exact ⟨⟨k + 1, hlt, congrArg (Value.int .i64) (by omega), trivial⟩, by simp only [intOf]; omega⟩
    · obtain rfl : k = R.length := by omega
      go_wp2
      go_ret
      exact ⟨_, rfl, hbl⟩
set_option maxRecDepth 100000 in
set_option maxHeartbeats 600000 in
theorem few_any (w : World) (B : Nat) (ta va ra : Option Addr) (tl tc vl vc rc : Nat) (R : List Rl) (hR : RulesAt B w (.slice ra R.length rc) R) (hB : B ≤ w.heap.size) (hn : R.length ≤ maxLen) (ht : tl ≤ maxLen) (hv : vl ≤ maxLen) :
    Calls Tryz.prog 7 #[.agg #[.slice ta tl tc, .slice va vl vc, .slice ra R.length rc]] w fun e w' => ∃ b, e = .returned (.bool b) ∧ (b = true → vl ≤ 8 ∧ tl ≤ 6 ∧ R.length ≤ 24 ∧ ∀ r ∈ R, r.right.length ≤ 8) ∧ Below w.heap.size w w' := by
  unfold maxLen at hn ht hv
  have b0 := Blk.new w 25 #[.slice ta tl tc, .slice va vl vc, .slice ra R.length rc]
  have hbl : Below w.heap.size w (w.alloc (.cells #[.slice ta tl tc, .slice va vl vc, .slice ra R.length rc] 25)) := below_lit _ _ _
  have hR1 := hR.below (hbl.mono hB)
  generalize hW0 : w.alloc (.cells #[.slice ta tl tc, .slice va vl vc, .slice ra R.length rc] 25) = w0 at *
  have d0 := b0.cell 0
  have d1 := b0.cell 1
  have d2 := b0.cell 2
  simp only [List.getElem?_toArray, List.getElem?_cons_zero, List.getElem?_cons_succ] at d0 d1 d2
  have HR1 := Lib.hid hR1
  clear hR hR1
  by_cases hf : vl ≤ 8 ∧ tl ≤ 6 ∧ R.length ≤ 24
  · obtain ⟨f1, f2, f3⟩ := hf
    go_enter Tryz.func7, Tryz.ntmps7
    go_wp2_with fail
    go_loopw [3] (fun i wr => ∃ (k : Nat), k ≤ R.length ∧ i = .int .i64 k ∧ (∀ r ∈ R.take k, r.right.length ≤ 8) ∧ wr = w0) (fun i _ => R.length - (intOf i).toNat)
    case atStart => exact ⟨0, Nat.zero_le _, rfl, by simp, rfl⟩
    case round =>
      obtain ⟨k, hk, rfl, hall, rfl⟩ := hrel
      have HA := Lib.hid hall
      clear hall
      by_cases hlt : k < R.length
      · obtain ⟨a, r, ao, cap, rfl, hab, hrk, h1, h2, h3, h4, h5, _⟩ := HR1.out.at k hlt
        have h5' : cap ≤ 9223372036854775807 := by unfold maxLen at h5; omega
        by_cases hr8 : r.right.length ≤ 8
        · have hmo : ∀ q ∈ R.take (k + 1), q.right.length ≤ 8 := fun q hq => by
            rw [List.take_succ_eq_append_getElem hlt] at hq
            rcases List.mem_append.1 hq with h | h
            · exact HA.out q h
            · simp at h
              subst h
              rw [List.getElem?_eq_getElem hlt] at hrk
              cases hrk
              exact hr8
          have HM := Lib.hid hmo
          clear hmo
          go_wp2
          exact ⟨⟨k + 1, hlt, congrArg (Value.int .i64) (by omega), HM.out, trivial⟩, by simp only [intOf]; omega⟩
        · go_wp2
          go_ret
          exact ⟨false, rfl, fun h => (by cases h), hbl⟩
      · obtain rfl : k = R.length := by omega
        go_wp2
        go_ret
        exact ⟨true, rfl, fun _ => ⟨f1, f2, f3, fun r hr => HA.out r (by rw [List.take_length]; exact hr)⟩, hbl⟩
  · go_enter Tryz.func7, Tryz.ntmps7
    go_wp2_with fail
    all_goals first
      | (exfalso; omega)
      | (go_ret; exact ⟨false, rfl, fun h => (by cases h), hbl⟩)
      | (go_ret; exact .inl ⟨rfl, hbl⟩)
end Go.Proofs.YtomikgkoegkofaaGreatDoor.dv
