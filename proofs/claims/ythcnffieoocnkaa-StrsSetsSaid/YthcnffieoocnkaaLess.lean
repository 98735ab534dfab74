import Derived.Test.YthcnffieoocnkaaTimc
namespace Go.Proofs.Ythcnffieoocnkaa.st
open Go.ChangeShapes Go.WideShapes Go.ChangeAt Go.RowKit Go.Maps Go.WideMaps Go.WideElems
set_option linter.unusedVariables false
theorem ltW_drop : ∀ (k : Nat) (xs ys : List Int), k ≤ xs.length → k ≤ ys.length → xs.take k = ys.take k → ltW xs ys = ltW (xs.drop k) (ys.drop k)
  | 0, xs, ys, _, _, _ => by simp
  | k + 1, [], ys, h, _, _ => by simp at h
  | k + 1, x :: xs, [], _, h, _ => by simp at h
  | k + 1, x :: xs, y :: ys, h1, h2, h => by
    simp only [List.take_succ_cons, List.cons.injEq] at h
    obtain ⟨rfl, h⟩ := h
    have := ltW_drop k xs ys (by simpa using h1) (by simpa using h2) h
    simp [ltW, this]
theorem ltW_at {k : Nat} {xs ys : List Int} (h1 : k < xs.length) (h2 : k < ys.length) (h : xs.take k = ys.take k) : ltW xs ys = (decide (xs.getD k 0 < ys.getD k 0) || (decide (xs.getD k 0 = ys.getD k 0) && ltW (xs.drop (k + 1)) (ys.drop (k + 1)))) := by
  rw [ltW_drop k xs ys (by omega) (by omega) h, List.drop_eq_getElem_cons h1, List.drop_eq_getElem_cons h2]
  simp [ltW, List.getD_eq_getElem?_getD, List.getElem?_eq_getElem h1, List.getElem?_eq_getElem h2]
theorem ltW_end {k : Nat} {xs ys : List Int} (h1 : k ≤ xs.length) (h2 : k ≤ ys.length) (h : xs.take k = ys.take k) (he : k = xs.length ∨ k = ys.length) : ltW xs ys = decide (xs.length < ys.length) := by
  rw [ltW_drop k xs ys h1 h2 h]
  rcases he with rfl | rfl
  · rw [List.drop_length]
    cases hd : ys.drop xs.length with
    | nil => have := congrArg List.length hd; simp at this; simp [ltW]; omega
    | cons a l => have := congrArg List.length hd; simp at this; simp [ltW]; omega
  · rw [List.drop_length]
    cases hd : xs.drop ys.length with
    | nil => simp [ltW]; omega
    | cons a l => simp [ltW]; omega
theorem take_more {k : Nat} {xs ys : List Int} (h1 : k < xs.length) (h2 : k < ys.length) (h : xs.take k = ys.take k) (he : xs.getD k 0 = ys.getD k 0) : xs.take (k + 1) = ys.take (k + 1) := by
  rw [List.take_succ_eq_append_getElem h1, List.take_succ_eq_append_getElem h2, h]
  simp [List.getD_eq_getElem?_getD, List.getElem?_eq_getElem h1, List.getElem?_eq_getElem h2] at he
  rw [he]
theorem ret_bool {a b : Bool} (h : a = b) : Ending.returned (.bool a) = .returned (.bool b) := by rw [h]
theorem ret_int {a b : Int} (h : a = b) : Ending.returned (.int .i64 a) = .returned (.int .i64 b) := by rw [h]
/-- a world of which only the tape was drawn -/
def Qt (w w' : World) : Prop := ∃ n, w' = w.drewN n
theorem Qt.drewN {w w' : World} (h : Qt w w') (n : Nat) : Qt w (w'.drewN n) := by
  obtain ⟨m, rfl⟩ := h
  exact ⟨m + n, World.drewN_drewN ..⟩
theorem Qt.cell {w w' : World} (h : Qt w w') (a : Addr) : w'.cell? a = w.cell? a := by obtain ⟨m, rfl⟩ := h; rfl
theorem Qt.below {w w' : World} (h : Qt w w') : Below w.heap.size w w' := by obtain ⟨m, rfl⟩ := h; exact below_drewN (Below.refl _ _) _
theorem Qt.trans {a b c : World} (h : Qt a b) (k : Qt b c) : Qt a c := by obtain ⟨m, rfl⟩ := k; exact h.drewN m
def cmpW (xs ys : List Int) : Int := if ltW xs ys then -1 else if ltW ys xs then 1 else 0
set_option maxRecDepth 100000 in
set_option maxHeartbeats 1000000 in
theorem less_any (w : World) (v u : Value) (xs ys : List Int) (hv : WordAt w v xs) (hu : WordAt w u ys) (hx : xs.length ≤ 1000) (hy : ys.length ≤ 1000) : Calls Try.prog 9 #[v, u] w fun e w' => e = .returned (.bool (ltW xs ys)) ∧ ∃ n, w' = w.drewN n := by
  obtain ⟨ao, ca, rfl, hin, hc⟩ := hv
  obtain ⟨bo, cb, rfl, hin2, hc2⟩ := hu
  have HC := Lib.hid hc
  have HC2 := Lib.hid hc2
  clear hc hc2 hin hin2
  go_enter Try.func9, Try.ntmps9
  go_wp2
  go_loopw [5] (fun i wr => ∃ k : Nat, i = .int .i64 k ∧ k ≤ xs.length ∧ k ≤ ys.length ∧ xs.take k = ys.take k ∧ Qt w wr) (fun i _ => xs.length - (intOf i).toNat)
  case atStart => exact ⟨0, rfl, Nat.zero_le _, Nat.zero_le _, by simp, ⟨0, rfl⟩⟩
  case round =>
    obtain ⟨k, rfl, hk1, hk2, htk, hbel⟩ := hrel
    by_cases h1 : k < xs.length
    · by_cases h2 : k < ys.length
      · obtain ⟨a, rfl, hab, hca⟩ := HC.out k h1
        obtain ⟨b, rfl, hbb, hcb⟩ := HC2.out k h2
        have ca : wr.cell? (a.add k) = some (.int .i64 (xs.getD k 0)) := (hbel.cell _).trans hca
        have cb : wr.cell? (b.add k) = some (.int .i64 (ys.getD k 0)) := (hbel.cell _).trans hcb
        have hlt := ltW_at h1 h2 htk
        have hlt2 := ltW_at h2 h1 htk.symm
        have hmo := take_more h1 h2 htk
        clear hca hcb
        generalize xs.getD k 0 = x at *
        generalize ys.getD k 0 = y at *
        have HL := Lib.hid hlt
        have HL2 := Lib.hid hlt2
        have HM := Lib.hid hmo
        have HT := Lib.hid htk
        clear hlt hlt2 hmo htk
        by_cases he : x = y
        · subst he
          go_wp2
          go_quiet (fail)
          go_wp2
          exact ⟨⟨k + 1, congrArg (Value.int .i64) (by omega), h1, h2, HM.out (by trivial), hbel.drewN _⟩, by simp only [intOf]; omega⟩
        · go_wp2
          go_quiet (fail)
          go_wp2
          go_quiet (fail)
          go_wp2
          go_ret
          exact ⟨ret_bool (by rw [HL.out]; simp [he]), (hbel.drewN _).drewN _⟩
      · obtain rfl : k = ys.length := by omega
        have hlt := ltW_end hk1 hk2 htk (.inr rfl)
        have hlt2 := ltW_end hk2 hk1 htk.symm (.inl rfl)
        have HL := Lib.hid hlt
        have HL2 := Lib.hid hlt2
        clear hlt hlt2 htk
        go_wp2
        go_ret
        exact ⟨ret_bool (by rw [HL.out]; try simp), hbel⟩
    · obtain rfl : k = xs.length := by omega
      have hlt := ltW_end hk1 hk2 htk (.inl rfl)
      have hlt2 := ltW_end hk2 hk1 htk.symm (.inr rfl)
      have HL := Lib.hid hlt
      have HL2 := Lib.hid hlt2
      clear hlt hlt2 htk
      go_wp2
      go_ret
      exact ⟨ret_bool (by rw [HL.out]; try simp), hbel⟩
set_option maxRecDepth 100000 in
set_option maxHeartbeats 1000000 in
theorem compare_any (w : World) (v u : Value) (xs ys : List Int) (hv : WordAt w v xs) (hu : WordAt w u ys) (hx : xs.length ≤ 1000) (hy : ys.length ≤ 1000) : Calls Try.prog 10 #[v, u] w fun e w' => e = .returned (.int .i64 (cmpW xs ys)) ∧ ∃ n, w' = w.drewN n := by
  obtain ⟨ao, ca, rfl, hin, hc⟩ := hv
  obtain ⟨bo, cb, rfl, hin2, hc2⟩ := hu
  have HC := Lib.hid hc
  have HC2 := Lib.hid hc2
  clear hc hc2 hin hin2
  go_enter Try.func10, Try.ntmps10
  go_wp2
  go_loopw [5] (fun i wr => ∃ k : Nat, i = .int .i64 k ∧ k ≤ xs.length ∧ k ≤ ys.length ∧ xs.take k = ys.take k ∧ Qt w wr) (fun i _ => xs.length - (intOf i).toNat)
  case atStart => exact ⟨0, rfl, Nat.zero_le _, Nat.zero_le _, by simp, ⟨0, rfl⟩⟩
  case round =>
    obtain ⟨k, rfl, hk1, hk2, htk, hbel⟩ := hrel
    by_cases h1 : k < xs.length
    · by_cases h2 : k < ys.length
      · obtain ⟨a, rfl, hab, hca⟩ := HC.out k h1
        obtain ⟨b, rfl, hbb, hcb⟩ := HC2.out k h2
        have ca : wr.cell? (a.add k) = some (.int .i64 (xs.getD k 0)) := (hbel.cell _).trans hca
        have cb : wr.cell? (b.add k) = some (.int .i64 (ys.getD k 0)) := (hbel.cell _).trans hcb
        have hlt := ltW_at h1 h2 htk
        have hlt2 := ltW_at h2 h1 htk.symm
        have hmo := take_more h1 h2 htk
        clear hca hcb
        generalize xs.getD k 0 = x at *
        generalize ys.getD k 0 = y at *
        have HL := Lib.hid hlt
        have HL2 := Lib.hid hlt2
        have HM := Lib.hid hmo
        have HT := Lib.hid htk
        clear hlt hlt2 hmo htk
        by_cases he : x = y
        · subst he
          go_wp2
          go_quiet (fail)
          go_wp2
          exact ⟨⟨k + 1, congrArg (Value.int .i64) (by omega), h1, h2, HM.out (by trivial), hbel.drewN _⟩, by simp only [intOf]; omega⟩
        · have hcw : cmpW xs ys = ordI x y := by
            unfold cmpW ordI
            rw [HL.out, HL2.out]
            have he2 : ¬ y = x := fun e => he e.symm
            simp [he, he2]
          go_wp2
          go_quiet (fail)
          go_wp2
          have ca2 : (wr.drewN nq).cell? (a.add k) = some (.int .i64 x) := ca
          have cb2 : (wr.drewN nq).cell? (b.add k) = some (.int .i64 y) := cb
          have hb2 := hbel.drewN nq
          have HW := Lib.hid hcw
          clear hcw ca cb
          generalize wr.drewN nq = w2 at *
          go_quiet ((go_at_call 32; exact Calls.quiet_of_same ((order_any _ _ _).mono fun _ _ h => ⟨h.1, h.2.symm⟩)))
          go_wp2
          go_ret
          exact ⟨ret_int HW.out.symm, hb2.drewN _⟩
      · obtain rfl : k = ys.length := by omega
        have hlt := ltW_end hk1 hk2 htk (.inr rfl)
        have hlt2 := ltW_end hk2 hk1 htk.symm (.inl rfl)
        have HL := Lib.hid hlt
        have HL2 := Lib.hid hlt2
        clear hlt hlt2 htk
        have hcw : cmpW xs ys = ordI xs.length ys.length := by
          unfold cmpW ordI
          rw [HL.out, HL2.out]
          simp
        have HW := Lib.hid hcw
        clear hcw
        go_wp2_with (go_at_call 32; refine (order_any _ _ _).mono ?_; rintro e w2 ⟨rfl, rfl⟩)
        go_ret
        exact ⟨ret_int HW.out.symm, hbel⟩
    · obtain rfl : k = xs.length := by omega
      have hlt := ltW_end hk1 hk2 htk (.inl rfl)
      have hlt2 := ltW_end hk2 hk1 htk.symm (.inr rfl)
      have HL := Lib.hid hlt
      have HL2 := Lib.hid hlt2
      clear hlt hlt2 htk
      have hcw : cmpW xs ys = ordI xs.length ys.length := by
        unfold cmpW ordI
        rw [HL.out, HL2.out]
        simp
      have HW := Lib.hid hcw
      clear hcw
      go_wp2_with (go_at_call 32; refine (order_any _ _ _).mono ?_; rintro e w2 ⟨rfl, rfl⟩)
      go_ret
      exact ⟨ret_int HW.out.symm, hbel⟩
end Go.Proofs.Ythcnffieoocnkaa.st
