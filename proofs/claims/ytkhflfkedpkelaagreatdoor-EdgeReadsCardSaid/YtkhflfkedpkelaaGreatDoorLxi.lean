import Derived.Test.YtkhflfkedpkelaaGreatDoorLxh
namespace Go.Proofs.YtkhflfkedpkelaaGreatDoor.lx
open Go.ChangeShapes Go.WideShapes Go.ChangeAt Go.RowKit
set_option linter.unusedVariables false
attribute [local go_sem] x_sfrombits x_frombits
set_option maxRecDepth 100000 in
set_option maxHeartbeats 1000000 in
theorem pf_any (s : ByteArray) (h : decB s.data.toList = true) (w : World) (b off : Nat) (hv : Vs w b off) : Calls Tryz.prog 31 #[.string s, .int .i64 64] w fun e w' => e = .returned (.tuple #[.float .f64 (decF s.data.toList), .nilIface]) ∧ Below w.heap.size w w' := by
  have ha := atof_any s h w b off hv
  clear h hv
  generalize decF s.data.toList = f at *
  go_enter Tryz.func31, Tryz.ntmps31
  go_wp2_with (first | (go_at_call 39; go_in) | (go_at_call 49; refine ha.mono ?_; rintro e w1 ⟨rfl, hb⟩))
  go_ret2
  exact ⟨rfl, hb⟩
set_option maxRecDepth 100000 in
set_option maxHeartbeats 1000000 in
theorem spf_any (s : ByteArray) (h : decB s.data.toList = true) (w : World) (b off : Nat) (hv : Vs w b off) : Calls Tryz.prog 20 #[.string s, .int .i64 64] w fun e w' => e = .returned (.tuple #[.float .f64 (decF s.data.toList), .nilIface]) ∧ Below w.heap.size w w' := by
  have ha := pf_any s h w b off hv
  clear h hv
  generalize decF s.data.toList = f at *
  go_enter Tryz.func20, Tryz.ntmps20
  go_wp2_with (first | (go_at_call 31; refine ha.mono ?_; rintro e w1 ⟨rfl, hb⟩))
  go_ret2
  exact ⟨rfl, hb⟩
set_option maxRecDepth 100000 in
set_option maxHeartbeats 1000000 in
theorem read_any (s : ByteArray) (hs : s.size ≤ maxLen) (w : World) (b off : Nat) (hv : Vs w b off) : Calls Tryz.prog 6 #[.string s] w fun e w' => e = .returned (.tuple #[.float .f64 (readF s.data.toList), .bool (readOk s.data.toList)]) ∧ Below w.heap.size w w' := by
  by_cases h1 : s.data.toList = [110, 97, 110]
  · have k1 : (s.toList == [110, 97, 110]) = true := by rw [← list_data, h1]; rfl
    rw [h1]
    have e1 : readF [110, 97, 110] = 9221120237041090561 := by decide +kernel
    have e2 : readOk [110, 97, 110] = true := by decide +kernel
    rw [e1, e2]
    clear e1 e2 h1 hv hs
    go_enter Tryz.func6, Tryz.ntmps6
    go_wp2
    go_ret2
    exact ⟨rfl, Below.refl _ _⟩
  · have k1 : (s.toList == [110, 97, 110]) = false := by rw [← list_data, beq_eq_false_iff_ne]; exact h1
    by_cases h2 : s.data.toList = [105, 110, 102]
    · have k2 : (s.toList == [105, 110, 102]) = true := by rw [← list_data, h2]; rfl
      rw [h2]
      have e1 : readF [105, 110, 102] = 9218868437227405312 := by decide +kernel
      have e2 : readOk [105, 110, 102] = true := by decide +kernel
      rw [e1, e2]
      clear e1 e2 h1 h2 hv hs
      go_enter Tryz.func6, Tryz.ntmps6
      go_wp2
      go_ret2
      exact ⟨rfl, Below.refl _ _⟩
    · have k2 : (s.toList == [105, 110, 102]) = false := by rw [← list_data, beq_eq_false_iff_ne]; exact h2
      by_cases h3 : s.data.toList = [45, 105, 110, 102]
      · have k3 : (s.toList == [45, 105, 110, 102]) = true := by rw [← list_data, h3]; rfl
        rw [h3]
        have e1 : readF [45, 105, 110, 102] = 18442240474082181120 := by decide +kernel
        have e2 : readOk [45, 105, 110, 102] = true := by decide +kernel
        rw [e1, e2]
        clear e1 e2 h1 h2 h3 hv hs
        go_enter Tryz.func6, Tryz.ntmps6
        go_wp2
        go_ret2
        exact ⟨rfl, Below.refl _ _⟩
      · have k3 : (s.toList == [45, 105, 110, 102]) = false := by rw [← list_data, beq_eq_false_iff_ne]; exact h3
        have eo : readOk s.data.toList = decB s.data.toList := by
          unfold readOk
          rw [beq_eq_false_iff_ne.2 h1, beq_eq_false_iff_ne.2 h2, beq_eq_false_iff_ne.2 h3]
          rfl
        have ef : readF s.data.toList = if decB s.data.toList = true then decF s.data.toList else 0 := by
          unfold readF
          rw [if_neg h1, if_neg h2, if_neg h3]
        rw [eo, ef]
        have hd := isdecimal_any s hs w
        cases hb : decB s.data.toList
        · rw [hb] at hd
          rw [if_neg (by decide)]
          clear h1 h2 h3 eo ef hb hv hs
          go_enter Tryz.func6, Tryz.ntmps6
          go_wp2_with (go_at_call 19; refine hd.mono ?_; rintro e w1 ⟨rfl, hq⟩; have HQ := Lib.hid hq; clear hq)
          go_ret2
          exact ⟨rfl, HQ.out.below⟩
        · rw [hb] at hd
          rw [if_pos rfl]
          have hp := fun w1 h => spf_any s hb w1 b off h
          generalize decF s.data.toList = f at *
          have HV := Lib.hid hv
          have HP := Lib.hid hp
          clear h1 h2 h3 eo ef hb hv hs hp
          go_enter Tryz.func6, Tryz.ntmps6
          go_wp2_with fail
          refine hd.mono ?_
          rintro e w1 ⟨rfl, hq⟩
          clear hd
          have HQ := Lib.hid hq
          clear hq
          have hpp := HP.out w1 (HV.out.below HQ.out.below)
          go_wp2_with (go_at_call 20; refine hpp.mono ?_; rintro e w2 ⟨rfl, hb2⟩; have HB := Lib.hid hb2; clear hb2)
          go_ret2
          exact ⟨rfl, (HQ.out.below (B := w.heap.size)).trans (HB.out.mono (HQ.out.below (B := w.heap.size)).size)⟩
end Go.Proofs.YtkhflfkedpkelaaGreatDoor.lx
