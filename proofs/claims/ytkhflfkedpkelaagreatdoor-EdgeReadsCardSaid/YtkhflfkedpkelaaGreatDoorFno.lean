import Derived.Test.YtkhflfkedpkelaaGreatDoorFnm
namespace Go.Proofs.YtkhflfkedpkelaaGreatDoor.lx
open Go.ChangeShapes Go.WideShapes Go.ChangeAt Go.RowKit Go.Proofs.YtkhflfkedpkelaaGreatDoor.ky
set_option linter.unusedVariables false
attribute [local go_sem] x_frombits x_bits
/-! the document's example of layer 1 -/
structure Pv (w : World) (b off : Nat) : Prop where
  vs : Vs w b off
  ps : Ps w
theorem Pv.below {w w' : World} {b off : Nat} (h : Pv w b off) (hb : Below w.heap.size w w') : Pv w' b off := ⟨h.vs.below hb, h.ps.below hb⟩
theorem rd_lit (l : List UInt8) (x : Nat) (ok : Bool) (h1 : readF l = x) (h2 : readOk l = ok) (hl : l.length ≤ 40) (w : World) (b off : Nat) (hv : Pv w b off) : Calls Tryz.prog 6 #[.string (S l)] w fun e w' => e = .returned (.tuple #[.float .f64 x, .bool ok]) ∧ Below w.heap.size w w' := by
  have h := read_any (S l) (by show l.length ≤ maxLen; unfold maxLen; omega) w b off hv.vs
  rw [show (S l).data.toList = l from rfl, h1, h2] at h
  exact h
theorem tx_lit (l : List UInt8) (x : Nat) (t : List UInt8) (h1 : readF l = x) (h2 : readOk l = true) (h3 : shortL l = t) (w : World) (b off : Nat) (hv : Pv w b off) : Calls Tryz.prog 9 #[.float .f64 x] w fun e w' => e = .returned (.string (S t)) ∧ Below w.heap.size w w' := by
  obtain ⟨p1, p2⟩ := read_prn l
  have h := text_any (readF l) p1 p2 w hv.ps
  rw [read_text l h2, h3, h1] at h
  exact h
set_option maxRecDepth 100000 in
theorem sum_12 (w : World) (g : Nat) (h0 : w.cell? ⟨g, 0, none⟩ = some (.float .f64 4607182418800017408)) (h1 : w.cell? ⟨g, 1, none⟩ = some (.float .f64 4611686018427387904)) : Calls Tryz.prog 15 #[.slice (some ⟨g, 0, none⟩) 2 2] w fun e w' => e = .returned (.float .f64 4613937818241073152) ∧ w = w' := by
  have hq := fun w => run_float_arith (P := Tryz.prog) w .add 23 .f64 4607182418800017408 4611686018427387904 4613937818241073152 (by decide +kernel)
  go_enter Tryz.func15, Tryz.ntmps15
  go_wp2
  go_rounds 2
  go_ret
  exact ⟨rfl, rfl⟩
theorem c_1 (w : World) : Calls Tryz.prog 13 #[.float .f64 9223372036854775808, .float .f64 0] w fun e w' => e = .returned (.int .i64 (-1)) ∧ w = w' := by
  have h := cmp_any 9223372036854775808 0 w (by decide) (by decide)
  rw [show cmpN 9223372036854775808 0 = -1 from by decide +kernel] at h
  exact h
theorem c_2 (w : World) : Calls Tryz.prog 13 #[.float .f64 9221120237041090561, .float .f64 9218868437227405312] w fun e w' => e = .returned (.int .i64 1) ∧ w = w' := by
  have h := cmp_any 9221120237041090561 9218868437227405312 w (by decide) (by decide)
  rw [show cmpN 9221120237041090561 9218868437227405312 = 1 from by decide +kernel] at h
  exact h
theorem c_3 (w : World) : Calls Tryz.prog 12 #[.float .f64 9221120237041090561, .float .f64 9221120237041090561] w fun e w' => e = .returned (.bool true) ∧ w = w' := by
  have h := same_any 9221120237041090561 9221120237041090561 w (by decide) (by decide)
  rw [show decide (keyN 9221120237041090561 = keyN 9221120237041090561) = true from by simp] at h
  exact h
theorem c_4 (w : World) : Calls Tryz.prog 16 #[.float .f64 0] w fun e w' => e = .returned (.int .u64 9223372036854775808) ∧ w = w' := by
  have h := key_any 0 w (by decide)
  rw [show keyN 0 = 9223372036854775808 from by decide +kernel] at h
  exact h
theorem c_5 (w : World) : Calls Tryz.prog 17 #[.float .f64 9223372036854775808, .float .f64 0] w fun e w' => e = .returned (.float .f64 0) ∧ w = w' := by
  have h := top_any 9223372036854775808 0 w (by decide) (by decide)
  rw [show topN 9223372036854775808 0 = 0 from by decide +kernel] at h
  exact h
theorem c_6 (w : World) : Calls Tryz.prog 12 #[.float .f64 0, .float .f64 0] w fun e w' => e = .returned (.bool true) ∧ w = w' := by
  have h := same_any 0 0 w (by decide) (by decide)
  rw [show decide (keyN 0 = keyN 0) = true from by simp] at h
  exact h
set_option maxRecDepth 100000 in
set_option maxHeartbeats 2000000 in
theorem ealive_any (w : World) (b off : Nat) (hv : Pv w b off) : Calls Tryz.prog 5 #[] w fun e w' => e = .returned (.bool true) ∧ Below w.heap.size w w' := by
  have k1 : (S [49, 46, 50, 53]).toList = [49, 46, 50, 53] := (list_data _).symm
  have k2 : (S [45, 48]).toList = [45, 48] := (list_data _).symm
  go_enter Tryz.func5, Tryz.ntmps5
  go_wp2_with fail
  refine (rd_lit [45, 48] 9223372036854775808 true (by decide +kernel) (by decide +kernel) (by decide) _ b off hv).mono ?_
  rintro e w1 ⟨rfl, b1⟩
  have v1 := hv.below b1
  go_wp2_with fail
  refine (rd_lit [49, 46, 50, 53, 48] 4608308318706860032 true (by decide +kernel) (by decide +kernel) (by decide) _ b off v1).mono ?_
  rintro e w2 ⟨rfl, b2⟩
  have v2 := v1.below b2
  have b12 := b1.trans (b2.mono b1.size)
  clear v1 b1 b2 hv
  go_wp2_with fail
  refine (rd_lit [48, 49] 0 false (by decide +kernel) (by decide +kernel) (by decide) _ b off v2).mono ?_
  rintro e w3 ⟨rfl, b3⟩
  have v3 := v2.below b3
  have b13 := b12.trans (b3.mono b12.size)
  clear v2 b12 b3
  go_wp2_with fail
  refine (rd_lit [110, 97, 110] 9221120237041090561 true (by decide +kernel) (by decide +kernel) (by decide) _ b off v3).mono ?_
  rintro e w4 ⟨rfl, b4⟩
  have v4 := v3.below b4
  have b14 := b13.trans (b4.mono b13.size)
  clear v3 b13 b4
  go_wp2_with fail
  refine (c_1 _).mono ?_
  rintro e w3 ⟨rfl, rfl⟩
  go_wp2_with fail
  refine (tx_lit [49, 46, 50, 53, 48] 4608308318706860032 [49, 46, 50, 53] (by decide +kernel) (by decide +kernel) (by decide +kernel) _ b off v4).mono ?_
  rintro e w5 ⟨rfl, b5⟩
  have v5 := v4.below b5
  have b15 := b14.trans (b5.mono b14.size)
  clear v4 b14 b5
  go_wp2_with fail
  refine (tx_lit [45, 48] 9223372036854775808 [45, 48] (by decide +kernel) (by decide +kernel) (by decide +kernel) _ b off v5).mono ?_
  rintro e w6 ⟨rfl, b6⟩
  have b16 := b15.trans (b6.mono b15.size)
  clear v5 b15 b6
  go_wp2_with (go_at_call 14; go_in)
  refine (c_2 _).mono ?_
  rintro e w3 ⟨rfl, rfl⟩
  go_wp2_with fail
  refine (c_3 _).mono ?_
  rintro e w3 ⟨rfl, rfl⟩
  go_wp2_with fail
  refine (sum_12 _ w6.heap.size (cell_of_row _ _ 0 #[.float .f64 4607182418800017408, .float .f64 4611686018427387904] 23 (0, 0) (heap_alloc_new w6 _)) (cell_of_row _ _ 1 #[.float .f64 4607182418800017408, .float .f64 4611686018427387904] 23 (0, 0) (heap_alloc_new w6 _))).mono ?_
  rintro e w7 ⟨rfl, rfl⟩
  go_wp2_with fail
  refine (c_4 _).mono ?_
  rintro e w3 ⟨rfl, rfl⟩
  go_wp2_with fail
  refine (c_5 _).mono ?_
  rintro e w3 ⟨rfl, rfl⟩
  go_wp2_with fail
  refine (c_6 _).mono ?_
  rintro e w3 ⟨rfl, rfl⟩
  go_wp2_with fail
  go_ret
  exact ⟨rfl, b16.alloc b16.size _⟩
set_option maxRecDepth 100000 in
set_option maxHeartbeats 2000000 in
/-- the law EdgeReads -/
theorem reads_any (s : ByteArray) (hs : s.size ≤ maxLen) (w : World) (b off : Nat) (hv : Pv w b off) : Calls Tryz.prog 3 #[.string s] w fun e w' => e = .returned (.bool true) ∧ Below w.heap.size w w' := by
  have ha := ealive_any w b off hv
  have HV := Lib.hid hv
  by_cases hl : s.size ≤ 40
  · have hr := fun w hv => read_any s hs w b off hv
    have hrr := fun w => rread_any s hs w
    obtain ⟨p1, p2⟩ := read_prn s.data.toList
    have hsm := ky.rsame_any (readF s.data.toList) (readF s.data.toList)
    have ht := fun w hv => text_any (readF s.data.toList) p1 p2 w hv
    have hsh := fun w => rshort_any s hs w
    have hrt := read_text s.data.toList
    generalize readF s.data.toList = f at *
    generalize shortL s.data.toList = sl at *
    generalize readOk s.data.toList = ok at *
    rw [show decide (keyN f = keyN f) = true from decide_eq_true rfl] at hsm
    have HR := Lib.hid hr
    have HRR := Lib.hid hrr
    have HSM := Lib.hid hsm
    have HT := Lib.hid ht
    have HSH := Lib.hid hsh
    have HP := Lib.hid p1
    clear hr hrr hsm ht hsh p1 p2 hs
    cases ok
    · clear hrt HT HSH
      go_enter Tryz.func3, Tryz.ntmps3
      go_wp2_with fail
      refine ha.mono ?_
      rintro e w1 ⟨rfl, b1⟩
      have HV1 := Lib.hid (HV.out.below b1)
      have HB1 := Lib.hid b1
      clear b1 HV ha
      go_wp2_with fail
      refine (HR.out _ HV1.out.vs).mono ?_
      rintro e w2 ⟨rfl, b2⟩
      have HB2 := Lib.hid (HB1.out.trans (b2.mono HB1.out.size))
      clear b2 HB1 HV1 HR
      go_wp2_with fail
      refine (HRR.out _).mono ?_
      rintro e w3 ⟨rfl, b3q⟩
      have b3 : Below w2.heap.size w2 w3 := b3q.below
      clear b3q
      have HB3 := Lib.hid (HB2.out.trans (b3.mono HB2.out.size))
      clear b3 HB2 HRR
      go_wp2_with fail
      refine (HSM.out _ HP.out HP.out).mono ?_
      rintro e w4 ⟨rfl, rfl⟩
      go_wp2_with fail
      go_ret
      exact ⟨rfl, HB3.out⟩
    · have hts := hrt rfl
      rw [hts] at HT
      clear hrt hts
      generalize S sl = Z at *
      go_enter Tryz.func3, Tryz.ntmps3
      go_wp2_with fail
      refine ha.mono ?_
      rintro e w1 ⟨rfl, b1⟩
      have HV1 := Lib.hid (HV.out.below b1)
      have HB1 := Lib.hid b1
      clear b1 HV ha
      go_wp2_with fail
      refine (HR.out _ HV1.out.vs).mono ?_
      rintro e w2 ⟨rfl, b2⟩
      have HV2 := Lib.hid (HV1.out.below b2)
      have HB2 := Lib.hid (HB1.out.trans (b2.mono HB1.out.size))
      clear b2 HB1 HV1 HR
      go_wp2_with fail
      refine (HRR.out _).mono ?_
      rintro e w3 ⟨rfl, b3q⟩
      have b3 : Below w2.heap.size w2 w3 := b3q.below
      clear b3q
      have HV3 := Lib.hid (HV2.out.below b3)
      have HB3 := Lib.hid (HB2.out.trans (b3.mono HB2.out.size))
      clear b3 HB2 HRR HV2
      go_wp2_with fail
      refine (HSM.out _ HP.out HP.out).mono ?_
      rintro e w4 ⟨rfl, rfl⟩
      go_wp2_with fail
      refine (HT.out _ HV3.out.ps).mono ?_
      rintro e w4 ⟨rfl, b4⟩
      have HB4 := Lib.hid (HB3.out.trans (b4.mono HB3.out.size))
      clear b4 HB3 HV3 HT
      go_wp2_with fail
      refine (HSH.out _).mono ?_
      rintro e w5 ⟨rfl, b5⟩
      have HB5 := Lib.hid (HB4.out.trans (b5.mono HB4.out.size))
      clear b5 HB4 HSH
      go_wp2_with fail
      go_ret
      exact ⟨rfl, HB5.out⟩
  · have hl2 : 40 < s.size := by omega
    unfold maxLen at hs
    go_enter Tryz.func3, Tryz.ntmps3
    go_wp2_with fail
    refine ha.mono ?_
    rintro e w1 ⟨rfl, b1⟩
    have HB1 := Lib.hid b1
    clear b1 ha
    go_wp2_with fail
    go_ret
    exact ⟨rfl, HB1.out⟩
end Go.Proofs.YtkhflfkedpkelaaGreatDoor.lx
