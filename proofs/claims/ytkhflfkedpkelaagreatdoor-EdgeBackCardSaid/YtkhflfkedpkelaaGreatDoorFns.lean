import Derived.Test.YtkhflfkedpkelaaGreatDoorFnr
import Derived.Test.YtkhflfkedpkelaaGreatDoorFno
namespace Go.Proofs.YtkhflfkedpkelaaGreatDoor.lx
open Go.ChangeShapes Go.WideShapes Go.ChangeAt Go.RowKit Go.Proofs.YtkhflfkedpkelaaGreatDoor.ky
set_option linter.unusedVariables false
attribute [local go_sem] x_frombits x_bits
/-! the law EdgeBack -/
theorem key_inj {a b : Nat} (ha : a < 18446744073709551616) (hb : b < 18446744073709551616) (h1 : nanB a = false) (h2 : nanB b = false) (h : keyN a = keyN b) : a = b := by
  unfold keyN at h
  rw [h1, h2] at h
  unfold negB at h
  simp only [Bool.false_eq_true, if_false, decide_eq_true_eq] at h
  split at h <;> split at h <;> omega
theorem ok_cases {l : List UInt8} (h : readOk l = true) : l = [110, 97, 110] ∨ l = [105, 110, 102] ∨ l = [45, 105, 110, 102] ∨ decB l = true := by
  unfold readOk at h
  simp only [Bool.or_eq_true, beq_iff_eq] at h
  rcases h with ((h | h) | h) | h
  · exact .inl h
  · exact .inr (.inl h)
  · exact .inr (.inr (.inl h))
  · exact .inr (.inr (.inr h))
theorem decF_of {l : List UInt8} (h : decB l = true) : readF l = decF l ∧ readOk l = true := by
  have n1 : l ≠ [110, 97, 110] := by rintro rfl; revert h; decide +kernel
  have n2 : l ≠ [105, 110, 102] := by rintro rfl; revert h; decide +kernel
  have n3 : l ≠ [45, 105, 110, 102] := by rintro rfl; revert h; decide +kernel
  unfold readF readOk
  rw [if_neg n1, if_neg n2, if_neg n3, if_pos h, h]
  simp
theorem dec_nan {l : List UInt8} (h : decB l = true) : nanB (readF l) = false := by
  rw [(decF_of h).1]
  obtain ⟨p1, p2, _⟩ := dec_prn l h
  unfold nanB
  rw [decide_eq_false_iff_not]
  omega
/-- what EdgeBack asks -/
theorem back_all (l : List UInt8) (h : readOk l = true) : readOk (shortL l) = true ∧ readF (shortL l) = readF l ∧ shortL (shortL l) = shortL l ∧ (1 < (shortL l).length → readOk ((shortL l).take ((shortL l).length - 1)) = true → keyN (readF ((shortL l).take ((shortL l).length - 1))) ≠ keyN (readF l)) := by
  have sp : ∀ t : List UInt8, decB t = false → shortL t = t := fun t ht => by unfold shortL; rw [ht, if_neg (by simp)]
  rcases ok_cases h with rfl | rfl | rfl | hd
  · rw [sp _ (by decide +kernel)]
    exact ⟨by decide +kernel, rfl, sp _ (by decide +kernel), fun _ h => absurd h (by decide +kernel)⟩
  · rw [sp _ (by decide +kernel)]
    exact ⟨by decide +kernel, rfl, sp _ (by decide +kernel), fun _ h => absurd h (by decide +kernel)⟩
  · rw [sp _ (by decide +kernel)]
    exact ⟨by decide +kernel, rfl, sp _ (by decide +kernel), fun _ h => absurd h (by decide +kernel)⟩
  · obtain ⟨b1, b2, b3⟩ := back l hd
    obtain ⟨c1, c2⟩ := decF_of b1
    refine ⟨c2, by rw [c1, b2, (decF_of hd).1], b3, fun hlen hok hkey => ?_⟩
    obtain ⟨u, hu⟩ : ∃ u, u = (shortL l).take ((shortL l).length - 1) := ⟨_, rfl⟩
    rw [← hu] at hok hkey
    have hul : u.length < (shortL l).length := by rw [hu, List.length_take]; omega
    have hnu : nanB (readF l) = false := dec_nan hd
    -- u tells a number
    have hdu : decB u = true := by
      rcases ok_cases hok with rfl | rfl | rfl | hx
      · exfalso
        revert hkey
        unfold keyN
        rw [show nanB (readF [110, 97, 110]) = true from by decide +kernel, hnu]
        obtain ⟨p1, _⟩ := read_prn l
        have := dec_prn l hd
        rw [← (decF_of hd).1] at this
        have h3 := this.2.1
        unfold negB
        simp only [if_true, Bool.false_eq_true, if_false, decide_eq_true_eq]
        split <;> omega
      · exfalso
        have hk := key_inj (by decide +kernel) (read_prn l).1 (by decide +kernel) hnu hkey
        have := dec_prn l hd
        rw [← (decF_of hd).1, ← hk] at this
        exact absurd this.2.1 (by decide +kernel)
      · exfalso
        have hk := key_inj (by decide +kernel) (read_prn l).1 (by decide +kernel) hnu hkey
        have := dec_prn l hd
        rw [← (decF_of hd).1, ← hk] at this
        exact absurd this.2.1 (by decide +kernel)
      · exact hx
    have hk := key_inj (read_prn u).1 (read_prn l).1 (dec_nan hdu) hnu hkey
    have e1 := dec_text u hdu
    have e2 := dec_text l hd
    rw [← (decF_of hdu).1, hk, (decF_of hd).1, e2] at e1
    have e3 : shortL u = shortL l := by
      unfold shortL
      rw [if_pos hdu, if_pos hd]
      exact e1.symm
    have := short_len u
    rw [e3] at this
    omega
theorem no_zero {l : List UInt8} (h : readOk l = false) : readF l = 0 := by
  unfold readOk at h
  simp only [Bool.or_eq_false_iff, beq_eq_false_iff_ne] at h
  obtain ⟨⟨⟨h1, h2⟩, h3⟩, h4⟩ := h
  unfold readF
  rw [if_neg h1, if_neg h2, if_neg h3, if_neg (by rw [h4]; simp)]
theorem S_ne (l : List UInt8) : ((S l).toList == (S l).toList) = true := by simp
set_option maxRecDepth 100000 in
set_option maxHeartbeats 4000000 in
/-- the law EdgeBack -/
theorem eback_any (s : ByteArray) (hs : s.size ≤ maxLen) (w : World) (b off : Nat) (hv : Pv w b off) : Calls Tryz.prog 4 #[.string s] w fun e w' => e = .returned (.bool true) ∧ Below w.heap.size w w' := by
  have ha := ealive_any w b off hv
  have HV := Lib.hid hv
  by_cases hl : s.size ≤ 40
  · have hr := fun w hv => read_any s hs w b off hv
    have hsl : s.data.toList.length = s.size := by simp
    cases hok : readOk s.data.toList
    · rw [hok, no_zero hok] at hr
      have HR := Lib.hid hr
      clear hr hok hsl hs hv
      go_enter Tryz.func4, Tryz.ntmps4
      go_wp2_with fail
      refine ha.mono ?_
      rintro e w1 ⟨rfl, b1⟩
      have HV1 := Lib.hid (HV.out.below b1)
      have HB1 := Lib.hid b1
      clear b1 HV ha
      go_wp2_with fail
      refine (HR.out _ HV1.out.vs).mono ?_
      rintro e w2 ⟨rfl, b2⟩
      have HB2 := Lib.hid (HB1.out.trans (b2.mono HB1.out.size))
      clear b2 HB1 HV1 HR
      go_wp2_with (go_at_call 11; go_in)
      go_ret
      exact ⟨rfl, HB2.out⟩
    · rw [hok] at hr
      obtain ⟨a1, a2, a3, a4⟩ := back_all s.data.toList hok
      obtain ⟨p1, p2⟩ := read_prn s.data.toList
      have hrt := read_text s.data.toList hok
      have hlen := short_len s.data.toList
      rw [hsl] at hlen
      obtain ⟨f, hf⟩ : ∃ f, readF s.data.toList = f := ⟨_, rfl⟩
      obtain ⟨tl, htl⟩ : ∃ tl, shortL s.data.toList = tl := ⟨_, rfl⟩
      rw [hf] at hr a2 a4 p1 p2 hrt
      rw [htl] at a1 a2 a3 a4 hrt hlen
      have htz : (S tl).size = tl.length := rfl
      have htm : tl.length ≤ maxLen := by unfold maxLen; omega
      have ht := fun w hv => text_any f p1 p2 w hv
      rw [hrt] at ht
      have hr2 := fun w hv => read_any (S tl) htm w b off hv
      rw [show (S tl).data.toList = tl from rfl, a1, a2] at hr2
      have hsm := ky.same_any f f
      rw [show decide (keyN f = keyN f) = true from decide_eq_true rfl] at hsm
      obtain ⟨u, hu⟩ : ∃ u, tl.take (tl.length - 1) = u := ⟨_, rfl⟩
      rw [hu] at a4
      have hul : u.length ≤ 40 := by rw [← hu, List.length_take]; omega
      have hex : ∀ n : Nat, n = tl.length - 1 → (S tl).extract 0 n = S u := fun n hn => by rw [hn, S_take, hu]
      have hr3 := fun w hv => read_any (S u) (show u.length ≤ maxLen by unfold maxLen; omega) w b off hv
      rw [show (S u).data.toList = u from rfl] at hr3
      obtain ⟨q1, _⟩ := read_prn u
      obtain ⟨h, hh⟩ : ∃ h, readF u = h := ⟨_, rfl⟩
      rw [hh] at hr3 a4 q1
      have hsm2 := ky.same_any h f
      have HR := Lib.hid hr
      have HT := Lib.hid ht
      have HR2 := Lib.hid hr2
      have HR3 := Lib.hid hr3
      have HSM := Lib.hid hsm
      have HSM2 := Lib.hid hsm2
      have HP := Lib.hid p1
      have HQ := Lib.hid q1
      have hne := S_ne tl
      clear hr ht hr2 hr3 hsm hsm2 p1 p2 q1 hok hrt hf htl a1 a2 a3 hs hv htm hsl hul hh
      by_cases h1 : 1 < tl.length
      · obtain ⟨n, hn⟩ : ∃ n, tl.length = n + 1 := ⟨tl.length - 1, by omega⟩
        have hexn := hex n (by omega)
        have ha4 := a4 h1
        rw [hn] at htz hlen
        have hd1 : (0 : Nat) < n := by omega
        clear hex a4 hu h1 hn
        cases hok3 : readOk u
        · rw [hok3] at HR3
          clear ha4 hok3 HSM2 HQ
          go_enter Tryz.func4, Tryz.ntmps4
          go_wp2_with fail
          refine ha.mono ?_
          rintro e w1 ⟨rfl, b1⟩
          have HV1 := Lib.hid (HV.out.below b1)
          have HB1 := Lib.hid b1
          clear b1 HV ha
          go_wp2_with fail
          refine (HR.out _ HV1.out.vs).mono ?_
          rintro e w2 ⟨rfl, b2⟩
          have HV2 := Lib.hid (HV1.out.below b2)
          have HB2 := Lib.hid (HB1.out.trans (b2.mono HB1.out.size))
          clear b2 HB1 HV1 HR
          go_wp2_with fail
          refine (HT.out _ HV2.out.ps).mono ?_
          rintro e w3 ⟨rfl, b3⟩
          have HV3 := Lib.hid (HV2.out.below b3)
          have HB3 := Lib.hid (HB2.out.trans (b3.mono HB2.out.size))
          clear b3 HB2 HV2
          go_wp2_with fail
          refine (HR2.out _ HV3.out.vs).mono ?_
          rintro e w4 ⟨rfl, b4⟩
          have HV4 := Lib.hid (HV3.out.below b4)
          have HB4 := Lib.hid (HB3.out.trans (b4.mono HB3.out.size))
          clear b4 HB3 HV3 HR2
          go_wp2_with fail
          refine (HSM.out _ HP.out HP.out).mono ?_
          rintro e w5 ⟨rfl, rfl⟩
          go_wp2_with fail
          refine (HT.out _ HV4.out.ps).mono ?_
          rintro e w5 ⟨rfl, b5⟩
          have HV5 := Lib.hid (HV4.out.below b5)
          have HB5 := Lib.hid (HB4.out.trans (b5.mono HB4.out.size))
          clear b5 HB4 HV4 HT
          go_wp2_with fail
          refine (HR3.out _ HV5.out.vs).mono ?_
          rintro e w6 ⟨rfl, b6⟩
          have HB6 := Lib.hid (HB5.out.trans (b6.mono HB5.out.size))
          clear b6 HB5 HV5 HR3
          go_wp2_with fail
          go_ret
          exact ⟨rfl, HB6.out⟩
        · rw [hok3] at HR3
          have hsf : decide (keyN h = keyN f) = false := decide_eq_false (ha4 hok3)
          rw [hsf] at HSM2
          clear ha4 hok3 hsf
          go_enter Tryz.func4, Tryz.ntmps4
          go_wp2_with fail
          refine ha.mono ?_
          rintro e w1 ⟨rfl, b1⟩
          have HV1 := Lib.hid (HV.out.below b1)
          have HB1 := Lib.hid b1
          clear b1 HV ha
          go_wp2_with fail
          refine (HR.out _ HV1.out.vs).mono ?_
          rintro e w2 ⟨rfl, b2⟩
          have HV2 := Lib.hid (HV1.out.below b2)
          have HB2 := Lib.hid (HB1.out.trans (b2.mono HB1.out.size))
          clear b2 HB1 HV1 HR
          go_wp2_with fail
          refine (HT.out _ HV2.out.ps).mono ?_
          rintro e w3 ⟨rfl, b3⟩
          have HV3 := Lib.hid (HV2.out.below b3)
          have HB3 := Lib.hid (HB2.out.trans (b3.mono HB2.out.size))
          clear b3 HB2 HV2
          go_wp2_with fail
          refine (HR2.out _ HV3.out.vs).mono ?_
          rintro e w4 ⟨rfl, b4⟩
          have HV4 := Lib.hid (HV3.out.below b4)
          have HB4 := Lib.hid (HB3.out.trans (b4.mono HB3.out.size))
          clear b4 HB3 HV3 HR2
          go_wp2_with fail
          refine (HSM.out _ HP.out HP.out).mono ?_
          rintro e w5 ⟨rfl, rfl⟩
          go_wp2_with fail
          refine (HT.out _ HV4.out.ps).mono ?_
          rintro e w5 ⟨rfl, b5⟩
          have HV5 := Lib.hid (HV4.out.below b5)
          have HB5 := Lib.hid (HB4.out.trans (b5.mono HB4.out.size))
          clear b5 HB4 HV4 HT
          go_wp2_with fail
          refine (HR3.out _ HV5.out.vs).mono ?_
          rintro e w6 ⟨rfl, b6⟩
          have HB6 := Lib.hid (HB5.out.trans (b6.mono HB5.out.size))
          clear b6 HB5 HV5 HR3
          go_wp2_with fail
          refine (HSM2.out _ HQ.out HP.out).mono ?_
          rintro e w7 ⟨rfl, rfl⟩
          go_wp2_with fail
          go_ret
          exact ⟨rfl, HB6.out⟩
      · have hd1 : tl.length ≤ 1 := by omega
        clear hex a4 hu h1 HR3 HSM2 HQ
        go_enter Tryz.func4, Tryz.ntmps4
        go_wp2_with fail
        refine ha.mono ?_
        rintro e w1 ⟨rfl, b1⟩
        have HV1 := Lib.hid (HV.out.below b1)
        have HB1 := Lib.hid b1
        clear b1 HV ha
        go_wp2_with fail
        refine (HR.out _ HV1.out.vs).mono ?_
        rintro e w2 ⟨rfl, b2⟩
        have HV2 := Lib.hid (HV1.out.below b2)
        have HB2 := Lib.hid (HB1.out.trans (b2.mono HB1.out.size))
        clear b2 HB1 HV1 HR
        go_wp2_with fail
        refine (HT.out _ HV2.out.ps).mono ?_
        rintro e w3 ⟨rfl, b3⟩
        have HV3 := Lib.hid (HV2.out.below b3)
        have HB3 := Lib.hid (HB2.out.trans (b3.mono HB2.out.size))
        clear b3 HB2 HV2
        go_wp2_with fail
        refine (HR2.out _ HV3.out.vs).mono ?_
        rintro e w4 ⟨rfl, b4⟩
        have HV4 := Lib.hid (HV3.out.below b4)
        have HB4 := Lib.hid (HB3.out.trans (b4.mono HB3.out.size))
        clear b4 HB3 HV3 HR2
        go_wp2_with fail
        refine (HSM.out _ HP.out HP.out).mono ?_
        rintro e w5 ⟨rfl, rfl⟩
        go_wp2_with fail
        refine (HT.out _ HV4.out.ps).mono ?_
        rintro e w5 ⟨rfl, b5⟩
        have HB5 := Lib.hid (HB4.out.trans (b5.mono HB4.out.size))
        clear b5 HB4 HV4 HT
        go_wp2_with fail
        go_ret
        exact ⟨rfl, HB5.out⟩
  · have hl2 : 40 < s.size := by omega
    unfold maxLen at hs
    go_enter Tryz.func4, Tryz.ntmps4
    go_wp2_with fail
    refine ha.mono ?_
    rintro e w1 ⟨rfl, b1⟩
    have HB1 := Lib.hid b1
    clear b1 ha
    go_wp2_with fail
    go_ret
    exact ⟨rfl, HB1.out⟩
end Go.Proofs.YtkhflfkedpkelaaGreatDoor.lx
