import Derived.Test.YtkhflfkedpkelaaGreatDoorLxg
namespace Go.Proofs.YtkhflfkedpkelaaGreatDoor.lx
open Go.ChangeShapes Go.WideShapes Go.ChangeAt Go.RowKit
set_option linter.unusedVariables false
theorem strip_len (l : List UInt8) : (strip l).length ≤ l.length := by
  unfold strip
  split
  · simp
  · exact Nat.le_refl _
theorem headD_len (l : List UInt8) : (headD l).length ≤ l.length := by
  unfold headD
  exact (List.takeWhile_sublist _).length_le
theorem tailD_len (l : List UInt8) : (tailD l).length ≤ l.length := by
  unfold tailD
  have := (List.dropWhile_sublist (l := l) (fun c => c != 46)).length_le
  simp
  omega
theorem Qt.trans {a b c : World} (h : Qt a b) (k : Qt b c) : Qt a c := by
  obtain ⟨n, rfl⟩ := h
  obtain ⟨m, rfl⟩ := k
  exact ⟨n + m, by simp [World.drewN, Nat.add_assoc]⟩
theorem head_at (s : ByteArray) (h : 0 < s.size) : s.data.toList.head? = some s[0] := by
  have := bytes_drop s 0 h
  rw [List.drop_zero] at this
  rw [this]
  rfl
set_option maxRecDepth 100000 in
set_option maxHeartbeats 2000000 in
theorem isdecimal_any (s : ByteArray) (hs : s.size ≤ maxLen) (w : World) : Calls Tryz.prog 19 #[.string s] w fun e w' => e = .returned (.bool (decB s.data.toList)) ∧ Qt w w' := by
  have ht := trim_any s hs w
  have hc := fun (t : ByteArray) (h : t.size ≤ maxLen) => cut_any t h w
  have hsl : s.data.toList.length = s.size := by simp
  have HE : Hid (decB s.data.toList = (digsB (headD (strip s.data.toList)) 9 && !(decide (1 < (headD (strip s.data.toList)).length) && (headD (strip s.data.toList)).head? == some 48) && (!dotB (strip s.data.toList) || digsB (tailD (strip s.data.toList)) 6))) := Lib.hid rfl
  have hTl := strip_len s.data.toList
  rw [hsl] at hTl
  generalize strip s.data.toList = T at *
  have hHl := headD_len T
  have hPl := tailD_len T
  generalize decB s.data.toList = z at *
  have HC := Lib.hid hc
  clear hc hsl
  go_enter Tryz.func19, Tryz.ntmps19
  go_wp2_with fail
  refine ht.mono ?_
  rintro e w1 ⟨⟨t, rfl, ht1⟩, rfl⟩
  clear ht
  have htl : t.size = T.length := by rw [← ht1]; simp
  have hcc := HC.out t (by omega)
  rw [ht1] at hcc
  have HT := Lib.hid ht1
  have HTL := Lib.hid htl
  clear ht1 htl
  go_wp2_with fail
  refine hcc.mono ?_
  rintro e w2 ⟨⟨a, b, rfl, ha, hb⟩, hq⟩
  clear hcc
  have hal : a.size = (headD T).length := by rw [← ha]; simp
  have hbl : b.size = (tailD T).length := by rw [← hb]; simp
  have HQ := Lib.hid hq
  have dg := fun w => isdigits_any a (by omega) 9 (by omega) w
  have dp := fun w => isdigits_any b (by omega) 6 (by omega) w
  rw [ha] at dg
  rw [hb] at dp
  have HHl : Hid ((headD T).length = a.size) := Lib.hid hal.symm
  have hha : 0 < a.size → (headD T).head? = a.data.toList.head? := fun _ => by rw [ha]
  generalize headD T = H at *
  generalize tailD T = P at *
  generalize dotB T = dt at *
  have has : a.size ≤ 9223372036854775807 := by unfold maxLen at hs; omega
  have HA := Lib.hid hha
  clear hq ha hb hal hbl hHl hPl hTl hha hs
  cases h9 : digsB H 9
  · rw [h9] at dg HE
    have HZ : Hid (z = false) := Lib.hid (by rw [HE.out]; rfl)
    clear h9 HE dp
    go_wp2_with (go_at_call 30; refine (dg _).mono ?_; rintro e w3 ⟨rfl, rfl⟩)
    go_ret
    exact ⟨ret_bool HZ.out.symm, HQ.out⟩
  · rw [h9] at dg HE
    clear h9
    have hz0 : ∀ x : Bool, (decide (1 < H.length) && H.head? == some 48) = x → z = (!x && (!dt || digsB P 6)) := fun x hx => by rw [HE.out, hx]; simp
    have HZ0 := Lib.hid hz0
    clear hz0 HE
    by_cases h1 : 1 < a.size
    · by_cases h2 : a[0].toNat = 48
      · have k1 : ((a[0].toNat : Int) == 48) = true := by rw [h2]; rfl
        have HZ : Hid (z = false) := Lib.hid (by
          rw [HZ0.out true (by
            rw [HHl.out, decide_eq_true h1, HA.out (by omega), head_at a (by omega)]
            have : a[0] = 48 := UInt8.toNat_inj.1 h2
            rw [this]
            rfl)]
          rfl)
        clear h2 dp HZ0
        go_wp2_with (go_at_call 30; refine (dg _).mono ?_; rintro e w3 ⟨rfl, rfl⟩)
        go_ret
        exact ⟨ret_bool HZ.out.symm, HQ.out⟩
      · have k1 : ((a[0].toNat : Int) == 48) = false := by rw [beq_eq_false_iff_ne]; omega
        have HZ1 : Hid (z = (!false && (!dt || digsB P 6))) := Lib.hid (HZ0.out false (by
            rw [HHl.out, decide_eq_true h1, HA.out (by omega), head_at a (by omega)]
            rw [Bool.true_and, beq_eq_false_iff_ne]
            intro e
            have e2 := Option.some.inj e
            rw [e2] at h2
            exact h2 rfl))
        clear h2 HZ0
        cases dt
        · have HZ : Hid (z = true) := Lib.hid (by rw [HZ1.out]; rfl)
          clear HZ1 dp
          go_wp2_with (go_at_call 30; refine (dg _).mono ?_; rintro e w3 ⟨rfl, rfl⟩)
          go_ret
          exact ⟨ret_bool HZ.out.symm, HQ.out⟩
        · have HZ : Hid (z = digsB P 6) := Lib.hid (by rw [HZ1.out]; simp)
          clear HZ1
          go_wp2_with fail
          refine (dg _).mono ?_
          rintro e w3 ⟨rfl, rfl⟩
          clear dg
          go_wp2_with fail
          refine (dp _).mono ?_
          rintro e w4 ⟨rfl, rfl⟩
          clear dp
          go_wp2_with fail
          go_ret
          exact ⟨ret_bool HZ.out.symm, HQ.out⟩
    · have HZ1 : Hid (z = (!false && (!dt || digsB P 6))) := Lib.hid (HZ0.out false (by
          rw [HHl.out, decide_eq_false h1]
          rfl))
      clear HZ0
      cases dt
      · have HZ : Hid (z = true) := Lib.hid (by rw [HZ1.out]; rfl)
        clear HZ1 dp
        go_wp2_with (go_at_call 30; refine (dg _).mono ?_; rintro e w3 ⟨rfl, rfl⟩)
        go_ret
        exact ⟨ret_bool HZ.out.symm, HQ.out⟩
      · have HZ : Hid (z = digsB P 6) := Lib.hid (by rw [HZ1.out]; simp)
        clear HZ1
        go_wp2_with fail
        refine (dg _).mono ?_
        rintro e w3 ⟨rfl, rfl⟩
        clear dg
        go_wp2_with fail
        refine (dp _).mono ?_
        rintro e w4 ⟨rfl, rfl⟩
        clear dp
        go_wp2_with fail
        go_ret
        exact ⟨ret_bool HZ.out.symm, HQ.out⟩
/-! the number of a text -/
attribute [local go_sem] x_sfrombits x_frombits
theorem bool2_f (w : World) : Calls Tryz.prog 81 #[.bool false] w fun e w' => e = .returned (.int .u64 0) ∧ w = w' := by
  go_enter Tryz.func81, Tryz.ntmps81
  go_wp2
  go_ret
  exact ⟨rfl, rfl⟩
theorem bool2_t (w : World) : Calls Tryz.prog 81 #[.bool true] w fun e w' => e = .returned (.int .u64 1) ∧ w = w' := by
  go_enter Tryz.func81, Tryz.ntmps81
  go_wp2
  go_ret
  exact ⟨rfl, rfl⟩
theorem bits_or0 (x : Nat) (h : x < 18446744073709551616) : bits .or .u64 (x : Int) 0 = (x : Int) := by
  show IntKind.u64.wrap ((BitVec.ofInt 64 (x : Int) ||| BitVec.ofInt 64 0).toNat : Int) = _
  rw [BitVec.toNat_or, BitVec.toNat_ofInt, BitVec.toNat_ofInt, IntKind.wrap_u64]
  have : ((x : Int) % ((2 ^ 64 : Nat) : Int)).toNat = x := by
    have : ((2 ^ 64 : Nat) : Int) = 18446744073709551616 := by decide +kernel
    rw [this]
    omega
  rw [this]
  simp
  omega
set_option maxRecDepth 100000 in
set_option maxHeartbeats 2000000 in
theorem atof_any (s : ByteArray) (h : decB s.data.toList = true) (w : World) (b off : Nat) (hv : Vs w b off) : Calls Tryz.prog 49 #[.string s] w fun e w' => e = .returned (.tuple #[.float .f64 (decF s.data.toList), .int .i64 s.size, .nilIface]) ∧ Below w.heap.size w w' := by
  obtain ⟨p, d, V, k, hp, hD, hV, hk, hlt, hE, hF⟩ := dec_shape s h
  rw [hF]
  have h5 := hv.h5
  have e1 := exact_whole (s.data.toList.head? == some 45) V hlt w b off hv
  have e2 := fun h => exact_part (s.data.toList.head? == some 45) V k hlt ⟨h, hk⟩ w b off hv
  have z0 := flo.wt_zero (s.data.toList.head? == some 45) V (by omega)
  have zn := flo.wt_nought (s.data.toList.head? == some 45) k hk
  rcases hp with ⟨rfl, hn⟩ | ⟨rfl, hn, h45⟩
  all_goals
    rw [hn] at e1 e2 z0 zn ⊢
  · have hsp := special_pos s d hD w
    have hrf := rf_pos s d hD w
    rw [← hV, hE] at hrf
    have hs := hD.few
    clear h hF hn hD hV hE hv
    by_cases hV0 : V = 0
    · subst hV0
      rw [if_pos rfl] at hrf
      rw [zn]
      clear e1 e2 z0 zn
      go_enter Tryz.func49, Tryz.ntmps49
      go_wp2_with (first | (go_at_call 72; refine hsp.mono ?_; rintro e w1 ⟨rfl, rfl⟩) | (go_at_call 73; refine hrf.mono ?_; rintro e w2 ⟨rfl, rfl⟩) | (go_at_call 81; refine (bool2_f _).mono ?_; rintro e w3 ⟨rfl, rfl⟩))
      go_ret3
      exact ⟨rfl, Below.refl _ _⟩
    · rw [if_neg hV0] at hrf
      have m1 : ((V : Int) == 0) = false := by rw [beq_eq_false_iff_ne]; omega
      by_cases hk0 : k = 0
      · subst hk0
        rw [z0]
        clear e2 z0 zn hV0
        go_enter Tryz.func49, Tryz.ntmps49
        go_wp2_with (first | (go_at_call 72; refine hsp.mono ?_; rintro e w1 ⟨rfl, rfl⟩) | (go_at_call 73; refine hrf.mono ?_; rintro e w2 ⟨rfl, rfl⟩) | (go_at_call 81; refine (bool2_f _).mono ?_; rintro e w4 ⟨rfl, rfl⟩) | (go_at_call 83; refine e1.mono ?_; rintro e w3 ⟨rfl, rfl⟩))
        go_ret3
        exact ⟨rfl, Below.refl _ _⟩
      · have e2 := e2 (by omega)
        clear e1 z0 zn hV0
        go_enter Tryz.func49, Tryz.ntmps49
        go_wp2_with (first | (go_at_call 72; refine hsp.mono ?_; rintro e w1 ⟨rfl, rfl⟩) | (go_at_call 73; refine hrf.mono ?_; rintro e w2 ⟨rfl, rfl⟩) | (go_at_call 81; refine (bool2_f _).mono ?_; rintro e w4 ⟨rfl, rfl⟩) | (go_at_call 83; refine e2.mono ?_; rintro e w3 ⟨rfl, rfl⟩))
        go_ret3
        exact ⟨rfl, Below.refl _ _⟩
  · have hsp := special_neg s d hD h45 w
    have hrf := rf_neg s d hD h45 w
    rw [← hV, hE] at hrf
    have hs := hD.few
    clear h hF hn hD hV hE hv
    by_cases hV0 : V = 0
    · subst hV0
      rw [if_pos rfl] at hrf
      rw [zn]
      clear e1 e2 z0 zn
      go_enter Tryz.func49, Tryz.ntmps49
      go_wp2_with (first | (go_at_call 72; refine hsp.mono ?_; rintro e w1 ⟨rfl, rfl⟩) | (go_at_call 73; refine hrf.mono ?_; rintro e w2 ⟨rfl, rfl⟩) | (go_at_call 81; refine (bool2_t _).mono ?_; rintro e w3 ⟨rfl, rfl⟩))
      go_ret3
      exact ⟨rfl, Below.refl _ _⟩
    · rw [if_neg hV0] at hrf
      have m1 : ((V : Int) == 0) = false := by rw [beq_eq_false_iff_ne]; omega
      by_cases hk0 : k = 0
      · subst hk0
        rw [z0]
        clear e2 z0 zn hV0
        go_enter Tryz.func49, Tryz.ntmps49
        go_wp2_with (first | (go_at_call 72; refine hsp.mono ?_; rintro e w1 ⟨rfl, rfl⟩) | (go_at_call 73; refine hrf.mono ?_; rintro e w2 ⟨rfl, rfl⟩) | (go_at_call 81; refine (bool2_t _).mono ?_; rintro e w4 ⟨rfl, rfl⟩) | (go_at_call 83; refine e1.mono ?_; rintro e w3 ⟨rfl, rfl⟩))
        go_ret3
        exact ⟨rfl, Below.refl _ _⟩
      · have e2 := e2 (by omega)
        clear e1 z0 zn hV0
        go_enter Tryz.func49, Tryz.ntmps49
        go_wp2_with (first | (go_at_call 72; refine hsp.mono ?_; rintro e w1 ⟨rfl, rfl⟩) | (go_at_call 73; refine hrf.mono ?_; rintro e w2 ⟨rfl, rfl⟩) | (go_at_call 81; refine (bool2_t _).mono ?_; rintro e w4 ⟨rfl, rfl⟩) | (go_at_call 83; refine e2.mono ?_; rintro e w3 ⟨rfl, rfl⟩))
        go_ret3
        exact ⟨rfl, Below.refl _ _⟩
end Go.Proofs.YtkhflfkedpkelaaGreatDoor.lx
