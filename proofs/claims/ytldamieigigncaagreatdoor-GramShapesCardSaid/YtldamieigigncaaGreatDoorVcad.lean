import Derived.Test.YtldamieigigncaaGreatDoorVcac
import Derived.Deep.RegionHeld3
namespace Go.Proofs.YtldamieigigncaaGreatDoor.lx
open Go.ChangeShapes Go.WideShapes Go.ChangeAt Go.RowKit
set_option linter.unusedVariables false
theorem strip_len (l : List UInt8) : (strip l).length ≤ l.length := by
  unfold strip
  split
  · simp
  · exact Nat.le_refl _
theorem headD_len (l : List UInt8) : (headD l).length ≤ l.length := by
  unfold headD
  exact (List.takeWhile_sublist _).length_le
theorem tailD_len (l : List UInt8) : (tailD l).length ≤ l.length := by
  unfold tailD
  have := (List.dropWhile_sublist (l := l) (fun c => c != 46)).length_le
  simp
  omega
theorem Qt.trans {a b c : World} (h : Qt a b) (k : Qt b c) : Qt a c := by
  obtain ⟨n, rfl⟩ := h
  obtain ⟨m, rfl⟩ := k
  exact ⟨n + m, by simp [World.drewN, Nat.add_assoc]⟩
theorem head_at (s : ByteArray) (h : 0 < s.size) : s.data.toList.head? = some s[0] := by
  have := bytes_drop s 0 h
  rw [List.drop_zero] at this
  rw [this]
  rfl
set_option maxRecDepth 100000 in
set_option maxHeartbeats 2000000 in
theorem isdecimal_any (s : ByteArray) (hs : s.size ≤ maxLen) (w : World) : Calls Tryz.prog 159 #[.string s] w fun e w' => e = .returned (.bool (decB s.data.toList)) ∧ Qt w w' := by
  have ht := trim_any s hs w
  have hc := fun (t : ByteArray) (h : t.size ≤ maxLen) => cut_any t h w
  have hsl : s.data.toList.length = s.size := by simp
  have HE : Hid (decB s.data.toList = (digsB (headD (strip s.data.toList)) 9 && !(decide (1 < (headD (strip s.data.toList)).length) && (headD (strip s.data.toList)).head? == some 48) && (!dotB (strip s.data.toList) || digsB (tailD (strip s.data.toList)) 6))) := Lib.hid rfl
  have hTl := strip_len s.data.toList
  rw [hsl] at hTl
  generalize strip s.data.toList = T at *
  have hHl := headD_len T
  have hPl := tailD_len T
  generalize decB s.data.toList = z at *
  have HC := Lib.hid hc
  clear hc hsl
  go_enter Tryz.func159, Tryz.ntmps159
  go_wp2_with fail
  refine ht.mono ?_
  rintro e w1 ⟨⟨t, rfl, ht1⟩, rfl⟩
  clear ht
  have htl : t.size = T.length := by rw [← ht1]; simp
  have hcc := HC.out t (by omega)
  rw [ht1] at hcc
  have HT := Lib.hid ht1
  have HTL := Lib.hid htl
  clear ht1 htl
  go_wp2_with fail
  refine hcc.mono ?_
  rintro e w2 ⟨⟨a, b, rfl, ha, hb⟩, hq⟩
  clear hcc
  have hal : a.size = (headD T).length := by rw [← ha]; simp
  have hbl : b.size = (tailD T).length := by rw [← hb]; simp
  have HQ := Lib.hid hq
  have dg := fun w => isdigits_any a (by omega) 9 (by omega) w
  have dp := fun w => isdigits_any b (by omega) 6 (by omega) w
  rw [ha] at dg
  rw [hb] at dp
  have HHl : Hid ((headD T).length = a.size) := Lib.hid hal.symm
  have hha : 0 < a.size → (headD T).head? = a.data.toList.head? := fun _ => by rw [ha]
  generalize headD T = H at *
  generalize tailD T = P at *
  generalize dotB T = dt at *
  have has : a.size ≤ 9223372036854775807 := by unfold maxLen at hs; omega
  have HA := Lib.hid hha
  clear hq ha hb hal hbl hHl hPl hTl hha hs
  cases h9 : digsB H 9
  · rw [h9] at dg HE
    have HZ : Hid (z = false) := Lib.hid (by rw [HE.out]; rfl)
    clear h9 HE dp
    go_wp2_with (go_at_call 176; refine (dg _).mono ?_; rintro e w3 ⟨rfl, rfl⟩)
    go_ret
    exact ⟨ret_bool HZ.out.symm, HQ.out⟩
  · rw [h9] at dg HE
    clear h9
    have hz0 : ∀ x : Bool, (decide (1 < H.length) && H.head? == some 48) = x → z = (!x && (!dt || digsB P 6)) := fun x hx => by rw [HE.out, hx]; simp
    have HZ0 := Lib.hid hz0
    clear hz0 HE
    by_cases h1 : 1 < a.size
    · by_cases h2 : a[0].toNat = 48
      · have k1 : ((a[0].toNat : Int) == 48) = true := by rw [h2]; rfl
        have HZ : Hid (z = false) := Lib.hid (by
          rw [HZ0.out true (by
            rw [HHl.out, decide_eq_true h1, HA.out (by omega), head_at a (by omega)]
            have : a[0] = 48 := UInt8.toNat_inj.1 h2
            rw [this]
            rfl)]
          rfl)
        clear h2 dp HZ0
        go_wp2_with (go_at_call 176; refine (dg _).mono ?_; rintro e w3 ⟨rfl, rfl⟩)
        go_ret
        exact ⟨ret_bool HZ.out.symm, HQ.out⟩
      · have k1 : ((a[0].toNat : Int) == 48) = false := by rw [beq_eq_false_iff_ne]; omega
        have HZ1 : Hid (z = (!false && (!dt || digsB P 6))) := Lib.hid (HZ0.out false (by
            rw [HHl.out, decide_eq_true h1, HA.out (by omega), head_at a (by omega)]
            rw [Bool.true_and, beq_eq_false_iff_ne]
            intro e
            have e2 := Option.some.inj e
            rw [e2] at h2
            exact h2 rfl))
        clear h2 HZ0
        cases dt
        · have HZ : Hid (z = true) := Lib.hid (by rw [HZ1.out]; rfl)
          clear HZ1 dp
          go_wp2_with (go_at_call 176; refine (dg _).mono ?_; rintro e w3 ⟨rfl, rfl⟩)
          go_ret
          exact ⟨ret_bool HZ.out.symm, HQ.out⟩
        · have HZ : Hid (z = digsB P 6) := Lib.hid (by rw [HZ1.out]; simp)
          clear HZ1
          go_wp2_with fail
          refine (dg _).mono ?_
          rintro e w3 ⟨rfl, rfl⟩
          clear dg
          go_wp2_with fail
          refine (dp _).mono ?_
          rintro e w4 ⟨rfl, rfl⟩
          clear dp
          go_wp2_with fail
          go_ret
          exact ⟨ret_bool HZ.out.symm, HQ.out⟩
    · have HZ1 : Hid (z = (!false && (!dt || digsB P 6))) := Lib.hid (HZ0.out false (by
          rw [HHl.out, decide_eq_false h1]
          rfl))
      clear HZ0
      cases dt
      · have HZ : Hid (z = true) := Lib.hid (by rw [HZ1.out]; rfl)
        clear HZ1 dp
        go_wp2_with (go_at_call 176; refine (dg _).mono ?_; rintro e w3 ⟨rfl, rfl⟩)
        go_ret
        exact ⟨ret_bool HZ.out.symm, HQ.out⟩
      · have HZ : Hid (z = digsB P 6) := Lib.hid (by rw [HZ1.out]; simp)
        clear HZ1
        go_wp2_with fail
        refine (dg _).mono ?_
        rintro e w3 ⟨rfl, rfl⟩
        clear dg
        go_wp2_with fail
        refine (dp _).mono ?_
        rintro e w4 ⟨rfl, rfl⟩
        clear dp
        go_wp2_with fail
        go_ret
        exact ⟨ret_bool HZ.out.symm, HQ.out⟩
attribute [local go_sem] x_sfrombits x_frombits
theorem bool2_f (w : World) : Calls Tryz.prog 235 #[.bool false] w fun e w' => e = .returned (.int .u64 0) ∧ w = w' := by
  go_enter Tryz.func235, Tryz.ntmps235
  go_wp2
  go_ret
  exact ⟨rfl, rfl⟩
theorem bool2_t (w : World) : Calls Tryz.prog 235 #[.bool true] w fun e w' => e = .returned (.int .u64 1) ∧ w = w' := by
  go_enter Tryz.func235, Tryz.ntmps235
  go_wp2
  go_ret
  exact ⟨rfl, rfl⟩
set_option maxRecDepth 100000 in
set_option maxHeartbeats 2000000 in
theorem atof_any (s : ByteArray) (h : decB s.data.toList = true) (w : World) (b off : Nat) (hv : Vs w b off) : Calls Tryz.prog 229 #[.string s] w fun e w' => e = .returned (.tuple #[.float .f64 (decF s.data.toList), .int .i64 s.size, .nilIface]) ∧ Below w.heap.size w w' := by
  obtain ⟨p, d, V, k, hp, hD, hV, hk, hlt, hE, hF⟩ := dec_shape s h
  rw [hF]
  have h5 := hv.h5
  have e1 := exact_whole (s.data.toList.head? == some 45) V hlt w b off hv
  have e2 := fun h => exact_part (s.data.toList.head? == some 45) V k hlt ⟨h, hk⟩ w b off hv
  have z0 := flo.wt_zero (s.data.toList.head? == some 45) V (by omega)
  have zn := flo.wt_nought (s.data.toList.head? == some 45) k hk
  rcases hp with ⟨rfl, hn⟩ | ⟨rfl, hn, h45⟩
  all_goals
    rw [hn] at e1 e2 z0 zn ⊢
  · have hsp := special_pos s d hD w
    have hrf := rf_pos s d hD w
    rw [← hV, hE] at hrf
    have hs := hD.few
    clear h hF hn hD hV hE hv
    by_cases hV0 : V = 0
    · subst hV0
      rw [if_pos rfl] at hrf
      rw [zn]
      clear e1 e2 z0 zn
      go_enter Tryz.func229, Tryz.ntmps229
      go_wp2_with (first | (go_at_call 241; refine hsp.mono ?_; rintro e w1 ⟨rfl, rfl⟩) | (go_at_call 242; refine hrf.mono ?_; rintro e w2 ⟨rfl, rfl⟩) | (go_at_call 235; refine (bool2_f _).mono ?_; rintro e w3 ⟨rfl, rfl⟩))
      go_ret3
      exact ⟨rfl, Below.refl _ _⟩
    · rw [if_neg hV0] at hrf
      have m1 : ((V : Int) == 0) = false := by rw [beq_eq_false_iff_ne]; omega
      by_cases hk0 : k = 0
      · subst hk0
        rw [z0]
        clear e2 z0 zn hV0
        go_enter Tryz.func229, Tryz.ntmps229
        go_wp2_with (first | (go_at_call 241; refine hsp.mono ?_; rintro e w1 ⟨rfl, rfl⟩) | (go_at_call 242; refine hrf.mono ?_; rintro e w2 ⟨rfl, rfl⟩) | (go_at_call 235; refine (bool2_f _).mono ?_; rintro e w4 ⟨rfl, rfl⟩) | (go_at_call 251; refine e1.mono ?_; rintro e w3 ⟨rfl, rfl⟩))
        go_ret3
        exact ⟨rfl, Below.refl _ _⟩
      · have e2 := e2 (by omega)
        clear e1 z0 zn hV0
        go_enter Tryz.func229, Tryz.ntmps229
        go_wp2_with (first | (go_at_call 241; refine hsp.mono ?_; rintro e w1 ⟨rfl, rfl⟩) | (go_at_call 242; refine hrf.mono ?_; rintro e w2 ⟨rfl, rfl⟩) | (go_at_call 235; refine (bool2_f _).mono ?_; rintro e w4 ⟨rfl, rfl⟩) | (go_at_call 251; refine e2.mono ?_; rintro e w3 ⟨rfl, rfl⟩))
        go_ret3
        exact ⟨rfl, Below.refl _ _⟩
  · have hsp := special_neg s d hD h45 w
    have hrf := rf_neg s d hD h45 w
    rw [← hV, hE] at hrf
    have hs := hD.few
    clear h hF hn hD hV hE hv
    by_cases hV0 : V = 0
    · subst hV0
      rw [if_pos rfl] at hrf
      rw [zn]
      clear e1 e2 z0 zn
      go_enter Tryz.func229, Tryz.ntmps229
      go_wp2_with (first | (go_at_call 241; refine hsp.mono ?_; rintro e w1 ⟨rfl, rfl⟩) | (go_at_call 242; refine hrf.mono ?_; rintro e w2 ⟨rfl, rfl⟩) | (go_at_call 235; refine (bool2_t _).mono ?_; rintro e w3 ⟨rfl, rfl⟩))
      go_ret3
      exact ⟨rfl, Below.refl _ _⟩
    · rw [if_neg hV0] at hrf
      have m1 : ((V : Int) == 0) = false := by rw [beq_eq_false_iff_ne]; omega
      by_cases hk0 : k = 0
      · subst hk0
        rw [z0]
        clear e2 z0 zn hV0
        go_enter Tryz.func229, Tryz.ntmps229
        go_wp2_with (first | (go_at_call 241; refine hsp.mono ?_; rintro e w1 ⟨rfl, rfl⟩) | (go_at_call 242; refine hrf.mono ?_; rintro e w2 ⟨rfl, rfl⟩) | (go_at_call 235; refine (bool2_t _).mono ?_; rintro e w4 ⟨rfl, rfl⟩) | (go_at_call 251; refine e1.mono ?_; rintro e w3 ⟨rfl, rfl⟩))
        go_ret3
        exact ⟨rfl, Below.refl _ _⟩
      · have e2 := e2 (by omega)
        clear e1 z0 zn hV0
        go_enter Tryz.func229, Tryz.ntmps229
        go_wp2_with (first | (go_at_call 241; refine hsp.mono ?_; rintro e w1 ⟨rfl, rfl⟩) | (go_at_call 242; refine hrf.mono ?_; rintro e w2 ⟨rfl, rfl⟩) | (go_at_call 235; refine (bool2_t _).mono ?_; rintro e w4 ⟨rfl, rfl⟩) | (go_at_call 251; refine e2.mono ?_; rintro e w3 ⟨rfl, rfl⟩))
        go_ret3
        exact ⟨rfl, Below.refl _ _⟩
end Go.Proofs.YtldamieigigncaaGreatDoor.lx

namespace Go.Proofs.YtldamieigigncaaGreatDoor.lx
open Go.ChangeShapes Go.WideShapes Go.ChangeAt Go.RowKit
set_option linter.unusedVariables false
attribute [local go_sem] x_sfrombits x_frombits
set_option maxRecDepth 100000 in
set_option maxHeartbeats 1000000 in
theorem pf_any (s : ByteArray) (h : decB s.data.toList = true) (w : World) (b off : Nat) (hv : Vs w b off) : Calls Tryz.prog 177 #[.string s, .int .i64 64] w fun e w' => e = .returned (.tuple #[.float .f64 (decF s.data.toList), .nilIface]) ∧ Below w.heap.size w w' := by
  have ha := atof_any s h w b off hv
  clear h hv
  generalize decF s.data.toList = f at *
  go_enter Tryz.func177, Tryz.ntmps177
  go_wp2_with (first | (go_at_call 199; go_in) | (go_at_call 229; refine ha.mono ?_; rintro e w1 ⟨rfl, hb⟩))
  go_ret2
  exact ⟨rfl, hb⟩
set_option maxRecDepth 100000 in
set_option maxHeartbeats 1000000 in
theorem spf_any (s : ByteArray) (h : decB s.data.toList = true) (w : World) (b off : Nat) (hv : Vs w b off) : Calls Tryz.prog 160 #[.string s, .int .i64 64] w fun e w' => e = .returned (.tuple #[.float .f64 (decF s.data.toList), .nilIface]) ∧ Below w.heap.size w w' := by
  have ha := pf_any s h w b off hv
  clear h hv
  generalize decF s.data.toList = f at *
  go_enter Tryz.func160, Tryz.ntmps160
  go_wp2_with (first | (go_at_call 177; refine ha.mono ?_; rintro e w1 ⟨rfl, hb⟩))
  go_ret2
  exact ⟨rfl, hb⟩
set_option maxRecDepth 100000 in
set_option maxHeartbeats 1000000 in
theorem read_any (s : ByteArray) (hs : s.size ≤ maxLen) (w : World) (b off : Nat) (hv : Vs w b off) : Calls Tryz.prog 135 #[.string s] w fun e w' => e = .returned (.tuple #[.float .f64 (readF s.data.toList), .bool (readOk s.data.toList)]) ∧ Below w.heap.size w w' := by
  by_cases h1 : s.data.toList = [110, 97, 110]
  · have k1 : (s.toList == [110, 97, 110]) = true := by rw [← list_data, h1]; rfl
    rw [h1]
    have e1 : readF [110, 97, 110] = 9221120237041090561 := by decide +kernel
    have e2 : readOk [110, 97, 110] = true := by decide +kernel
    rw [e1, e2]
    clear e1 e2 h1 hv hs
    go_enter Tryz.func135, Tryz.ntmps135
    go_wp2
    go_ret2
    exact ⟨rfl, Below.refl _ _⟩
  · have k1 : (s.toList == [110, 97, 110]) = false := by rw [← list_data, beq_eq_false_iff_ne]; exact h1
    by_cases h2 : s.data.toList = [105, 110, 102]
    · have k2 : (s.toList == [105, 110, 102]) = true := by rw [← list_data, h2]; rfl
      rw [h2]
      have e1 : readF [105, 110, 102] = 9218868437227405312 := by decide +kernel
      have e2 : readOk [105, 110, 102] = true := by decide +kernel
      rw [e1, e2]
      clear e1 e2 h1 h2 hv hs
      go_enter Tryz.func135, Tryz.ntmps135
      go_wp2
      go_ret2
      exact ⟨rfl, Below.refl _ _⟩
    · have k2 : (s.toList == [105, 110, 102]) = false := by rw [← list_data, beq_eq_false_iff_ne]; exact h2
      by_cases h3 : s.data.toList = [45, 105, 110, 102]
      · have k3 : (s.toList == [45, 105, 110, 102]) = true := by rw [← list_data, h3]; rfl
        rw [h3]
        have e1 : readF [45, 105, 110, 102] = 18442240474082181120 := by decide +kernel
        have e2 : readOk [45, 105, 110, 102] = true := by decide +kernel
        rw [e1, e2]
        clear e1 e2 h1 h2 h3 hv hs
        go_enter Tryz.func135, Tryz.ntmps135
        go_wp2
        go_ret2
        exact ⟨rfl, Below.refl _ _⟩
      · have k3 : (s.toList == [45, 105, 110, 102]) = false := by rw [← list_data, beq_eq_false_iff_ne]; exact h3
        have eo : readOk s.data.toList = decB s.data.toList := by
          unfold readOk
          rw [beq_eq_false_iff_ne.2 h1, beq_eq_false_iff_ne.2 h2, beq_eq_false_iff_ne.2 h3]
          rfl
        have ef : readF s.data.toList = if decB s.data.toList = true then decF s.data.toList else 0 := by
          unfold readF
          rw [if_neg h1, if_neg h2, if_neg h3]
        rw [eo, ef]
        have hd := isdecimal_any s hs w
        cases hb : decB s.data.toList
        · rw [hb] at hd
          rw [if_neg (by decide)]
          clear h1 h2 h3 eo ef hb hv hs
          go_enter Tryz.func135, Tryz.ntmps135
          go_wp2_with (go_at_call 159; refine hd.mono ?_; rintro e w1 ⟨rfl, hq⟩; have HQ := Lib.hid hq; clear hq)
          go_ret2
          exact ⟨rfl, HQ.out.below⟩
        · rw [hb] at hd
          rw [if_pos rfl]
          have hp := fun w1 h => spf_any s hb w1 b off h
          generalize decF s.data.toList = f at *
          have HV := Lib.hid hv
          have HP := Lib.hid hp
          clear h1 h2 h3 eo ef hb hv hs hp
          go_enter Tryz.func135, Tryz.ntmps135
          go_wp2_with fail
          refine hd.mono ?_
          rintro e w1 ⟨rfl, hq⟩
          clear hd
          have HQ := Lib.hid hq
          clear hq
          have hpp := HP.out w1 (HV.out.below HQ.out.below)
          go_wp2_with (go_at_call 160; refine hpp.mono ?_; rintro e w2 ⟨rfl, hb2⟩; have HB := Lib.hid hb2; clear hb2)
          go_ret2
          exact ⟨rfl, (HQ.out.below (B := w.heap.size)).trans (HB.out.mono (HQ.out.below (B := w.heap.size)).size)⟩
end Go.Proofs.YtldamieigigncaaGreatDoor.lx

namespace Go.Proofs.YtldamieigigncaaGreatDoor.lx
open Go.ChangeShapes Go.WideShapes Go.ChangeAt Go.RowKit
set_option linter.unusedVariables false
def S (l : List UInt8) : ByteArray := ⟨l.toArray⟩
theorem str_S {t : ByteArray} {l : List UInt8} (h : t.data.toList = l) : t = S l := by
  subst h
  rfl
theorem ext_S (s : ByteArray) (i j : Nat) : s.extract i j = S ((s.data.toList.drop i).take (j - i)) := str_S (ext_list s i j)
theorem S_list (l : List UInt8) : (S l).data.toList = l := rfl
theorem add0 (g i : Nat) : (⟨g, 0, none⟩ : Addr).add i = ⟨g, i, none⟩ := by
  simp [Addr.add]
  exact fun h => h.symm
theorem own_below {w w' : World} {base size n : Nat} {e : TypeId} {v : Value} {xs : List Value} (h : w.ownsRow base e size v n xs) (hb : Below w.heap.size w w') : w'.ownsRow base e size v n xs := by
  obtain ⟨hl, h | ⟨g, cap, cur, hv, hB, hh, r⟩⟩ := h
  · exact ⟨hl, .inl h⟩
  · have hg : g < w.heap.size := by
      rcases Nat.lt_or_ge g w.heap.size with h | h
      · exact h
      · rw [Array.getElem?_eq_none h] at hh; cases hh
    exact ⟨hl, .inr ⟨g, cap, cur, hv, hB, (hb.block g hg).trans hh, r⟩⟩
theorem own_base {w : World} {base base' size n : Nat} {e : TypeId} {v : Value} {xs : List Value} (h : w.ownsRow base e size v n xs) (hb : base' ≤ base) : w.ownsRow base' e size v n xs := by
  obtain ⟨hl, h | ⟨g, cap, cur, hv, hB, r⟩⟩ := h
  · exact ⟨hl, .inl h⟩
  · exact ⟨hl, .inr ⟨g, cap, cur, hv, by omega, r⟩⟩
theorem own_row {w : World} {base size n : Nat} {e : TypeId} {v : Value} {xs : List Value} (h : w.ownsRow base e size v n xs) : ∀ k, v.ownBlock = some k → base ≤ k := fun k e => (h.lt k e).1
theorem own_open {w : World} {base size n : Nat} {e : TypeId} {v : Value} {xs : List Value} (h : w.ownsRow base e size v n xs) (hn : 0 < n) : ∃ g cap, v = .slice (some ⟨g, 0, none⟩) n cap ∧ base ≤ g ∧ g < w.heap.size ∧ ∀ j u, xs[j]? = some u → w.cell? ⟨g, j, none⟩ = some u := by
  have h' := h
  obtain ⟨hl, h | ⟨g, cap, cur, hv, hB, hh, r⟩⟩ := h
  · omega
  · refine ⟨g, cap, hv, hB, ?_, fun j u hj => ?_⟩
    · rcases Nat.lt_or_ge g w.heap.size with h | h
      · exact h
      · rw [Array.getElem?_eq_none h] at hh; cases hh
    · have := h'.cells (show v.ownBlock = some g by rw [hv]; rfl) j u hj
      rwa [add0] at this
end Go.Proofs.YtldamieigigncaaGreatDoor.lx

namespace Go.Proofs.YtldamieigigncaaGreatDoor.lx
open Go.ChangeShapes Go.WideShapes Go.ChangeAt Go.RowKit
set_option linter.unusedVariables false
theorem run_store_float (P : Program) (w : World) (a : Addr) (m : Mode) (k : FloatKind) (b : Nat) : (store a (.float k b) m).run P w = stored P w a (.float k b) m := run_store P w a _ m rfl
attribute [local go_sem] run_store_float
def TV (k a : Int) (t : List UInt8) (w : Nat) : Value := .agg #[.int .i64 k, .int .i64 a, .string (S t), .float .f64 w]
set_option maxRecDepth 100000 in
set_option maxHeartbeats 1000000 in
theorem skip_any (s : ByteArray) (hs : s.size ≤ maxLen) (a : Nat) (ha : a ≤ s.size) (w : World) : Calls Tryz.prog 86 #[.string s, .int .i64 a] w fun e w' => e = .returned (.int .i64 (nxt s.data.toList a : Nat)) ∧ Below w.heap.size w w' := by
  have hr := run_any skipS (fun r w' => Blk w' w.heap.size 4 #[.bool r] ∧ Below w.heap.size w w') 112 #[.pointer (some ⟨w.heap.size, 0, none⟩)] goes_skip s hs
    (fun r c w2 ⟨hb, hd⟩ => by
      refine (skip1_n r c.toNat (b_lt c) w2 w.heap.size hb).mono fun e w3 ⟨h1, h2⟩ => ?_
      have e1 : (c == 35 || (r && c != 10)) = (decide (c.toNat = 35) || (r && decide (c.toNat ≠ 10))) := by
        rw [beq_n]
        congr 2
        rw [Bool.eq_iff_iff]
        simp [← UInt8.toNat_inj]
      have e2 : blkB c = decide (c.toNat = 32 ∨ c.toNat = 9 ∨ c.toNat = 13 ∨ c.toNat = 10) := blk_n c
      unfold skipS
      rw [e1, e2]
      refine ⟨h1, ?_, ?_⟩
      · rw [h2]
        have := hb.set_ 0 (.bool (decide (c.toNat = 35) || (r && decide (c.toNat ≠ 10))))
        simpa using this
      · rw [h2]
        exact hd.setCell (Nat.le_refl _) _) false a ha (w.alloc (.cells #[.bool false] 4)) ⟨Blk.new w _ _, (Below.refl _ _).alloc (Nat.le_refl _) _⟩
  unfold nxt
  generalize a + runN skipS false (s.data.toList.drop a) = z at *
  have HR := Lib.hid hr
  clear hr
  go_enter Tryz.func86, Tryz.ntmps86
  go_wp2_with (go_at_call 38; refine HR.out.mono ?_; rintro e w1 ⟨rfl, x, hb, hd⟩; have HB := Lib.hid hb; have HD := Lib.hid hd; clear hb hd)
  go_ret
  exact ⟨rfl, HD.out⟩
theorem sgn_all : ∀ n, n < 256 → decide (0 ≤ firstIdx ⟨#[61, 59, 124, 40, 41, 63, 42, 43]⟩ n.toUInt8) = sgnB n.toUInt8 := by decide +kernel
attribute [local go_sem] x_index
set_option maxRecDepth 100000 in
set_option maxHeartbeats 1000000 in
theorem sign_any (c : UInt8) (w : World) : Calls Tryz.prog 117 #[.int .u8 c.toNat] w fun e w' => e = .returned (.bool (sgnB c)) ∧ w = w' := by
  have h := sgn_all c.toNat (b_lt c)
  have e : c.toNat.toUInt8 = c := by simp
  rw [e] at h
  rw [← h]
  clear h
  go_enter Tryz.func117, Tryz.ntmps117
  go_wp2
  go_ret
  exact ⟨rfl, rfl⟩
set_option maxRecDepth 100000 in
set_option maxHeartbeats 1000000 in
theorem name_any (s : ByteArray) (hs : s.size ≤ maxLen) (a n : Nat) (ha : a ≤ s.size) (hn : runP namB (s.data.toList.drop a) = n) (w : World) : Calls Tryz.prog 114 #[.string s, .int .i64 a] w fun e w' => e = .returned (if n ≤ 24 then .tuple #[TV 1 0 ((s.data.toList.drop a).take n) 0, .int .i64 (a + n : Nat), .int .i64 0] else .tuple #[TV 0 0 [] 0, .int .i64 0, .int .i64 1]) ∧ Below w.heap.size w w' := by
  have hr := fun w => run_name s hs a ha w
  rw [hn] at hr
  have hle := runP_le namB (s.data.toList.drop a)
  rw [hn, List.length_drop, show s.data.toList.length = s.size by simp] at hle
  have hx := ext_S s a (a + n)
  rw [show a + n - a = n from by omega] at hx
  unfold maxLen at hs
  unfold TV
  rw [← hx]
  clear hx hn
  by_cases h : n ≤ 24
  · rw [if_pos h]
    go_enter Tryz.func114, Tryz.ntmps114
    go_wp2_with (go_at_call 38; refine (hr _).mono ?_; rintro e w1 ⟨rfl, rfl⟩)
    refine bodyPost_ret (v := .tuple #[.agg #[.int .i64 1, .int .i64 0, .string (s.extract a (a + n)), .float .f64 0], .int .i64 (a + n : Nat), .int .i64 0]) (by simp [results, Tryz.results114, go_sem]) rfl ⟨rfl, ?_⟩
    go_grown
  · rw [if_neg h]
    go_enter Tryz.func114, Tryz.ntmps114
    go_wp2_with (go_at_call 38; refine (hr _).mono ?_; rintro e w1 ⟨rfl, rfl⟩)
    refine bodyPost_ret (v := .tuple #[.agg #[.int .i64 0, .int .i64 0, .string ⟨#[]⟩, .float .f64 0], .int .i64 0, .int .i64 1]) (by simp [results, Tryz.results114, go_sem]) rfl ⟨rfl, ?_⟩
    go_grown
set_option maxRecDepth 100000 in
set_option maxHeartbeats 2000000 in
theorem quote_any (s : ByteArray) (hs : s.size ≤ maxLen) (a n : Nat) (ha : a < s.size) (hn : runP quoB (s.data.toList.drop (a + 1)) = n) (w : World) : Calls Tryz.prog 115 #[.string s, .int .i64 a] w fun e w' => e = .returned (if n = 0 ∨ ((s.data.toList.drop (a + 1)).drop n).head? ≠ some 39 then .tuple #[TV 0 0 [] 0, .int .i64 0, .int .i64 3] else if n ≤ 16 then .tuple #[TV 2 0 ((s.data.toList.drop (a + 1)).take n) 0, .int .i64 (a + (n + 1) + 1 : Nat), .int .i64 0] else .tuple #[TV 0 0 [] 0, .int .i64 0, .int .i64 1]) ∧ Below w.heap.size w w' := by
  have hr := fun w => run_quote s hs (a + 1) (by omega) w
  rw [hn] at hr
  have hle := runP_le quoB (s.data.toList.drop (a + 1))
  rw [hn, List.length_drop, show s.data.toList.length = s.size by simp] at hle
  have hx := ext_S s (a + 1) (a + 1 + n)
  rw [show a + 1 + n - (a + 1) = n from by omega] at hx
  have hd : ((s.data.toList.drop (a + 1)).drop n) = s.data.toList.drop (a + 1 + n) := by rw [List.drop_drop]
  rw [hd]
  unfold maxLen at hs
  unfold TV
  rw [← hx]
  clear hx hn hd
  by_cases h0 : n = 0
  · subst h0
    rw [if_pos (.inl rfl)]
    go_enter Tryz.func115, Tryz.ntmps115
    go_wp2_with (go_at_call 38; refine (hr _).mono ?_; rintro e w1 ⟨rfl, rfl⟩)
    refine bodyPost_ret (v := .tuple #[.agg #[.int .i64 0, .int .i64 0, .string ⟨#[]⟩, .float .f64 0], .int .i64 0, .int .i64 3]) (by simp [results, Tryz.results115, go_sem]) rfl ⟨rfl, ?_⟩
    go_grown
  · have m1 : ((a : Int) + 1 + n == (a : Int) + 1) = false := by rw [beq_eq_false_iff_ne]; omega
    by_cases h1 : a + 1 + n = s.size
    · have m2 : ((a : Int) + 1 + n == (s.size : Int)) = true := by rw [beq_iff_eq]; omega
      rw [if_pos (.inr (by rw [List.drop_eq_nil_of_le (by simp; omega)]; simp))]
      clear h0 h1
      go_enter Tryz.func115, Tryz.ntmps115
      go_wp2_with (go_at_call 38; refine (hr _).mono ?_; rintro e w1 ⟨rfl, rfl⟩)
      refine bodyPost_ret (v := .tuple #[.agg #[.int .i64 0, .int .i64 0, .string ⟨#[]⟩, .float .f64 0], .int .i64 0, .int .i64 3]) (by simp [results, Tryz.results115, go_sem]) rfl ⟨rfl, ?_⟩
      go_grown
    · have m2 : ((a : Int) + 1 + n == (s.size : Int)) = false := by rw [beq_eq_false_iff_ne]; omega
      have hlt : a + 1 + n < s.size := by omega
      have hd := bytes_drop s (a + 1 + n) hlt
      by_cases h2 : s[a + 1 + n] = 39
      · have m3 : ((s[a + 1 + n].toNat : Int) != 39) = false := by rw [h2]; decide
        rw [if_neg (by
          rw [hd, h2]
          simp [h0])]
        by_cases h3 : n ≤ 16
        · rw [if_pos h3]
          clear h0 h1 h2 hd
          go_enter Tryz.func115, Tryz.ntmps115
          go_wp2_with (go_at_call 38; refine (hr _).mono ?_; rintro e w1 ⟨rfl, rfl⟩)
          refine bodyPost_ret (v := .tuple #[.agg #[.int .i64 2, .int .i64 0, .string (s.extract (a + 1) (a + 1 + n)), .float .f64 0], .int .i64 (a + (n + 1) + 1 : Nat), .int .i64 0]) (by simp [results, Tryz.results115, go_sem]; omega) rfl ⟨rfl, ?_⟩
          go_grown
        · rw [if_neg h3]
          clear h0 h1 h2 hd
          go_enter Tryz.func115, Tryz.ntmps115
          go_wp2_with (go_at_call 38; refine (hr _).mono ?_; rintro e w1 ⟨rfl, rfl⟩)
          refine bodyPost_ret (v := .tuple #[.agg #[.int .i64 0, .int .i64 0, .string ⟨#[]⟩, .float .f64 0], .int .i64 0, .int .i64 1]) (by simp [results, Tryz.results115, go_sem]) rfl ⟨rfl, ?_⟩
          go_grown
      · have m3 : ((s[a + 1 + n].toNat : Int) != 39) = true := by
          rw [bne_iff_ne]
          intro e
          exact h2 (UInt8.toNat_inj.1 (by rw [show s[a + 1 + n].toNat = 39 from by omega]; rfl))
        rw [if_pos (.inr (by
          rw [hd]
          intro e
          exact h2 (Option.some.inj e)))]
        clear h0 h1 h2 hd
        go_enter Tryz.func115, Tryz.ntmps115
        go_wp2_with (go_at_call 38; refine (hr _).mono ?_; rintro e w1 ⟨rfl, rfl⟩)
        refine bodyPost_ret (v := .tuple #[.agg #[.int .i64 0, .int .i64 0, .string ⟨#[]⟩, .float .f64 0], .int .i64 0, .int .i64 3]) (by simp [results, Tryz.results115, go_sem]) rfl ⟨rfl, ?_⟩
        go_grown
end Go.Proofs.YtldamieigigncaaGreatDoor.lx

