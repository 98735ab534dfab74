import Derived.Test.YtldamieigigncaaGreatDoorVaay
import Derived.Test.YtldamieigigncaaGreatDoorVaac
import Derived.Laws.BitsAllLaws
import Derived.Laws.Bits64b
namespace Go.Proofs.YtldamieigigncaaGreatDoor.lx
open Go.ChangeShapes Go.WideShapes Go.ChangeAt Go.RowKit
set_option linter.unusedVariables false
attribute [local go_sem] x_sfrombits x_frombits x_bits
theorem val_le {l : List UInt8} (hl : l.length ≤ 15) (h : ∀ c ∈ l, digB c = true) : val l < 1000000000000000 := by
  have h1 := val_lt _ l rfl h
  have h2 : 10 ^ l.length ≤ 10 ^ 15 := Nat.pow_le_pow_right (by omega) hl
  have e15 : (10 : Nat) ^ 15 = 1000000000000000 := by decide +kernel
  omega
theorem val_at {l : List UInt8} {k : Nat} (h : k < l.length) (hd : ∀ c ∈ l, digB c = true) : val (l.take (k + 1)) = 10 * val (l.take k) + ((l.getD k 0).toNat - 48) ∧ 48 ≤ (l.getD k 0).toNat ∧ (l.getD k 0).toNat ≤ 57 := by
  rw [take_snoc l k h, val_snoc]
  exact ⟨rfl, dig_bt (hd _ (getD_mem h))⟩
theorem or_top (x : Nat) (h : x < 9223372036854775808) : x ||| 9223372036854775808 = 9223372036854775808 + x := by
  have p63 : (2 : Nat) ^ 63 = 9223372036854775808 := by decide +kernel
  rw [← p63] at h ⊢
  have e := Nat.two_pow_add_eq_or_of_lt (i := 63) h 1
  rw [Nat.mul_one] at e
  rw [e, Nat.or_comm]
theorem bits_top (x : Nat) (h : x < 9223372036854775808) : bits .or .u64 (x : Int) 9223372036854775808 = ((9223372036854775808 + x : Nat) : Int) := by
  show IntKind.u64.wrap ((BitVec.ofInt 64 (x : Int) ||| BitVec.ofInt 64 9223372036854775808).toNat : Int) = _
  rw [BitVec.toNat_or, BitVec.toNat_ofInt, BitVec.toNat_ofInt, IntKind.wrap_u64]
  have e1 : ((2 ^ 64 : Nat) : Int) = 18446744073709551616 := by decide +kernel
  have e2 : ((x : Int) % ((2 ^ 64 : Nat) : Int)).toNat = x := by rw [e1]; omega
  have e3 : ((9223372036854775808 : Int) % ((2 ^ 64 : Nat) : Int)).toNat = 9223372036854775808 := by rw [e1]; decide
  rw [e2, e3, or_top x h]
  omega
theorem S_size (l : List UInt8) : (S l).size = l.length := rfl
theorem S_get (l : List UInt8) (k : Nat) (h : k < (S l).size) : (S l)[k].toNat = (l.getD k 0).toNat := by
  have h' : k < l.length := h
  rw [List.getD_eq_getElem?_getD, List.getElem?_eq_getElem h']
  rfl
/-- the digits of a weight's text -/
theorem dec_digs {l : List UInt8} (h : decB l = true) : (∀ c ∈ headD (strip l), digB c = true) ∧ (∀ c ∈ tailD (strip l), digB c = true) ∧ 1 ≤ (headD (strip l)).length ∧ (headD (strip l)).length ≤ 9 ∧ (tailD (strip l)).length ≤ 6 := by
  rw [dec_eq] at h
  simp only [Bool.and_eq_true] at h
  obtain ⟨⟨h1, _⟩, h3⟩ := h
  obtain ⟨a1, a2, a3⟩ := digs_of h1
  by_cases hd : dotB (strip l) = true
  · rw [hd] at h3
    simp only [Bool.not_true, Bool.false_or] at h3
    obtain ⟨b1, b2, b3⟩ := digs_of h3
    exact ⟨a3, b3, a1, a2, b2⟩
  · have := tail_nil (l := strip l) (by simpa using hd)
    rw [this]
    exact ⟨a3, fun c hc => by simp at hc, a1, a2, by simp⟩
set_option maxRecDepth 100000 in
set_option maxHeartbeats 4000000 in
theorem rread_dec (s : ByteArray) (hs : s.size ≤ maxLen) (h1 : s.data.toList ≠ [110, 97, 110]) (h2 : s.data.toList ≠ [105, 110, 102]) (h3 : s.data.toList ≠ [45, 105, 110, 102]) (h : decB s.data.toList = true) (w : World) : Calls Tryz.prog 10 #[.string s] w fun e w' => e = .returned (.tuple #[.float .f64 (decF s.data.toList), .bool true]) ∧ Qt w w' := by
  have k1 : (s.toList == [110, 97, 110]) = false := by rw [← list_data, beq_eq_false_iff_ne]; exact h1
  have k2 : (s.toList == [105, 110, 102]) = false := by rw [← list_data, beq_eq_false_iff_ne]; exact h2
  have k3 : (s.toList == [45, 105, 110, 102]) = false := by rw [← list_data, beq_eq_false_iff_ne]; exact h3
  have hp := parts_any s hs w
  obtain ⟨hH, hP, hl1, hl9, hp6⟩ := dec_digs h
  unfold PartsV at hp
  rw [if_pos h] at hp
  unfold decF
  generalize (s.data.toList.head? == some 45) = neg at *
  generalize headD (strip s.data.toList) = H at *
  generalize tailD (strip s.data.toList) = P at *
  have HH := Lib.hid hH
  have HP := Lib.hid hP
  have hsz1 : (S H).size = H.length := rfl
  have hsz2 : (S P).size = P.length := rfl
  have HG1 : Hid (∀ k (h : k < (S H).size), (S H)[k].toNat = (H.getD k 0).toNat) := Lib.hid (S_get H)
  have HG2 : Hid (∀ k (h : k < (S P).size), (S P)[k].toNat = (P.getD k 0).toNat) := Lib.hid (S_get P)
  generalize S H = hb at *
  generalize S P = pb at *
  have HS1 := Lib.hid hsz1
  have HS2 := Lib.hid hsz2
  have hb9 : hb.size ≤ 9 := by omega
  have pb6 : pb.size ≤ 6 := by omega
  clear h h1 h2 h3 hH hP hsz1 hsz2
  go_enter Tryz.func10, Tryz.ntmps10
  go_wp2_with fail
  refine hp.mono ?_
  rintro e w1 ⟨rfl, hq⟩
  have HQ := Lib.hid hq
  clear hp hq
  go_wp2_with fail
  go_loop [8, 10] (fun n i => ∃ k : Nat, i = .int .i64 k ∧ k ≤ hb.size ∧ n = .int .i64 (val (H.take k))) (fun _ i => hb.size - (intOf i).toNat)
  case atStart => exact ⟨0, rfl, Nat.zero_le _, rfl⟩
  case round =>
    obtain ⟨k, rfl, hk, rfl⟩ := hrel
    by_cases hlt : k < hb.size
    · obtain ⟨v1, v2, v3⟩ := val_at (l := H) (k := k) (by rw [← HS1.out]; exact hlt) HH.out
      have hg := HG1.out k hlt
      have hv := val_le (l := H.take k) (by simp; omega) (fun c hc => HH.out c (List.mem_of_mem_take hc))
      rw [← hg] at v1 v2 v3
      have HV1 := Lib.hid v1
      clear v1 hg
      generalize val (H.take k) = V at *
      go_wp2_with fail
      exact ⟨⟨k + 1, by go_num, hlt, congrArg (Value.int .i64) (by rw [HV1.out]; omega)⟩, by simp only [intOf]; omega⟩
    · obtain rfl : k = hb.size := by omega
      go_wp2_with fail
      rw [List.take_of_length_le (Nat.le_of_eq HS1.out.symm)]
      go_loop [8, 9, 11] (fun n d i => ∃ k : Nat, i = .int .i64 k ∧ k ≤ pb.size ∧ n = .int .i64 (val (H ++ P.take k)) ∧ d = .int .i64 (10 ^ k : Nat)) (fun _ _ i => pb.size - (intOf i).toNat)
      case atStart => exact ⟨0, rfl, Nat.zero_le _, by rw [List.take_zero, List.append_nil], rfl⟩
      case round =>
        obtain ⟨k, rfl, hk2, rfl, rfl⟩ := hrel
        have hd : ∀ c ∈ H ++ P.take k, digB c = true := fun c hc => (List.mem_append.1 hc).elim (HH.out c) (fun h => HP.out c (List.mem_of_mem_take h))
        have hv := val_le (l := H ++ P.take k) (by rw [List.length_append, ← HS1.out]; simp; omega) hd
        by_cases hlt2 : k < pb.size
        · have v1 : val (H ++ P.take (k + 1)) = 10 * val (H ++ P.take k) + ((P.getD k 0).toNat - 48) := by
            rw [take_snoc P k (by rw [← HS2.out]; exact hlt2), ← List.append_assoc, val_snoc]
          obtain ⟨_, v2, v3⟩ := val_at (l := P) (k := k) (by rw [← HS2.out]; exact hlt2) HP.out
          have hg := HG2.out k hlt2
          rw [← hg] at v1 v2 v3
          have hp10 : 10 ^ k ≤ 10 ^ 6 := Nat.pow_le_pow_right (by omega) (by omega)
          have e6 : (10 : Nat) ^ 6 = 1000000 := by decide +kernel
          rw [e6] at hp10
          have HPW : Hid (10 ^ (k + 1) = 10 ^ k * 10) := Lib.hid (Nat.pow_succ 10 k)
          have HV1 := Lib.hid v1
          clear v1 hg hd e6
          generalize val (H ++ P.take k) = V at *
          generalize (10 : Nat) ^ k = D at *
          go_wp2_with fail
          exact ⟨⟨k + 1, by go_num, hlt2, congrArg (Value.int .i64) (by rw [HV1.out]; omega), congrArg (Value.int .i64) (by rw [HPW.out]; omega)⟩, by simp only [intOf]; omega⟩
        · obtain rfl : k = pb.size := by omega
          rw [List.take_of_length_le (Nat.le_of_eq HS2.out.symm)] at hv ⊢
          have hf1 := fo_nat (val (H ++ P))
          have hf2 := fo_nat (10 ^ pb.size)
          have hq := fun w => run_float_arith (P := Tryz.prog) w .quo 36 .f64 (Ieee.double.nearest false (val (H ++ P)) 0) (Ieee.double.nearest false (10 ^ pb.size) 0) (flo.wt false (val (H ++ P)) pb.size) (flo.wt_div false (val (H ++ P)) pb.size (by omega) pb6)
          obtain ⟨hn1, hn2⟩ := flo.wt_neg (val (H ++ P)) pb.size (by omega) pb6
          have hbt := bits_top _ hn2
          rw [← hn1] at hbt
          have HPS : Hid (P.length = pb.size) := Lib.hid HS2.out.symm
          have HE1 : Hid (flo.wt false (val (H ++ P)) P.length = flo.wt false (val (H ++ P)) pb.size) := Lib.hid (by rw [HPS.out])
          have HE2 : Hid (flo.wt true (val (H ++ P)) P.length = flo.wt true (val (H ++ P)) pb.size) := Lib.hid (by rw [HPS.out])
          clear hd hn1
          generalize Ieee.double.nearest false (val (H ++ P)) 0 = x1 at *
          generalize Ieee.double.nearest false (10 ^ pb.size) 0 = x2 at *
          generalize (10 : Nat) ^ pb.size = D at *
          generalize flo.wt false (val (H ++ P)) pb.size = f1 at *
          generalize flo.wt true (val (H ++ P)) pb.size = f2 at *
          cases neg
          · go_wp2_with fail
            go_ret2
            refine ⟨?_, HQ.out⟩
            show Ending.returned (.tuple #[.float .f64 f1, .bool true]) = _
            rw [HE1.out]
          · go_wp2_with fail
            go_ret2
            refine ⟨?_, HQ.out⟩
            show Ending.returned (.tuple #[.float .f64 f2, .bool true]) = _
            rw [HE2.out]
theorem rread_any (s : ByteArray) (hs : s.size ≤ maxLen) (w : World) : Calls Tryz.prog 10 #[.string s] w fun e w' => e = .returned (.tuple #[.float .f64 (readF s.data.toList), .bool (readOk s.data.toList)]) ∧ Qt w w' := by
  by_cases h1 : s.data.toList = [110, 97, 110]
  · have k1 : (s.toList == [110, 97, 110]) = true := by rw [← list_data, h1]; rfl
    rw [h1]
    have e1 : readF [110, 97, 110] = 9221120237041090561 := by decide +kernel
    have e2 : readOk [110, 97, 110] = true := by decide +kernel
    rw [e1, e2]
    clear e1 e2 h1 hs
    go_enter Tryz.func10, Tryz.ntmps10
    go_wp2
    go_ret2
    exact ⟨rfl, Qt.refl _⟩
  · have k1 : (s.toList == [110, 97, 110]) = false := by rw [← list_data, beq_eq_false_iff_ne]; exact h1
    by_cases h2 : s.data.toList = [105, 110, 102]
    · have k2 : (s.toList == [105, 110, 102]) = true := by rw [← list_data, h2]; rfl
      rw [h2]
      have e1 : readF [105, 110, 102] = 9218868437227405312 := by decide +kernel
      have e2 : readOk [105, 110, 102] = true := by decide +kernel
      rw [e1, e2]
      clear e1 e2 h1 h2 hs
      go_enter Tryz.func10, Tryz.ntmps10
      go_wp2
      go_ret2
      exact ⟨rfl, Qt.refl _⟩
    · have k2 : (s.toList == [105, 110, 102]) = false := by rw [← list_data, beq_eq_false_iff_ne]; exact h2
      by_cases h3 : s.data.toList = [45, 105, 110, 102]
      · have k3 : (s.toList == [45, 105, 110, 102]) = true := by rw [← list_data, h3]; rfl
        rw [h3]
        have e1 : readF [45, 105, 110, 102] = 18442240474082181120 := by decide +kernel
        have e2 : readOk [45, 105, 110, 102] = true := by decide +kernel
        rw [e1, e2]
        clear e1 e2 h1 h2 h3 hs
        go_enter Tryz.func10, Tryz.ntmps10
        go_wp2
        go_ret2
        exact ⟨rfl, Qt.refl _⟩
      · have eo : readOk s.data.toList = decB s.data.toList := by
          unfold readOk
          rw [beq_eq_false_iff_ne.2 h1, beq_eq_false_iff_ne.2 h2, beq_eq_false_iff_ne.2 h3]
          rfl
        have ef : readF s.data.toList = if decB s.data.toList = true then decF s.data.toList else 0 := by
          unfold readF
          rw [if_neg h1, if_neg h2, if_neg h3]
        rw [eo, ef]
        by_cases hd : decB s.data.toList = true
        · rw [if_pos hd, hd]
          exact rread_dec s hs h1 h2 h3 hd w
        · rw [if_neg hd]
          have hp := parts_any s hs w
          unfold PartsV at hp
          rw [if_neg hd] at hp
          have hf : decB s.data.toList = false := by simpa using hd
          rw [hf]
          have k3 : (s.toList == [45, 105, 110, 102]) = false := by rw [← list_data, beq_eq_false_iff_ne]; exact h3
          clear h1 h2 h3 eo ef hd hf hs
          go_enter Tryz.func10, Tryz.ntmps10
          go_wp2_with fail
          refine hp.mono ?_
          rintro e w1 ⟨rfl, hq⟩
          have HQ := Lib.hid hq
          clear hp hq
          go_wp2_with fail
          go_ret2
          exact ⟨rfl, HQ.out⟩
end Go.Proofs.YtldamieigigncaaGreatDoor.lx
namespace Go.Proofs.YtldamieigigncaaGreatDoor.ky
open Go.ChangeShapes Go.WideShapes Go.ChangeAt Go.RowKit Go.Proofs.YtldamieigigncaaGreatDoor.lx
set_option linter.unusedVariables false
attribute [local go_sem] x_frombits x_bits
theorem bv_and (x y : Int) : (BitVec.ofInt 64 x &&& BitVec.ofInt 64 y).toNat = (x % 18446744073709551616).toNat &&& (y % 18446744073709551616).toNat := by
  rw [BitVec.toNat_and, BitVec.toNat_ofInt, BitVec.toNat_ofInt]; rfl
theorem bits_and_u64_l (x y : Int) : bits .and .u64 x y = (((x % 18446744073709551616).toNat &&& (y % 18446744073709551616).toNat : Nat) : Int) := by
  have h : (x % 18446744073709551616).toNat &&& (y % 18446744073709551616).toNat < 18446744073709551616 := by
    have := @Nat.and_le_left (x % 18446744073709551616).toNat (y % 18446744073709551616).toNat
    omega
  rw [← bv_and] at h ⊢
  show IntKind.u64.wrap ((BitVec.ofInt 64 x &&& BitVec.ofInt 64 y).toNat : Int) = _
  rw [IntKind.wrap_u64]; omega

/-! bits of a weight -/
def nanB (n : Nat) : Bool := decide (9218868437227405312 < n % 9223372036854775808)
def negB (n : Nat) : Bool := decide (9223372036854775808 ≤ n)
def keyN (n : Nat) : Nat := if nanB n = true then 18446744073709551615 else if negB n = true then 18446744073709551615 - n else n + 9223372036854775808
theorem keyN_nan {n : Nat} (h : nanB n = true) : keyN n = 18446744073709551615 := by simp [keyN, h]
theorem keyN_neg {n : Nat} (h : nanB n = false) (h' : negB n = true) : keyN n = 18446744073709551615 - n := by simp [keyN, h, h']
theorem keyN_pos {n : Nat} (h : nanB n = false) (h' : negB n = false) : keyN n = n + 9223372036854775808 := by simp [keyN, h, h']

theorem cmp_self (i : Int) : compare i i = .eq := by simp
theorem order_self (n : Nat) : FloatKind.f64.format.order n n = if nanB n = true then none else some .eq := by
  have e1 : FloatKind.f64.format.signWeight = 9223372036854775808 := by decide
  have e2 : FloatKind.f64.format.infRung = 9218868437227405312 := by decide
  have e3 : FloatKind.f64.format.binade = 4503599627370496 := by decide
  unfold Ieee.Format.order Ieee.Format.read nanB
  simp only [e1, e2, e3]
  by_cases h1 : n % 9223372036854775808 < 4503599627370496
  · simp [h1, Ieee.Datum.order]; omega
  · by_cases h2 : n % 9223372036854775808 < 9218868437227405312
    · simp [h1, h2, Ieee.Datum.order]; omega
    · by_cases h3 : n % 9223372036854775808 = 9218868437227405312
      · simp [h3, Ieee.Datum.order]
      · simp [h1, h2, h3, Ieee.Datum.order]; omega
theorem isNaN_bool (n : Nat) : (FloatKind.f64.format.order n n != some .eq) = nanB n := by
  rw [order_self]; cases h : nanB n <;> simp
theorem and_top (n : Nat) (hn : n < 18446744073709551616) : bits .and .u64 (n : Int) 9223372036854775808 = if negB n = true then 9223372036854775808 else 0 := by
  have h := bits_and_u64_nat n 9223372036854775808 hn (by omega)
  have e : n &&& 9223372036854775808 = if negB n = true then 9223372036854775808 else 0 := by
    rw [nat_bit63]
    unfold negB
    by_cases hh : 9223372036854775808 ≤ n
    · simp [hh]; omega
    · simp [hh]; omega
  rw [show (9223372036854775808 : Int) = ((9223372036854775808 : Nat) : Int) from rfl, h, e]
  cases negB n <;> simp
theorem or_top (n : Nat) (hn : n < 9223372036854775808) : bits .or .u64 (n : Int) 9223372036854775808 = ((n + 9223372036854775808 : Nat) : Int) := by
  have h := bits_or_u64_nat n 9223372036854775808 (by omega) (by omega)
  have e : n ||| 9223372036854775808 = n + 9223372036854775808 := by
    have := Nat.two_pow_add_eq_or_of_lt (i := 63) hn 1
    rw [show (2 : Nat) ^ 63 = 9223372036854775808 from rfl, Nat.mul_one] at this
    rw [Nat.or_comm, ← this, Nat.add_comm]
  rw [show (9223372036854775808 : Int) = ((9223372036854775808 : Nat) : Int) from rfl, h, e]
theorem xor_all (n : Nat) (hn : n < 18446744073709551616) : bits .xor .u64 IntKind.u64.max (n : Int) = 18446744073709551615 - n := by
  have e : (BitVec.ofInt 64 IntKind.u64.max ^^^ BitVec.ofInt 64 (n : Int)).toNat = 18446744073709551615 - n := by
    have e1 : BitVec.ofInt 64 IntKind.u64.max = BitVec.allOnes 64 := by decide
    rw [e1, BitVec.allOnes_xor, BitVec.toNat_not, BitVec.toNat_ofInt]
    omega
  show IntKind.u64.wrap ((BitVec.ofInt 64 IntKind.u64.max ^^^ BitVec.ofInt 64 (n : Int)).toNat : Int) = _
  rw [e, IntKind.wrap_u64]; omega
set_option maxRecDepth 100000 in
theorem key_nan (n : Nat) (w : World) (hn : n < 18446744073709551616) (h : nanB n = true) : Calls Tryz.prog 108 #[.float .f64 n] w fun e w' => e = .returned (.int .u64 (keyN n)) ∧ w = w' := by
  rw [keyN_nan h]
  have h1 := isNaN_bool n
  rw [h] at h1
  clear h hn
  go_enter Tryz.func108, Tryz.ntmps108
  go_wp2
  go_ret
  exact ⟨rfl, rfl⟩
set_option maxRecDepth 100000 in
theorem key_neg (n : Nat) (w : World) (hn : n < 18446744073709551616) (h : nanB n = false) (h' : negB n = true) : Calls Tryz.prog 108 #[.float .f64 n] w fun e w' => e = .returned (.int .u64 (keyN n)) ∧ w = w' := by
  have e1 : ((keyN n : Nat) : Int) = 18446744073709551615 - n := by rw [keyN_neg h h']; omega
  rw [e1]
  have h1 := isNaN_bool n
  have h2 := and_top n hn
  rw [h] at h1
  rw [if_pos h'] at h2
  clear h h' e1 
  go_enter Tryz.func108, Tryz.ntmps108
  have h4 := xor_all n hn
  go_wp2
  go_ret
  exact ⟨rfl, rfl⟩
set_option maxRecDepth 100000 in
theorem key_pos (n : Nat) (w : World) (hn : n < 18446744073709551616) (h : nanB n = false) (h' : negB n = false) : Calls Tryz.prog 108 #[.float .f64 n] w fun e w' => e = .returned (.int .u64 (keyN n)) ∧ w = w' := by
  rw [keyN_pos h h']
  have h1 := isNaN_bool n
  have h2 := and_top n hn
  have h3 := or_top n (by simp [negB] at h'; omega)
  rw [h] at h1
  rw [if_neg (by rw [h']; simp)] at h2
  clear h h'
  go_enter Tryz.func108, Tryz.ntmps108
  go_wp2
  go_ret
  exact ⟨rfl, rfl⟩

theorem keyN_lt (n : Nat) (hn : n < 18446744073709551616) : keyN n < 18446744073709551616 := by
  unfold keyN nanB negB; split
  · omega
  · split <;> simp_all <;> omega
theorem key_any (n : Nat) (w : World) (hn : n < 18446744073709551616) : Calls Tryz.prog 108 #[.float .f64 n] w fun e w' => e = .returned (.int .u64 (keyN n)) ∧ w = w' := by
  cases h : nanB n
  · cases h' : negB n
    · exact key_pos n w hn h h'
    · exact key_neg n w hn h h'
  · exact key_nan n w hn h
def cmpN (a b : Nat) : Int := if keyN a < keyN b then -1 else if keyN b < keyN a then 1 else 0
set_option maxRecDepth 100000 in
theorem same_any (a b : Nat) (w : World) (ha : a < 18446744073709551616) (hb : b < 18446744073709551616) : Calls Tryz.prog 83 #[.float .f64 a, .float .f64 b] w fun e w' => e = .returned (.bool (decide (keyN a = keyN b))) ∧ w = w' := by
  go_enter Tryz.func83, Tryz.ntmps83
  go_wp2_with (go_at_call 108; refine (key_any _ _ (by assumption)).mono ?_; rintro e w' ⟨rfl, rfl⟩)
  go_ret
  refine ⟨?_, rfl⟩
  show Ending.returned (.bool _) = _
  congr 2
  rw [Bool.eq_iff_iff]; simp; omega
def topN (a b : Nat) : Nat := if keyN a < keyN b then b else a
theorem topN_lt {a b : Nat} (ha : a < 18446744073709551616) (hb : b < 18446744073709551616) : topN a b < 18446744073709551616 := by
  unfold topN; split <;> assumption
theorem and_2047 (n : Nat) : bits .and .u64 ((n : Int)) 2047 = ((n % 2048 : Nat) : Int) % 18446744073709551616 := by
  rw [bits_and_u64_l]
  have e : (2047 % 18446744073709551616 : Int).toNat = 2 ^ 11 - 1 := by decide
  rw [e, Nat.and_two_pow_sub_one_eq_mod]
  omega
theorem ret_bool {a b : Bool} (h : a = b) : Ending.returned (.bool a) = .returned (.bool b) := by rw [h]
theorem nan_yes {n : Nat} (hn : n < 18446744073709551616) (h : bits .and .u64 ((n : Int) / 4503599627370496) 2047 = 2047) : (IntKind.u64.wrap ((n : Int) * 4096) != 0) = nanB n := by
  have h1 := and_2047 (n / 4503599627370496)
  rw [show ((n / 4503599627370496 : Nat) : Int) = (n : Int) / 4503599627370496 from by omega, h] at h1
  rw [IntKind.wrap_u64, Bool.eq_iff_iff]
  unfold nanB
  simp only [bne_iff_ne, ne_eq, decide_eq_true_eq]
  omega
theorem nan_no {n : Nat} (hn : n < 18446744073709551616) (h : ¬ bits .and .u64 ((n : Int) / 4503599627370496) 2047 = 2047) : false = nanB n := by
  have h1 := and_2047 (n / 4503599627370496)
  rw [show ((n / 4503599627370496 : Nat) : Int) = (n : Int) / 4503599627370496 from by omega] at h1
  rw [h1] at h
  unfold nanB
  symm
  rw [decide_eq_false_iff_not]
  omega
set_option maxRecDepth 100000 in
theorem rnan_any (n : Nat) (w : World) (hn : n < 18446744073709551616) : Calls Tryz.prog 71 #[.float .f64 n] w fun e w' => e = .returned (.bool (nanB n)) ∧ w = w' := by
  go_enter Tryz.func71, Tryz.ntmps71
  go_wp2
  · go_ret
    exact ⟨ret_bool (nan_yes hn (by assumption)), rfl⟩
  · go_ret
    exact ⟨ret_bool (nan_no hn (by assumption)), rfl⟩
set_option maxRecDepth 100000 in
theorem rbelow_any (n : Nat) (w : World) (hn : n < 18446744073709551616) : Calls Tryz.prog 72 #[.float .f64 n] w fun e w' => e = .returned (.bool (negB n)) ∧ w = w' := by
  go_enter Tryz.func72, Tryz.ntmps72
  go_wp2
  go_ret
  refine ⟨ret_bool ?_, rfl⟩
  unfold negB
  show (((n : Int) / 9223372036854775808 == 1) : Bool) = _
  rw [Bool.eq_iff_iff]
  simp only [beq_iff_eq, decide_eq_true_eq]
  omega
theorem less_nan {a b : Nat} (ha : a < 18446744073709551616) (hb : b < 18446744073709551616) (h : nanB a = true ∨ nanB b = true) : decide (keyN a < keyN b) = (!nanB a && nanB b) := by
  have la := keyN_lt a ha
  have lb := keyN_lt b hb
  rw [Bool.eq_iff_iff]
  unfold keyN nanB negB at *
  simp only [decide_eq_true_eq, Bool.and_eq_true, Bool.not_eq_true', decide_eq_false_iff_not] at *
  repeat' split
  all_goals omega
theorem less_sign {a b : Nat} (ha : a < 18446744073709551616) (hb : b < 18446744073709551616) (h : nanB a = false) (h' : nanB b = false) (hs : negB a ≠ negB b) : decide (keyN a < keyN b) = negB a := by
  cases h1 : negB a <;> cases h2 : negB b <;> simp_all [keyN] <;> (unfold negB nanB at *; simp at *; omega)
theorem less_neg {a b : Nat} (ha : a < 18446744073709551616) (hb : b < 18446744073709551616) (h : nanB a = false) (h' : nanB b = false) (h1 : negB a = true) (h2 : negB b = true) : decide (keyN a < keyN b) = decide (b < a) := by
  rw [keyN_neg h h1, keyN_neg h' h2, decide_eq_decide]; omega
theorem less_pos {a b : Nat} (ha : a < 18446744073709551616) (hb : b < 18446744073709551616) (h : nanB a = false) (h' : nanB b = false) (h1 : negB a = false) (h2 : negB b = false) : decide (keyN a < keyN b) = decide (a < b) := by
  rw [keyN_pos h h1, keyN_pos h' h2, decide_eq_decide]; omega
set_option maxRecDepth 100000 in
theorem rless_any (a b : Nat) (w : World) (ha : a < 18446744073709551616) (hb : b < 18446744073709551616) : Calls Tryz.prog 37 #[.float .f64 a, .float .f64 b] w fun e w' => e = .returned (.bool (decide (keyN a < keyN b))) ∧ w = w' := by
  have e : decide (keyN a < keyN b) = if nanB a = true ∨ nanB b = true then (!nanB a && nanB b) else if negB a ≠ negB b then negB a else if negB a = true then decide (b < a) else decide (a < b) := by
    by_cases h : nanB a = true ∨ nanB b = true
    · rw [if_pos h]; exact less_nan ha hb h
    · rw [if_neg h]
      have h1 : nanB a = false := by cases hh : nanB a <;> simp_all
      have h2 : nanB b = false := by cases hh : nanB b <;> simp_all
      by_cases hs : negB a ≠ negB b
      · rw [if_pos hs]; exact less_sign ha hb h1 h2 hs
      · rw [if_neg hs]
        have hs' : negB a = negB b := by simpa using hs
        cases h3 : negB a
        · rw [less_pos ha hb h1 h2 h3 (hs' ▸ h3)]; simp
        · rw [less_neg ha hb h1 h2 h3 (hs' ▸ h3)]; simp
  rw [e]; clear e
  cases h1 : nanB a <;> cases h2 : nanB b <;> cases h3 : negB a <;> cases h4 : negB b
  all_goals
    try simp only [Bool.false_eq_true, Bool.true_eq_false, or_false, or_true, if_false, if_true, ne_eq, not_true_eq_false, not_false_eq_true, Bool.not_true, Bool.not_false, Bool.and_true, Bool.and_false]
    go_enter Tryz.func37, Tryz.ntmps37
    go_wp2_with (first | (go_at_call 71; refine (rnan_any _ _ (by assumption)).mono ?_; rintro e w' ⟨rfl, rfl⟩) | (go_at_call 72; refine (rbelow_any _ _ (by assumption)).mono ?_; rintro e w' ⟨rfl, rfl⟩))
    go_ret
    exact ⟨rfl, rfl⟩
theorem rsame_eq (a b : Nat) : (!decide (keyN a < keyN b) && !decide (keyN b < keyN a)) = decide (keyN a = keyN b) := by
  rw [Bool.eq_iff_iff]; simp; omega
set_option maxRecDepth 100000 in
theorem rsame_any (a b : Nat) (w : World) (ha : a < 18446744073709551616) (hb : b < 18446744073709551616) : Calls Tryz.prog 11 #[.float .f64 a, .float .f64 b] w fun e w' => e = .returned (.bool (decide (keyN a = keyN b))) ∧ w = w' := by
  rw [← rsame_eq]
  have r1 := rless_any a b
  have r2 := rless_any b a
  generalize decide (keyN a < keyN b) = p at *
  generalize decide (keyN b < keyN a) = q at *
  have R1 := Lib.hid r1
  have R2 := Lib.hid r2
  clear r1 r2
  cases p <;> cases q
  all_goals
    go_enter Tryz.func11, Tryz.ntmps11
    go_wp2_with fail
    refine (R1.out _ ha hb).mono ?_
    rintro e w' ⟨rfl, rfl⟩
    go_wp2_with (go_at_call 37; refine (R2.out _ hb ha).mono ?_; rintro e w' ⟨rfl, rfl⟩)
    go_ret
    exact ⟨rfl, rfl⟩
end Go.Proofs.YtldamieigigncaaGreatDoor.ky
