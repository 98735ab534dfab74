import Derived.Test.YtdddbkghleblhaaGreatDoorJao
import Derived.Test.YtdddbkghleblhaaGreatDoorJad
namespace Go.Proofs.YtdddbkghleblhaaGreatDoor.lx
open Go.ChangeShapes Go.WideShapes Go.ChangeAt Go.RowKit
set_option linter.unusedVariables false
attribute [local go_sem] x_sfrombits x_frombits x_bits
theorem val_le {l : List UInt8} (hl : l.length ≤ 15) (h : ∀ c ∈ l, digB c = true) : val l < 1000000000000000 := by
  have h1 := val_lt _ l rfl h
  have h2 : 10 ^ l.length ≤ 10 ^ 15 := Nat.pow_le_pow_right (by omega) hl
  have e15 : (10 : Nat) ^ 15 = 1000000000000000 := by decide +kernel
  omega
theorem val_at {l : List UInt8} {k : Nat} (h : k < l.length) (hd : ∀ c ∈ l, digB c = true) : val (l.take (k + 1)) = 10 * val (l.take k) + ((l.getD k 0).toNat - 48) ∧ 48 ≤ (l.getD k 0).toNat ∧ (l.getD k 0).toNat ≤ 57 := by
  rw [take_snoc l k h, val_snoc]
  exact ⟨rfl, dig_bt (hd _ (getD_mem h))⟩
theorem or_top (x : Nat) (h : x < 9223372036854775808) : x ||| 9223372036854775808 = 9223372036854775808 + x := by
  have p63 : (2 : Nat) ^ 63 = 9223372036854775808 := by decide +kernel
  rw [← p63] at h ⊢
  have e := Nat.two_pow_add_eq_or_of_lt (i := 63) h 1
  rw [Nat.mul_one] at e
  rw [e, Nat.or_comm]
theorem bits_top (x : Nat) (h : x < 9223372036854775808) : bits .or .u64 (x : Int) 9223372036854775808 = ((9223372036854775808 + x : Nat) : Int) := by
  show IntKind.u64.wrap ((BitVec.ofInt 64 (x : Int) ||| BitVec.ofInt 64 9223372036854775808).toNat : Int) = _
  rw [BitVec.toNat_or, BitVec.toNat_ofInt, BitVec.toNat_ofInt, IntKind.wrap_u64]
  have e1 : ((2 ^ 64 : Nat) : Int) = 18446744073709551616 := by decide +kernel
  have e2 : ((x : Int) % ((2 ^ 64 : Nat) : Int)).toNat = x := by rw [e1]; omega
  have e3 : ((9223372036854775808 : Int) % ((2 ^ 64 : Nat) : Int)).toNat = 9223372036854775808 := by rw [e1]; decide
  rw [e2, e3, or_top x h]
  omega
theorem S_size (l : List UInt8) : (S l).size = l.length := rfl
theorem S_get (l : List UInt8) (k : Nat) (h : k < (S l).size) : (S l)[k].toNat = (l.getD k 0).toNat := by
  have h' : k < l.length := h
  rw [List.getD_eq_getElem?_getD, List.getElem?_eq_getElem h']
  rfl
/-- the digits of a weight's text -/
theorem dec_digs {l : List UInt8} (h : decB l = true) : (∀ c ∈ headD (strip l), digB c = true) ∧ (∀ c ∈ tailD (strip l), digB c = true) ∧ 1 ≤ (headD (strip l)).length ∧ (headD (strip l)).length ≤ 9 ∧ (tailD (strip l)).length ≤ 6 := by
  rw [dec_eq] at h
  simp only [Bool.and_eq_true] at h
  obtain ⟨⟨h1, _⟩, h3⟩ := h
  obtain ⟨a1, a2, a3⟩ := digs_of h1
  by_cases hd : dotB (strip l) = true
  · rw [hd] at h3
    simp only [Bool.not_true, Bool.false_or] at h3
    obtain ⟨b1, b2, b3⟩ := digs_of h3
    exact ⟨a3, b3, a1, a2, b2⟩
  · have := tail_nil (l := strip l) (by simpa using hd)
    rw [this]
    exact ⟨a3, fun c hc => by simp at hc, a1, a2, by simp⟩
set_option maxRecDepth 100000 in
set_option maxHeartbeats 4000000 in
theorem rread_dec (s : ByteArray) (hs : s.size ≤ maxLen) (h1 : s.data.toList ≠ [110, 97, 110]) (h2 : s.data.toList ≠ [105, 110, 102]) (h3 : s.data.toList ≠ [45, 105, 110, 102]) (h : decB s.data.toList = true) (w : World) : Calls Tryz.prog 24 #[.string s] w fun e w' => e = .returned (.tuple #[.float .f64 (decF s.data.toList), .bool true]) ∧ Qt w w' := by
  have k1 : (s.toList == [110, 97, 110]) = false := by rw [← list_data, beq_eq_false_iff_ne]; exact h1
  have k2 : (s.toList == [105, 110, 102]) = false := by rw [← list_data, beq_eq_false_iff_ne]; exact h2
  have k3 : (s.toList == [45, 105, 110, 102]) = false := by rw [← list_data, beq_eq_false_iff_ne]; exact h3
  have hp := parts_any s hs w
  obtain ⟨hH, hP, hl1, hl9, hp6⟩ := dec_digs h
  unfold PartsV at hp
  rw [if_pos h] at hp
  unfold decF
  generalize (s.data.toList.head? == some 45) = neg at *
  generalize headD (strip s.data.toList) = H at *
  generalize tailD (strip s.data.toList) = P at *
  have HH := Lib.hid hH
  have HP := Lib.hid hP
  have hsz1 : (S H).size = H.length := rfl
  have hsz2 : (S P).size = P.length := rfl
  have HG1 : Hid (∀ k (h : k < (S H).size), (S H)[k].toNat = (H.getD k 0).toNat) := Lib.hid (S_get H)
  have HG2 : Hid (∀ k (h : k < (S P).size), (S P)[k].toNat = (P.getD k 0).toNat) := Lib.hid (S_get P)
  generalize S H = hb at *
  generalize S P = pb at *
  have HS1 := Lib.hid hsz1
  have HS2 := Lib.hid hsz2
  have hb9 : hb.size ≤ 9 := by omega
  have pb6 : pb.size ≤ 6 := by omega
  clear h h1 h2 h3 hH hP hsz1 hsz2
  go_enter Tryz.func24, Tryz.ntmps24
  go_wp2_with fail
  refine hp.mono ?_
  rintro e w1 ⟨rfl, hq⟩
  have HQ := Lib.hid hq
  clear hp hq
  go_wp2_with fail
  go_loop [8, 10] (fun n i => ∃ k : Nat, i = .int .i64 k ∧ k ≤ hb.size ∧ n = .int .i64 (val (H.take k))) (fun _ i => hb.size - (intOf i).toNat)
  case atStart => exact ⟨0, rfl, Nat.zero_le _, rfl⟩
  case round =>
    obtain ⟨k, rfl, hk, rfl⟩ := hrel
    by_cases hlt : k < hb.size
    · obtain ⟨v1, v2, v3⟩ := val_at (l := H) (k := k) (by rw [← HS1.out]; exact hlt) HH.out
      have hg := HG1.out k hlt
      have hv := val_le (l := H.take k) (by simp; omega) (fun c hc => HH.out c (List.mem_of_mem_take hc))
      rw [← hg] at v1 v2 v3
      have HV1 := Lib.hid v1
      clear v1 hg
      generalize val (H.take k) = V at *
      go_wp2_with fail
      exact ⟨⟨k + 1, by go_num, hlt, congrArg (Value.int .i64) (by rw [HV1.out]; omega)⟩, by simp only [intOf]; omega⟩
    · obtain rfl : k = hb.size := by omega
      go_wp2_with fail
      rw [List.take_of_length_le (Nat.le_of_eq HS1.out.symm)]
      go_loop [8, 9, 11] (fun n d i => ∃ k : Nat, i = .int .i64 k ∧ k ≤ pb.size ∧ n = .int .i64 (val (H ++ P.take k)) ∧ d = .int .i64 (10 ^ k : Nat)) (fun _ _ i => pb.size - (intOf i).toNat)
      case atStart => exact ⟨0, rfl, Nat.zero_le _, by rw [List.take_zero, List.append_nil], rfl⟩
      case round =>
        obtain ⟨k, rfl, hk2, rfl, rfl⟩ := hrel
        have hd : ∀ c ∈ H ++ P.take k, digB c = true := fun c hc => (List.mem_append.1 hc).elim (HH.out c) (fun h => HP.out c (List.mem_of_mem_take h))
        have hv := val_le (l := H ++ P.take k) (by rw [List.length_append, ← HS1.out]; simp; omega) hd
        by_cases hlt2 : k < pb.size
        · have v1 : val (H ++ P.take (k + 1)) = 10 * val (H ++ P.take k) + ((P.getD k 0).toNat - 48) := by
            rw [take_snoc P k (by rw [← HS2.out]; exact hlt2), ← List.append_assoc, val_snoc]
          obtain ⟨_, v2, v3⟩ := val_at (l := P) (k := k) (by rw [← HS2.out]; exact hlt2) HP.out
          have hg := HG2.out k hlt2
          rw [← hg] at v1 v2 v3
          have hp10 : 10 ^ k ≤ 10 ^ 6 := Nat.pow_le_pow_right (by omega) (by omega)
          have e6 : (10 : Nat) ^ 6 = 1000000 := by decide +kernel
          rw [e6] at hp10
          have HPW : Hid (10 ^ (k + 1) = 10 ^ k * 10) := Lib.hid (Nat.pow_succ 10 k)
          have HV1 := Lib.hid v1
          clear v1 hg hd e6
          generalize val (H ++ P.take k) = V at *
          generalize (10 : Nat) ^ k = D at *
          go_wp2_with fail
          exact ⟨⟨k + 1, by go_num, hlt2, congrArg (Value.int .i64) (by rw [HV1.out]; omega), congrArg (Value.int .i64) (by rw [HPW.out]; omega)⟩, by simp only [intOf]; omega⟩
        · obtain rfl : k = pb.size := by omega
          rw [List.take_of_length_le (Nat.le_of_eq HS2.out.symm)] at hv ⊢
          have hf1 := fo_nat (val (H ++ P))
          have hf2 := fo_nat (10 ^ pb.size)
          have hq := fun w => run_float_arith (P := Tryz.prog) w .quo 42 .f64 (Ieee.double.nearest false (val (H ++ P)) 0) (Ieee.double.nearest false (10 ^ pb.size) 0) (flo.wt false (val (H ++ P)) pb.size) (flo.wt_div false (val (H ++ P)) pb.size (by omega) pb6)
          obtain ⟨hn1, hn2⟩ := flo.wt_neg (val (H ++ P)) pb.size (by omega) pb6
          have hbt := bits_top _ hn2
          rw [← hn1] at hbt
          have HPS : Hid (P.length = pb.size) := Lib.hid HS2.out.symm
          have HE1 : Hid (flo.wt false (val (H ++ P)) P.length = flo.wt false (val (H ++ P)) pb.size) := Lib.hid (by rw [HPS.out])
          have HE2 : Hid (flo.wt true (val (H ++ P)) P.length = flo.wt true (val (H ++ P)) pb.size) := Lib.hid (by rw [HPS.out])
          clear hd hn1
          generalize Ieee.double.nearest false (val (H ++ P)) 0 = x1 at *
          generalize Ieee.double.nearest false (10 ^ pb.size) 0 = x2 at *
          generalize (10 : Nat) ^ pb.size = D at *
          generalize flo.wt false (val (H ++ P)) pb.size = f1 at *
          generalize flo.wt true (val (H ++ P)) pb.size = f2 at *
          cases neg
          · go_wp2_with fail
            go_ret2
            refine ⟨?_, HQ.out⟩
            show Ending.returned (.tuple #[.float .f64 f1, .bool true]) = _
            rw [HE1.out]
          · go_wp2_with fail
            go_ret2
            refine ⟨?_, HQ.out⟩
            show Ending.returned (.tuple #[.float .f64 f2, .bool true]) = _
            rw [HE2.out]
theorem rread_any (s : ByteArray) (hs : s.size ≤ maxLen) (w : World) : Calls Tryz.prog 24 #[.string s] w fun e w' => e = .returned (.tuple #[.float .f64 (readF s.data.toList), .bool (readOk s.data.toList)]) ∧ Qt w w' := by
  by_cases h1 : s.data.toList = [110, 97, 110]
  · have k1 : (s.toList == [110, 97, 110]) = true := by rw [← list_data, h1]; rfl
    rw [h1]
    have e1 : readF [110, 97, 110] = 9221120237041090561 := by decide +kernel
    have e2 : readOk [110, 97, 110] = true := by decide +kernel
    rw [e1, e2]
    clear e1 e2 h1 hs
    go_enter Tryz.func24, Tryz.ntmps24
    go_wp2
    go_ret2
    exact ⟨rfl, Qt.refl _⟩
  · have k1 : (s.toList == [110, 97, 110]) = false := by rw [← list_data, beq_eq_false_iff_ne]; exact h1
    by_cases h2 : s.data.toList = [105, 110, 102]
    · have k2 : (s.toList == [105, 110, 102]) = true := by rw [← list_data, h2]; rfl
      rw [h2]
      have e1 : readF [105, 110, 102] = 9218868437227405312 := by decide +kernel
      have e2 : readOk [105, 110, 102] = true := by decide +kernel
      rw [e1, e2]
      clear e1 e2 h1 h2 hs
      go_enter Tryz.func24, Tryz.ntmps24
      go_wp2
      go_ret2
      exact ⟨rfl, Qt.refl _⟩
    · have k2 : (s.toList == [105, 110, 102]) = false := by rw [← list_data, beq_eq_false_iff_ne]; exact h2
      by_cases h3 : s.data.toList = [45, 105, 110, 102]
      · have k3 : (s.toList == [45, 105, 110, 102]) = true := by rw [← list_data, h3]; rfl
        rw [h3]
        have e1 : readF [45, 105, 110, 102] = 18442240474082181120 := by decide +kernel
        have e2 : readOk [45, 105, 110, 102] = true := by decide +kernel
        rw [e1, e2]
        clear e1 e2 h1 h2 h3 hs
        go_enter Tryz.func24, Tryz.ntmps24
        go_wp2
        go_ret2
        exact ⟨rfl, Qt.refl _⟩
      · have eo : readOk s.data.toList = decB s.data.toList := by
          unfold readOk
          rw [beq_eq_false_iff_ne.2 h1, beq_eq_false_iff_ne.2 h2, beq_eq_false_iff_ne.2 h3]
          rfl
        have ef : readF s.data.toList = if decB s.data.toList = true then decF s.data.toList else 0 := by
          unfold readF
          rw [if_neg h1, if_neg h2, if_neg h3]
        rw [eo, ef]
        by_cases hd : decB s.data.toList = true
        · rw [if_pos hd, hd]
          exact rread_dec s hs h1 h2 h3 hd w
        · rw [if_neg hd]
          have hp := parts_any s hs w
          unfold PartsV at hp
          rw [if_neg hd] at hp
          have hf : decB s.data.toList = false := by simpa using hd
          rw [hf]
          have k3 : (s.toList == [45, 105, 110, 102]) = false := by rw [← list_data, beq_eq_false_iff_ne]; exact h3
          clear h1 h2 h3 eo ef hd hf hs
          go_enter Tryz.func24, Tryz.ntmps24
          go_wp2_with fail
          refine hp.mono ?_
          rintro e w1 ⟨rfl, hq⟩
          have HQ := Lib.hid hq
          clear hp hq
          go_wp2_with fail
          go_ret2
          exact ⟨rfl, HQ.out⟩
end Go.Proofs.YtdddbkghleblhaaGreatDoor.lx
namespace Go.Proofs.YtdddbkghleblhaaGreatDoor.lx
open Go.ChangeShapes Go.WideShapes Go.ChangeAt Go.RowKit
set_option linter.unusedVariables false
/-! the document's own words: blanks and signs -/
attribute [local go_sem] get_lit
theorem sgn_get : ∀ k, k < 8 → ([61, 59, 124, 40, 41, 63, 42, 43] : List UInt8).getD k 0 ∈ ([61, 59, 124, 40, 41, 63, 42, 43] : List UInt8) := by decide
theorem sgn_list (c : UInt8) : sgnB c = ([61, 59, 124, 40, 41, 63, 42, 43] : List UInt8).contains c := by
  unfold sgnB
  rw [Bool.eq_iff_iff]
  simp [or_assoc]
set_option maxRecDepth 100000 in
set_option maxHeartbeats 1000000 in
theorem rsign4_any (c : UInt8) (w : World) : Calls Tryz.prog 51 #[.int .u8 c.toNat] w fun e w' => e = .returned (.bool (sgnB c)) ∧ w = w' := by
  have hc := b_lt c
  have h : sgnB c = decide (c.toNat = 61 ∨ c.toNat = 59 ∨ c.toNat = 124 ∨ c.toNat = 40 ∨ c.toNat = 41 ∨ c.toNat = 63 ∨ c.toNat = 42 ∨ c.toNat = 43) := by
    unfold sgnB
    simp only [beq_n]
    rw [Bool.eq_iff_iff]
    simp [or_assoc]
  rw [h]
  clear h
  generalize c.toNat = n at *
  have h : n = 61 ∨ n = 59 ∨ n = 124 ∨ n = 40 ∨ n = 41 ∨ n = 63 ∨ n = 42 ∨ n = 43 ∨ (n ≠ 61 ∧ n ≠ 59 ∧ n ≠ 124 ∧ n ≠ 40 ∧ n ≠ 41 ∧ n ≠ 63 ∧ n ≠ 42 ∧ n ≠ 43) := by omega
  rcases h with rfl | rfl | rfl | rfl | rfl | rfl | rfl | rfl | ⟨h1, h2, h3, h4, h5, h6, h7, h8⟩
  · go_enter Tryz.func51, Tryz.ntmps51
    go_wp2
    go_rounds 1
    go_ret
    exact ⟨rfl, rfl⟩
  · go_enter Tryz.func51, Tryz.ntmps51
    go_wp2
    go_rounds 2
    go_ret
    exact ⟨rfl, rfl⟩
  · go_enter Tryz.func51, Tryz.ntmps51
    go_wp2
    go_rounds 3
    go_ret
    exact ⟨rfl, rfl⟩
  · go_enter Tryz.func51, Tryz.ntmps51
    go_wp2
    go_rounds 4
    go_ret
    exact ⟨rfl, rfl⟩
  · go_enter Tryz.func51, Tryz.ntmps51
    go_wp2
    go_rounds 5
    go_ret
    exact ⟨rfl, rfl⟩
  · go_enter Tryz.func51, Tryz.ntmps51
    go_wp2
    go_rounds 6
    go_ret
    exact ⟨rfl, rfl⟩
  · go_enter Tryz.func51, Tryz.ntmps51
    go_wp2
    go_rounds 7
    go_ret
    exact ⟨rfl, rfl⟩
  · go_enter Tryz.func51, Tryz.ntmps51
    go_wp2
    go_rounds 8
    go_ret
    exact ⟨rfl, rfl⟩
  · have k1 : ((61 : Int) == (n : Int)) = false := by rw [beq_eq_false_iff_ne]; omega
    have k2 : ((59 : Int) == (n : Int)) = false := by rw [beq_eq_false_iff_ne]; omega
    have k3 : ((124 : Int) == (n : Int)) = false := by rw [beq_eq_false_iff_ne]; omega
    have k4 : ((40 : Int) == (n : Int)) = false := by rw [beq_eq_false_iff_ne]; omega
    have k5 : ((41 : Int) == (n : Int)) = false := by rw [beq_eq_false_iff_ne]; omega
    have k6 : ((63 : Int) == (n : Int)) = false := by rw [beq_eq_false_iff_ne]; omega
    have k7 : ((42 : Int) == (n : Int)) = false := by rw [beq_eq_false_iff_ne]; omega
    have k8 : ((43 : Int) == (n : Int)) = false := by rw [beq_eq_false_iff_ne]; omega
    have e : decide (n = 61 ∨ n = 59 ∨ n = 124 ∨ n = 40 ∨ n = 41 ∨ n = 63 ∨ n = 42 ∨ n = 43) = false := by rw [decide_eq_false_iff_not]; omega
    rw [e]
    clear e h1 h2 h3 h4 h5 h6 h7 h8
    go_enter Tryz.func51, Tryz.ntmps51
    go_wp2
    go_rounds 9
    go_ret
    exact ⟨rfl, rfl⟩
set_option maxRecDepth 100000 in
set_option maxHeartbeats 2000000 in
theorem rskip_any (s : ByteArray) (hs : s.size ≤ maxLen) (a : Nat) (ha : a ≤ s.size) (w : World) : Calls Tryz.prog 28 #[.string s, .int .i64 a] w fun e w' => e = .returned (.int .i64 (nxt s.data.toList a : Nat)) ∧ w = w' := by
  unfold maxLen at hs
  unfold nxt
  go_enter Tryz.func28, Tryz.ntmps28
  go_wp2
  go_loop [1, 5] (fun i r => ∃ (k : Nat) (x : Bool), i = .int .i64 k ∧ r = .bool x ∧ k ≤ s.size ∧ a + runN skipS false (s.data.toList.drop a) = k + runN skipS x (s.data.toList.drop k)) (fun i _ => s.size - (intOf i).toNat)
  case atStart => exact ⟨a, false, rfl, rfl, ha, rfl⟩
  case round =>
    obtain ⟨k, x, rfl, rfl, hk, hsum⟩ := hrel
    have HM := Lib.hid hsum
    clear hsum
    by_cases hlt : k < s.size
    · have HD := Lib.hid (bytes_drop s k hlt)
      have hb := b_lt s[k]
      have HR : Hid (∀ x : Bool, runN skipS x (s[k] :: s.data.toList.drop (k + 1)) = if (skipS x s[k]).1 = true then runN skipS (skipS x s[k]).2 (s.data.toList.drop (k + 1)) + 1 else 0) := Lib.hid (fun x => rfl)
      have HK : Hid (∀ x : Bool, skipS x s[k] = ((decide (s[k].toNat = 35) || (x && decide (s[k].toNat ≠ 10))) || decide (s[k].toNat = 32 ∨ s[k].toNat = 9 ∨ s[k].toNat = 13 ∨ s[k].toNat = 10), decide (s[k].toNat = 35) || (x && decide (s[k].toNat ≠ 10)))) := Lib.hid (fun x => by
        have e1 : (s[k] == 35 || (x && s[k] != 10)) = (decide (s[k].toNat = 35) || (x && decide (s[k].toNat ≠ 10))) := by
          rw [beq_n]
          congr 2
          rw [Bool.eq_iff_iff]
          simp [← UInt8.toNat_inj]
        unfold skipS
        rw [e1, blk_n])
      have h : s[k].toNat = 35 ∨ s[k].toNat = 10 ∨ s[k].toNat = 32 ∨ s[k].toNat = 9 ∨ s[k].toNat = 13 ∨ (s[k].toNat ≠ 35 ∧ s[k].toNat ≠ 10 ∧ s[k].toNat ≠ 32 ∧ s[k].toNat ≠ 9 ∧ s[k].toNat ≠ 13) := by omega
      rcases h with h | h | h | h | h | ⟨h1, h2, h3, h4, h5⟩
      · have HS : Hid (runN skipS x (s.data.toList.drop k) = runN skipS true (s.data.toList.drop (k + 1)) + 1) := Lib.hid (by rw [HD.out, HR.out, HK.out, h]; cases x <;> rfl)
        clear HR HK HD hb
        go_wp2_with fail
        exact ⟨⟨k + 1, true, by go_num, rfl, hlt, by have := HM.out; have := HS.out; omega⟩, by simp only [intOf]; omega⟩
      · have HS : Hid (runN skipS x (s.data.toList.drop k) = runN skipS false (s.data.toList.drop (k + 1)) + 1) := Lib.hid (by rw [HD.out, HR.out, HK.out, h]; cases x <;> rfl)
        clear HR HK HD hb
        go_wp2_with fail
        exact ⟨⟨k + 1, false, by go_num, rfl, hlt, by have := HM.out; have := HS.out; omega⟩, by simp only [intOf]; omega⟩
      · cases x
        · have HS : Hid (runN skipS false (s.data.toList.drop k) = runN skipS false (s.data.toList.drop (k + 1)) + 1) := Lib.hid (by rw [HD.out, HR.out, HK.out, h]; rfl)
          clear HR HK HD hb
          go_wp2_with fail
          exact ⟨⟨k + 1, false, by go_num, rfl, hlt, by have := HM.out; have := HS.out; omega⟩, by simp only [intOf]; omega⟩
        · have HS : Hid (runN skipS true (s.data.toList.drop k) = runN skipS true (s.data.toList.drop (k + 1)) + 1) := Lib.hid (by rw [HD.out, HR.out, HK.out, h]; rfl)
          clear HR HK HD hb
          go_wp2_with fail
          exact ⟨⟨k + 1, true, by go_num, rfl, hlt, by have := HM.out; have := HS.out; omega⟩, by simp only [intOf]; omega⟩
      · cases x
        · have HS : Hid (runN skipS false (s.data.toList.drop k) = runN skipS false (s.data.toList.drop (k + 1)) + 1) := Lib.hid (by rw [HD.out, HR.out, HK.out, h]; rfl)
          clear HR HK HD hb
          go_wp2_with fail
          exact ⟨⟨k + 1, false, by go_num, rfl, hlt, by have := HM.out; have := HS.out; omega⟩, by simp only [intOf]; omega⟩
        · have HS : Hid (runN skipS true (s.data.toList.drop k) = runN skipS true (s.data.toList.drop (k + 1)) + 1) := Lib.hid (by rw [HD.out, HR.out, HK.out, h]; rfl)
          clear HR HK HD hb
          go_wp2_with fail
          exact ⟨⟨k + 1, true, by go_num, rfl, hlt, by have := HM.out; have := HS.out; omega⟩, by simp only [intOf]; omega⟩
      · cases x
        · have HS : Hid (runN skipS false (s.data.toList.drop k) = runN skipS false (s.data.toList.drop (k + 1)) + 1) := Lib.hid (by rw [HD.out, HR.out, HK.out, h]; rfl)
          clear HR HK HD hb
          go_wp2_with fail
          exact ⟨⟨k + 1, false, by go_num, rfl, hlt, by have := HM.out; have := HS.out; omega⟩, by simp only [intOf]; omega⟩
        · have HS : Hid (runN skipS true (s.data.toList.drop k) = runN skipS true (s.data.toList.drop (k + 1)) + 1) := Lib.hid (by rw [HD.out, HR.out, HK.out, h]; rfl)
          clear HR HK HD hb
          go_wp2_with fail
          exact ⟨⟨k + 1, true, by go_num, rfl, hlt, by have := HM.out; have := HS.out; omega⟩, by simp only [intOf]; omega⟩
      · have k1 : ((s[k].toNat : Int) == 35) = false := by rw [beq_eq_false_iff_ne]; omega
        have k2 : ((s[k].toNat : Int) == 10) = false := by rw [beq_eq_false_iff_ne]; omega
        have k3 : ((s[k].toNat : Int) != 32) = true := by rw [bne_iff_ne]; omega
        have k4 : ((s[k].toNat : Int) != 9) = true := by rw [bne_iff_ne]; omega
        have k5 : ((s[k].toNat : Int) != 13) = true := by rw [bne_iff_ne]; omega
        have k6 : ((s[k].toNat : Int) != 10) = true := by rw [bne_iff_ne]; omega
        have e1 : decide (s[k].toNat = 35) = false := decide_eq_false h1
        have e2 : decide (s[k].toNat ≠ 10) = true := decide_eq_true h2
        have e3 : decide (s[k].toNat = 32 ∨ s[k].toNat = 9 ∨ s[k].toNat = 13 ∨ s[k].toNat = 10) = false := decide_eq_false (by omega)
        cases x
        · have HS : Hid (runN skipS false (s.data.toList.drop k) = 0) := Lib.hid (by rw [HD.out, HR.out, HK.out, e1, e2, e3]; rfl)
          clear HR HK HD hb e1 e2 e3 h1 h2 h3 h4 h5
          go_wp2_with fail
          go_ret
          exact ⟨ret_int (by have := HM.out; have := HS.out; omega), rfl⟩
        · have HS : Hid (runN skipS true (s.data.toList.drop k) = runN skipS true (s.data.toList.drop (k + 1)) + 1) := Lib.hid (by rw [HD.out, HR.out, HK.out, e1, e2, e3]; rfl)
          clear HR HK HD hb e1 e2 e3 h1 h2 h3 h4 h5
          go_wp2_with fail
          exact ⟨⟨k + 1, true, by go_num, rfl, hlt, by have := HM.out; have := HS.out; omega⟩, by simp only [intOf]; omega⟩
    · obtain rfl : k = s.size := by omega
      go_wp2
      go_ret
      have h := HM.out
      rw [show s.data.toList.drop s.size = [] from List.drop_eq_nil_of_le (by simp)] at h
      have h0 : runN skipS x [] = 0 := rfl
      exact ⟨ret_int (by omega), rfl⟩
end Go.Proofs.YtdddbkghleblhaaGreatDoor.lx
namespace Go.Proofs.YtdddbkghleblhaaGreatDoor.lx
open Go.ChangeShapes Go.WideShapes Go.ChangeAt Go.RowKit
set_option linter.unusedVariables false
attribute [local go_sem] run_store_float
/-! the document's own words -/
/-- a run, byte by byte: p holds from place a on, up to place k -/
def Runs (p : UInt8 → Bool) (l : List UInt8) (a k : Nat) : Prop := a ≤ k ∧ k ≤ l.length ∧ runP p (l.drop a) = (k - a) + runP p (l.drop k)
theorem Runs.start (p : UInt8 → Bool) (l : List UInt8) (a : Nat) (h : a ≤ l.length) : Runs p l a a := ⟨Nat.le_refl _, h, by rw [Nat.sub_self, Nat.zero_add]⟩
theorem Runs.on {p : UInt8 → Bool} {s : ByteArray} {a k : Nat} (h : Runs p s.data.toList a k) (hk : k < s.size) (hp : p s[k] = true) : Runs p s.data.toList a (k + 1) := by
  obtain ⟨h1, h2, h3⟩ := h
  have hl : s.data.toList.length = s.size := by simp
  refine ⟨by omega, by omega, ?_⟩
  rw [h3, bytes_drop s k hk]
  unfold runP
  rw [List.takeWhile_cons_of_pos hp, List.length_cons]
  omega
theorem Runs.off {p : UInt8 → Bool} {s : ByteArray} {a k : Nat} (h : Runs p s.data.toList a k) (hk : k < s.size) (hp : p s[k] = false) : runP p (s.data.toList.drop a) = k - a := by
  rw [h.2.2, bytes_drop s k hk]
  unfold runP
  rw [List.takeWhile_cons_of_neg (by rw [hp]; decide)]
  rfl
theorem Runs.fin {p : UInt8 → Bool} {s : ByteArray} {a : Nat} (h : Runs p s.data.toList a s.size) : runP p (s.data.toList.drop a) = s.size - a := by
  rw [h.2.2, List.drop_eq_nil_of_le (by simp)]
  rfl
/-- a word as the document has it -/
def rwordV (a : Nat) (x : Except Nat (Nat × List UInt8 × Nat × Nat)) : Value :=
  match x with
  | .ok (k, t, w, n) => .tuple #[TV k a t w, .int .i64 (a + n + 1 : Nat), .int .i64 0]
  | .error e => .tuple #[TV 0 0 [] 0, .int .i64 a, .int .i64 e]
set_option maxRecDepth 100000 in
set_option maxHeartbeats 4000000 in
theorem rword_name (s : ByteArray) (hs : s.size ≤ maxLen) (a : Nat) (ha : a < s.size) (hc : letB s[a] = true) (w : World) : Calls Tryz.prog 29 #[.string s, .int .i64 a] w fun e w' => e = .returned (rwordV a (wordAt (s.data.toList.drop a))) ∧ Below w.heap.size w w' := by
  have hlt := rletter_n s[a].toNat (b_lt _)
  rw [← let_n, hc] at hlt
  have hl : s.data.toList.length = s.size := by simp
  have hst := Runs.start namB s.data.toList (a + 1) (by omega)
  have HST := Lib.hid hst
  have HW : Hid (∀ n, runP namB (s.data.toList.drop (a + 1)) = n → wordAt (s.data.toList.drop a) = if n + 1 ≤ 24 then .ok (1, (s.data.toList.drop a).take (n + 1), 0, n) else .error 1) := Lib.hid (fun n hn => by
    rw [bytes_drop s a ha, word_let _ _ hc, hn])
  have HX : Hid (∀ k, a + 1 ≤ k → s.extract a k = S ((s.data.toList.drop a).take (k - a))) := Lib.hid (fun k _ => ext_S s a k)
  unfold maxLen at hs
  clear hl hst hc
  go_enter Tryz.func29, Tryz.ntmps29
  go_wp2_with (go_at_call 47; refine (hlt _).mono ?_; rintro e w1 ⟨rfl, rfl⟩)
  go_loop [8] (fun i => ∃ k : Nat, i = .int .i64 k ∧ Runs namB s.data.toList (a + 1) k) (fun i => s.size - (intOf i).toNat)
  case atStart => exact ⟨a + 1, by go_num, HST.out⟩
  case round =>
    obtain ⟨k, rfl, hr⟩ := hrel
    have hk1 : a + 1 ≤ k := hr.1
    have hk2 : k ≤ s.size := by have := hr.2.1; simpa using this
    have HR := Lib.hid hr
    clear hr
    have hfin : ∀ n, k = a + 1 + n → runP namB (s.data.toList.drop (a + 1)) = n → (n + 1 ≤ 24 → rwordV a (wordAt (s.data.toList.drop a)) = .tuple #[.agg #[.int .i64 1, .int .i64 a, .string (s.extract a k), .float .f64 0], .int .i64 k, .int .i64 0]) ∧ (¬ n + 1 ≤ 24 → rwordV a (wordAt (s.data.toList.drop a)) = .tuple #[.agg #[.int .i64 0, .int .i64 0, .string ⟨#[]⟩, .float .f64 0], .int .i64 a, .int .i64 1]) := fun n e hn => by
      subst e
      refine ⟨fun h => ?_, fun h => ?_⟩
      · rw [HW.out n hn, if_pos h, HX.out _ (by omega), show a + 1 + n - a = n + 1 from by omega]
        unfold rwordV TV
        simp only
        rw [show a + n + 1 = a + 1 + n from by omega]
        rfl
      · rw [HW.out n hn, if_neg h]
        rfl
    have HF := Lib.hid hfin
    clear hfin
    by_cases hlk : k < s.size
    · have hin := rinner_n s[k].toNat (b_lt _)
      rw [← nam_n] at hin
      cases hb : namB s[k]
      · rw [hb] at hin
        have hn := HR.out.off hlk hb
        obtain ⟨h1, h2⟩ := HF.out (k - (a + 1)) (by omega) hn
        clear hb hn
        by_cases h24 : k - (a + 1) + 1 ≤ 24
        · have HV := Lib.hid (h1 h24)
          clear h1 h2
          go_wp2_with (go_at_call 48; refine (hin _).mono ?_; rintro e w1 ⟨rfl, rfl⟩)
          refine bodyPost_ret (v := .tuple #[.agg #[.int .i64 1, .int .i64 a, .string (s.extract a k), .float .f64 0], .int .i64 k, .int .i64 0]) (by simp [results, Tryz.results29, go_sem]) rfl ⟨by rw [HV.out], ?_⟩
          go_grown
        · have HV := Lib.hid (h2 h24)
          clear h1 h2
          go_wp2_with (go_at_call 48; refine (hin _).mono ?_; rintro e w1 ⟨rfl, rfl⟩)
          refine bodyPost_ret (v := .tuple #[.agg #[.int .i64 0, .int .i64 0, .string ⟨#[]⟩, .float .f64 0], .int .i64 a, .int .i64 1]) (by simp [results, Tryz.results29, go_sem]) rfl ⟨by rw [HV.out], ?_⟩
          go_grown
      · rw [hb] at hin
        have HR2 := Lib.hid (HR.out.on hlk hb)
        clear hb
        go_wp2_with (go_at_call 48; refine (hin _).mono ?_; rintro e w1 ⟨rfl, rfl⟩)
        go_round
        case rel => exact ⟨k + 1, by go_num, HR2.out⟩
        case measure => simp [intOf]; omega
    · obtain rfl : k = s.size := by omega
      have hn := HR.out.fin
      obtain ⟨h1, h2⟩ := HF.out (s.size - (a + 1)) (by omega) hn
      clear hn
      by_cases h24 : s.size - (a + 1) + 1 ≤ 24
      · have HV := Lib.hid (h1 h24)
        clear h1 h2
        go_wp2_with fail
        refine bodyPost_ret (v := .tuple #[.agg #[.int .i64 1, .int .i64 a, .string (s.extract a s.size), .float .f64 0], .int .i64 s.size, .int .i64 0]) (by simp [results, Tryz.results29, go_sem]) rfl ⟨by rw [HV.out], ?_⟩
        go_grown
      · have HV := Lib.hid (h2 h24)
        clear h1 h2
        go_wp2_with fail
        refine bodyPost_ret (v := .tuple #[.agg #[.int .i64 0, .int .i64 0, .string ⟨#[]⟩, .float .f64 0], .int .i64 a, .int .i64 1]) (by simp [results, Tryz.results29, go_sem]) rfl ⟨by rw [HV.out], ?_⟩
        go_grown
end Go.Proofs.YtdddbkghleblhaaGreatDoor.lx
namespace Go.Proofs.YtdddbkghleblhaaGreatDoor.lx
open Go.ChangeShapes Go.WideShapes Go.ChangeAt Go.RowKit
set_option linter.unusedVariables false
attribute [local go_sem] run_store_float
theorem below_alloc_draw (w : World) (o : Obj) (n : Nat) : Below w.heap.size w ((w.alloc o).drewN n) :=
  ((Below.refl w.heap.size w).alloc (Nat.le_refl _) o).trans (Qt.below (w := w.alloc o) (w' := (w.alloc o).drewN n) ⟨n, rfl⟩)
theorem rerr (a e : Nat) : rwordV a (.error e) = .tuple #[.agg #[.int .i64 0, .int .i64 0, .string ⟨#[]⟩, .float .f64 0], .int .i64 a, .int .i64 e] := rfl
set_option maxRecDepth 100000 in
set_option maxHeartbeats 4000000 in
theorem rword_quote (s : ByteArray) (hs : s.size ≤ maxLen) (a : Nat) (ha : a < s.size) (hc : s[a] = 39) (w : World) : Calls Tryz.prog 29 #[.string s, .int .i64 a] w fun e w' => e = .returned (rwordV a (wordAt (s.data.toList.drop a))) ∧ Below w.heap.size w w' := by
  have hlt := rletter_n 39 (by decide)
  rw [show letN 39 = false from by decide] at hlt
  have k39 : s[a].toNat = 39 := by rw [hc]; rfl
  have hl : s.data.toList.length = s.size := by simp
  have hst := Runs.start quoB s.data.toList (a + 1) (by omega)
  have HST := Lib.hid hst
  have HW : Hid (∀ n, runP quoB (s.data.toList.drop (a + 1)) = n → wordAt (s.data.toList.drop a) = if n = 0 ∨ (s.data.toList.drop (a + 1 + n)).head? ≠ some 39 then .error 3 else if n ≤ 16 then .ok (2, (s.data.toList.drop (a + 1)).take n, 0, n + 1) else .error 1) := Lib.hid (fun n hn => by
    rw [bytes_drop s a ha, hc, word_39, hn, List.drop_drop])
  have HX : Hid (∀ k, s.extract (a + 1) k = S ((s.data.toList.drop (a + 1)).take (k - (a + 1)))) := Lib.hid (fun k => ext_S s (a + 1) k)
  have HLT := Lib.hid hlt
  unfold maxLen at hs
  clear hl hst hc hlt
  go_enter Tryz.func29, Tryz.ntmps29
  go_wp2_with (go_at_call 47; refine (HLT.out _).mono ?_; rintro e w1 ⟨rfl, rfl⟩)
  go_loop [8] (fun i => ∃ k : Nat, i = .int .i64 k ∧ Runs quoB s.data.toList (a + 1) k) (fun i => s.size - (intOf i).toNat)
  case atStart => exact ⟨a + 1, by go_num, HST.out⟩
  case round =>
    obtain ⟨k, rfl, hr⟩ := hrel
    have hk1 : a + 1 ≤ k := hr.1
    have hk2 : k ≤ s.size := by have := hr.2.1; simpa using this
    have HR := Lib.hid hr
    clear hr k39
    by_cases hlk : k < s.size
    · have hin := rquot_n s[k].toNat (b_lt _)
      rw [← quo_n'] at hin
      cases hb : quoB s[k]
      · rw [hb] at hin
        have hn := HR.out.off hlk hb
        have hw := HW.out _ hn
        rw [show a + 1 + (k - (a + 1)) = k from by omega, bytes_drop s k hlk] at hw
        clear hb hn
        have hnk : ((k : Int) == (s.size : Int)) = false := by rw [beq_eq_false_iff_ne]; omega
        by_cases h39 : s[k] = 39
        · have m1 : ((s[k].toNat : Int) != 39) = false := by rw [h39]; decide
          by_cases h0 : k = a + 1
          · have m2 : ((k : Int) == (a : Int) + 1) = true := by rw [beq_iff_eq]; omega
            have HV : Hid (rwordV a (wordAt (s.data.toList.drop a)) = _) := Lib.hid (by rw [hw, if_pos (.inl (by omega)), rerr])
            clear hw h39 h0
            go_wp2_with (go_at_call 49; refine (hin _).mono ?_; rintro e w1 ⟨rfl, rfl⟩)
            refine bodyPost_ret (v := .tuple #[.agg #[.int .i64 0, .int .i64 0, .string ⟨#[]⟩, .float .f64 0], .int .i64 a, .int .i64 3]) (by simp [results, Tryz.results29, go_sem]) rfl ⟨by rw [HV.out]; rfl, ?_⟩
            go_grown
          · have m2 : ((k : Int) == (a : Int) + 1) = false := by rw [beq_eq_false_iff_ne]; omega
            have hcond : ¬ (k - (a + 1) = 0 ∨ (s[k] :: s.data.toList.drop (k + 1)).head? ≠ some 39) := by
              rw [h39]
              simp
              omega
            rw [if_neg hcond] at hw
            by_cases h16 : k - (a + 1) ≤ 16
            · have HV : Hid (rwordV a (wordAt (s.data.toList.drop a)) = .tuple #[.agg #[.int .i64 2, .int .i64 a, .string (s.extract (a + 1) k), .float .f64 0], .int .i64 (k + 1 : Nat), .int .i64 0]) := Lib.hid (by
                rw [hw, if_pos h16, HX.out]
                unfold rwordV TV
                simp only
                rw [show a + (k - (a + 1) + 1) + 1 = k + 1 from by omega]
                rfl)
              clear hw h39 hcond
              go_wp2_with (go_at_call 49; refine (hin _).mono ?_; rintro e w1 ⟨rfl, rfl⟩)
              refine bodyPost_ret (v := .tuple #[.agg #[.int .i64 2, .int .i64 a, .string (s.extract (a + 1) k), .float .f64 0], .int .i64 (k + 1 : Nat), .int .i64 0]) (by simp [results, Tryz.results29, go_sem]) rfl ⟨by rw [HV.out], ?_⟩
              go_grown
            · have HV : Hid (rwordV a (wordAt (s.data.toList.drop a)) = _) := Lib.hid (by rw [hw, if_neg h16, rerr])
              clear hw h39 hcond
              go_wp2_with (go_at_call 49; refine (hin _).mono ?_; rintro e w1 ⟨rfl, rfl⟩)
              refine bodyPost_ret (v := .tuple #[.agg #[.int .i64 0, .int .i64 0, .string ⟨#[]⟩, .float .f64 0], .int .i64 a, .int .i64 1]) (by simp [results, Tryz.results29, go_sem]) rfl ⟨by rw [HV.out]; rfl, ?_⟩
              go_grown
        · have m1 : ((s[k].toNat : Int) != 39) = true := by
            rw [bne_iff_ne]
            intro e
            exact h39 (UInt8.toNat_inj.1 (by rw [show s[k].toNat = 39 from by omega]; rfl))
          have HV : Hid (rwordV a (wordAt (s.data.toList.drop a)) = _) := Lib.hid (by rw [hw, if_pos (.inr (fun e => h39 (Option.some.inj e))), rerr])
          clear hw h39
          go_wp2_with (go_at_call 49; refine (hin _).mono ?_; rintro e w1 ⟨rfl, rfl⟩)
          refine bodyPost_ret (v := .tuple #[.agg #[.int .i64 0, .int .i64 0, .string ⟨#[]⟩, .float .f64 0], .int .i64 a, .int .i64 3]) (by simp [results, Tryz.results29, go_sem]) rfl ⟨by rw [HV.out]; rfl, ?_⟩
          go_grown
      · rw [hb] at hin
        have HR2 := Lib.hid (HR.out.on hlk hb)
        clear hb
        go_wp2_with (go_at_call 49; refine (hin _).mono ?_; rintro e w1 ⟨rfl, rfl⟩)
        go_round
        case rel => exact ⟨k + 1, by go_num, HR2.out⟩
        case measure => simp [intOf]; omega
    · obtain rfl : k = s.size := by omega
      have hn := HR.out.fin
      have hw := HW.out _ hn
      rw [show a + 1 + (s.size - (a + 1)) = s.size from by omega] at hw
      have HV : Hid (rwordV a (wordAt (s.data.toList.drop a)) = _) := Lib.hid (by rw [hw, if_pos (.inr (by rw [show s.data.toList.drop s.size = [] from List.drop_eq_nil_of_le (by simp)]; simp)), rerr])
      clear hn hw
      go_wp2_with fail
      refine bodyPost_ret (v := .tuple #[.agg #[.int .i64 0, .int .i64 0, .string ⟨#[]⟩, .float .f64 0], .int .i64 a, .int .i64 3]) (by simp [results, Tryz.results29, go_sem]) rfl ⟨by rw [HV.out]; rfl, ?_⟩
      go_grown
set_option maxRecDepth 100000 in
set_option maxHeartbeats 4000000 in
theorem rword_sign (s : ByteArray) (hs : s.size ≤ maxLen) (a : Nat) (ha : a < s.size) (h1 : letB s[a] = false) (h2 : s[a] ≠ 39) (h3 : s[a] ≠ 37) (w : World) : Calls Tryz.prog 29 #[.string s, .int .i64 a] w fun e w' => e = .returned (rwordV a (wordAt (s.data.toList.drop a))) ∧ Below w.heap.size w w' := by
  have hlt := rletter_n s[a].toNat (b_lt _)
  rw [← let_n, h1] at hlt
  have hsg := rsign4_any s[a]
  have k2 : ((s[a].toNat : Int) == 39) = false := by
    rw [beq_eq_false_iff_ne]
    intro e
    exact h2 (UInt8.toNat_inj.1 (by rw [show s[a].toNat = 39 from by omega]; rfl))
  have k3 : ((s[a].toNat : Int) == 37) = false := by
    rw [beq_eq_false_iff_ne]
    intro e
    exact h3 (UInt8.toNat_inj.1 (by rw [show s[a].toNat = 37 from by omega]; rfl))
  have hx : s.extract a (a + 1) = S [s[a]] := by
    rw [ext_S, show a + 1 - a = 1 from by omega, bytes_drop s a ha]
    rfl
  have HX := Lib.hid hx
  unfold maxLen at hs
  cases h4 : sgnB s[a]
  · rw [h4] at hsg
    have HV : Hid (rwordV a (wordAt (s.data.toList.drop a)) = .tuple #[.agg #[.int .i64 0, .int .i64 0, .string ⟨#[]⟩, .float .f64 0], .int .i64 a, .int .i64 2]) := Lib.hid (by
      rw [bytes_drop s a ha, word_cons, h1, h4, beq_eq_false_iff_ne.2 h2, beq_eq_false_iff_ne.2 h3]
      rfl)
    clear h1 h2 h3 h4 hx
    go_enter Tryz.func29, Tryz.ntmps29
    go_wp2_with (first | (go_at_call 47; refine (hlt _).mono ?_; rintro e w1 ⟨rfl, rfl⟩) | (go_at_call 51; refine (hsg _).mono ?_; rintro e w2 ⟨rfl, rfl⟩))
    refine bodyPost_ret (v := .tuple #[.agg #[.int .i64 0, .int .i64 0, .string ⟨#[]⟩, .float .f64 0], .int .i64 a, .int .i64 2]) (by simp [results, Tryz.results29, go_sem]) rfl ⟨by rw [HV.out], ?_⟩
    go_grown
  · rw [h4] at hsg
    have HV : Hid (rwordV a (wordAt (s.data.toList.drop a)) = .tuple #[.agg #[.int .i64 4, .int .i64 a, .string (s.extract a (a + 1)), .float .f64 0], .int .i64 (a + 1 : Nat), .int .i64 0]) := Lib.hid (by
      rw [bytes_drop s a ha, word_cons, h1, h4, beq_eq_false_iff_ne.2 h2, beq_eq_false_iff_ne.2 h3, HX.out]
      rfl)
    clear h1 h2 h3 h4 hx
    go_enter Tryz.func29, Tryz.ntmps29
    go_wp2_with (first | (go_at_call 47; refine (hlt _).mono ?_; rintro e w1 ⟨rfl, rfl⟩) | (go_at_call 51; refine (hsg _).mono ?_; rintro e w2 ⟨rfl, rfl⟩))
    refine bodyPost_ret (v := .tuple #[.agg #[.int .i64 4, .int .i64 a, .string (s.extract a (a + 1)), .float .f64 0], .int .i64 (a + 1 : Nat), .int .i64 0]) (by simp [results, Tryz.results29, go_sem]) rfl ⟨by rw [HV.out], ?_⟩
    go_grown
/-- what may stand in a weight, as the document asks it -/
theorem wgt_ways (c : UInt8) : (digB c = true ∧ wgtB c = true) ∨ (digB c = false ∧ letB c = true ∧ wgtB c = true) ∨ (digB c = false ∧ letB c = false ∧ c = 46 ∧ wgtB c = true) ∨ (digB c = false ∧ letB c = false ∧ c = 45 ∧ wgtB c = true) ∨ (digB c = false ∧ letB c = false ∧ c ≠ 46 ∧ c ≠ 45 ∧ wgtB c = false) := by
  unfold wgtB
  cases h1 : digB c
  · cases h2 : letB c
    · by_cases h3 : c = 46
      · subst h3
        simp
      · by_cases h4 : c = 45
        · subst h4
          simp
        · simp [h3, h4]
    · simp
  · simp
set_option maxRecDepth 100000 in
set_option maxHeartbeats 4000000 in
theorem rword_weight (s : ByteArray) (hs : s.size ≤ maxLen) (a : Nat) (ha : a < s.size) (hc : s[a] = 37) (w : World) : Calls Tryz.prog 29 #[.string s, .int .i64 a] w fun e w' => e = .returned (rwordV a (wordAt (s.data.toList.drop a))) ∧ Below w.heap.size w w' := by
  have hlt := rletter_n 37 (by decide)
  rw [show letN 37 = false from by decide] at hlt
  have k37 : s[a].toNat = 37 := by rw [hc]; rfl
  have hl : s.data.toList.length = s.size := by simp
  have hst := Runs.start wgtB s.data.toList (a + 1) (by omega)
  have HST := Lib.hid hst
  have HW : Hid (∀ n, runP wgtB (s.data.toList.drop (a + 1)) = n → wordAt (s.data.toList.drop a) = if readOk ((s.data.toList.drop (a + 1)).take n) = true then .ok (3, (s.data.toList.drop (a + 1)).take n, readF ((s.data.toList.drop (a + 1)).take n), n) else .error 4) := Lib.hid (fun n hn => by
    rw [bytes_drop s a ha, hc, word_37, hn])
  have HX : Hid (∀ k, s.extract (a + 1) k = S ((s.data.toList.drop (a + 1)).take (k - (a + 1)))) := Lib.hid (fun k => ext_S s (a + 1) k)
  have HXL : Hid (∀ k, (s.extract (a + 1) k).data.toList = (s.data.toList.drop (a + 1)).take (k - (a + 1))) := Lib.hid (fun k => ext_list s (a + 1) k)
  have HRD : Hid (∀ k w, Calls Tryz.prog 24 #[.string (s.extract (a + 1) k)] w fun e w' => e = .returned (.tuple #[.float .f64 (readF (s.extract (a + 1) k).data.toList), .bool (readOk (s.extract (a + 1) k).data.toList)]) ∧ Qt w w') := Lib.hid (fun k w => rread_any _ (by simp [ByteArray.size_extract]; omega) w)
  have HLT := Lib.hid hlt
  unfold maxLen at hs
  clear hl hst hc hlt
  go_enter Tryz.func29, Tryz.ntmps29
  go_wp2_with (go_at_call 47; refine (HLT.out _).mono ?_; rintro e w1 ⟨rfl, rfl⟩)
  go_loop [8] (fun i => ∃ k : Nat, i = .int .i64 k ∧ Runs wgtB s.data.toList (a + 1) k) (fun i => s.size - (intOf i).toNat)
  case atStart => exact ⟨a + 1, by go_num, HST.out⟩
  case round =>
    obtain ⟨k, rfl, hr⟩ := hrel
    have hk1 : a + 1 ≤ k := hr.1
    have hk2 : k ≤ s.size := by have := hr.2.1; simpa using this
    have HR := Lib.hid hr
    clear hr k37
    have hend : ∀ n, k = a + 1 + n → runP wgtB (s.data.toList.drop (a + 1)) = n → rwordV a (wordAt (s.data.toList.drop a)) = if readOk (s.extract (a + 1) k).data.toList = true then .tuple #[.agg #[.int .i64 3, .int .i64 a, .string (s.extract (a + 1) k), .float .f64 (readF (s.extract (a + 1) k).data.toList)], .int .i64 k, .int .i64 0] else .tuple #[.agg #[.int .i64 0, .int .i64 0, .string ⟨#[]⟩, .float .f64 0], .int .i64 a, .int .i64 4] := fun n e hn => by
      subst e
      rw [HW.out n hn, HXL.out, HX.out, show a + 1 + n - (a + 1) = n from by omega]
      split
      · unfold rwordV TV
        simp only
        rw [show a + n + 1 = a + 1 + n from by omega]
        rfl
      · exact rerr a 4
    have HE := Lib.hid hend
    clear hend
    by_cases hlk : k < s.size
    · have hdg := rdigit_n s[k].toNat (b_lt _)
      have hle := rletter_n s[k].toNat (b_lt _)
      rw [← dig_n] at hdg
      rw [← let_n] at hle
      rcases wgt_ways s[k] with ⟨h1, hb⟩ | ⟨h1, h2, hb⟩ | ⟨h1, h2, h3, hb⟩ | ⟨h1, h2, h3, hb⟩ | ⟨h1, h2, h3, h4, hb⟩
      · rw [h1] at hdg
        have HR2 := Lib.hid (HR.out.on hlk hb)
        clear h1 hb hle
        go_wp2_with (go_at_call 50; refine (hdg _).mono ?_; rintro e w1 ⟨rfl, rfl⟩)
        go_round
        case rel => exact ⟨k + 1, by go_num, HR2.out⟩
        case measure => simp [intOf]; omega
      · rw [h1] at hdg
        rw [h2] at hle
        have HR2 := Lib.hid (HR.out.on hlk hb)
        clear h1 h2 hb
        go_wp2_with (first | (go_at_call 50; refine (hdg _).mono ?_; rintro e w1 ⟨rfl, rfl⟩) | (go_at_call 47; refine (hle _).mono ?_; rintro e w1 ⟨rfl, rfl⟩))
        go_round
        case rel => exact ⟨k + 1, by go_num, HR2.out⟩
        case measure => simp [intOf]; omega
      · rw [h1] at hdg
        rw [h2] at hle
        have m1 : ((s[k].toNat : Int) == 46) = true := by rw [h3]; rfl
        have HR2 := Lib.hid (HR.out.on hlk hb)
        clear h1 h2 h3 hb
        go_wp2_with (first | (go_at_call 50; refine (hdg _).mono ?_; rintro e w1 ⟨rfl, rfl⟩) | (go_at_call 47; refine (hle _).mono ?_; rintro e w1 ⟨rfl, rfl⟩))
        go_round
        case rel => exact ⟨k + 1, by go_num, HR2.out⟩
        case measure => simp [intOf]; omega
      · rw [h1] at hdg
        rw [h2] at hle
        have m1 : ((s[k].toNat : Int) == 46) = false := by rw [h3]; decide
        have m2 : ((s[k].toNat : Int) == 45) = true := by rw [h3]; rfl
        have HR2 := Lib.hid (HR.out.on hlk hb)
        clear h1 h2 h3 hb
        go_wp2_with (first | (go_at_call 50; refine (hdg _).mono ?_; rintro e w1 ⟨rfl, rfl⟩) | (go_at_call 47; refine (hle _).mono ?_; rintro e w1 ⟨rfl, rfl⟩))
        go_round
        case rel => exact ⟨k + 1, by go_num, HR2.out⟩
        case measure => simp [intOf]; omega
      · rw [h1] at hdg
        rw [h2] at hle
        have m1 : ((s[k].toNat : Int) == 46) = false := by
          rw [beq_eq_false_iff_ne]
          intro e
          exact h3 (UInt8.toNat_inj.1 (by rw [show s[k].toNat = 46 from by omega]; rfl))
        have m2 : ((s[k].toNat : Int) == 45) = false := by
          rw [beq_eq_false_iff_ne]
          intro e
          exact h4 (UInt8.toNat_inj.1 (by rw [show s[k].toNat = 45 from by omega]; rfl))
        have hn := HR.out.off hlk hb
        have he := HE.out (k - (a + 1)) (by omega) hn
        have hrd := HRD.out k
        clear h1 h2 h3 h4 hb hn
        generalize readF (s.extract (a + 1) k).data.toList = f at *
        cases hok : readOk (s.extract (a + 1) k).data.toList
        · rw [hok] at hrd he
          have HV := Lib.hid he
          clear he hok
          go_wp2_with (first | (go_at_call 50; refine (hdg _).mono ?_; rintro e w1 ⟨rfl, rfl⟩) | (go_at_call 47; refine (hle _).mono ?_; rintro e w1 ⟨rfl, rfl⟩) | (go_at_call 24; refine (hrd _).mono ?_; rintro e w1 ⟨rfl, nq, rfl⟩))
          refine bodyPost_ret (v := .tuple #[.agg #[.int .i64 0, .int .i64 0, .string ⟨#[]⟩, .float .f64 0], .int .i64 a, .int .i64 4]) (by simp [results, Tryz.results29, go_sem]) rfl ⟨by rw [HV.out]; rfl, ?_⟩
          go_grown
          exact below_alloc_draw _ _ _
        · rw [hok] at hrd he
          have HV := Lib.hid he
          clear he hok
          go_wp2_with (first | (go_at_call 50; refine (hdg _).mono ?_; rintro e w1 ⟨rfl, rfl⟩) | (go_at_call 47; refine (hle _).mono ?_; rintro e w1 ⟨rfl, rfl⟩) | (go_at_call 24; refine (hrd _).mono ?_; rintro e w1 ⟨rfl, nq, rfl⟩))
          refine bodyPost_ret (v := .tuple #[.agg #[.int .i64 3, .int .i64 a, .string (s.extract (a + 1) k), .float .f64 f], .int .i64 k, .int .i64 0]) (by simp [results, Tryz.results29, go_sem]) rfl ⟨by rw [HV.out]; rfl, ?_⟩
          go_grown
          exact below_alloc_draw _ _ _
    · obtain rfl : k = s.size := by omega
      have hn := HR.out.fin
      have he := HE.out (s.size - (a + 1)) (by omega) hn
      have hrd := HRD.out s.size
      clear hn
      generalize readF (s.extract (a + 1) s.size).data.toList = f at *
      cases hok : readOk (s.extract (a + 1) s.size).data.toList
      · rw [hok] at hrd he
        have HV := Lib.hid he
        clear he hok
        go_wp2_with (go_at_call 24; refine (hrd _).mono ?_; rintro e w1 ⟨rfl, nq, rfl⟩)
        refine bodyPost_ret (v := .tuple #[.agg #[.int .i64 0, .int .i64 0, .string ⟨#[]⟩, .float .f64 0], .int .i64 a, .int .i64 4]) (by simp [results, Tryz.results29, go_sem]) rfl ⟨by rw [HV.out]; rfl, ?_⟩
        go_grown
        exact below_alloc_draw _ _ _
      · rw [hok] at hrd he
        have HV := Lib.hid he
        clear he hok
        go_wp2_with (go_at_call 24; refine (hrd _).mono ?_; rintro e w1 ⟨rfl, nq, rfl⟩)
        refine bodyPost_ret (v := .tuple #[.agg #[.int .i64 3, .int .i64 a, .string (s.extract (a + 1) s.size), .float .f64 f], .int .i64 s.size, .int .i64 0]) (by simp [results, Tryz.results29, go_sem]) rfl ⟨by rw [HV.out]; rfl, ?_⟩
        go_grown
        exact below_alloc_draw _ _ _
theorem rword_any (s : ByteArray) (hs : s.size ≤ maxLen) (a : Nat) (ha : a < s.size) (w : World) : Calls Tryz.prog 29 #[.string s, .int .i64 a] w fun e w' => e = .returned (rwordV a (wordAt (s.data.toList.drop a))) ∧ Below w.heap.size w w' := by
  cases h1 : letB s[a]
  · by_cases h2 : s[a] = 39
    · exact rword_quote s hs a ha h2 w
    · by_cases h3 : s[a] = 37
      · exact rword_weight s hs a ha h3 w
      · exact rword_sign s hs a ha h1 h2 h3 w
  · exact rword_name s hs a ha h1 w
end Go.Proofs.YtdddbkghleblhaaGreatDoor.lx
namespace Go.Proofs.YtdddbkghleblhaaGreatDoor.lx
open Go.ChangeShapes Go.WideShapes Go.ChangeAt Go.RowKit
set_option linter.unusedVariables false
attribute [local go_sem] run_store_float
theorem info_rtok : (Tryz.prog.info? 61).map (fun i => (i.zero, i.size, i.bytes)) = some (some (.agg tok0), 4, 40) := by kernel_rfl
/-- the answer of the document's All -/
def RAllV (B : Nat) (s : List UInt8) (e : Ending) (w : World) : Prop := ∃ v, e = .returned (.tuple #[v, .int .i64 (lexAll s).2.1, .int .i64 (lexAll s).2.2]) ∧ w.ownsRow B 61 4 v (lexAll s).1.length (tcells (lexAll s).1)
set_option maxRecDepth 100000 in
set_option maxHeartbeats 2000000 in
theorem rall_any (s : ByteArray) (hs : s.size ≤ maxLen) (w : World) : Calls Tryz.prog 16 #[.string s] w fun e w' => RAllV w.heap.size s.data.toList e w' ∧ Below w.heap.size w w' := by
  have hsl : s.data.toList.length = s.size := by simp
  have HM := Lib.hid hs
  unfold maxLen at hs
  by_cases hbig : 65536 < s.size
  · have e : ∀ w', RAllV w.heap.size s.data.toList (.returned (.tuple #[.slice none 0 0, .int .i64 1, .int .i64 0])) w' := fun w' => by
      have : lexAll s.data.toList = ([], 1, 0) := by
        unfold lexAll
        rw [if_pos (by omega)]
      unfold RAllV
      rw [this]
      exact ⟨_, rfl, World.ownsRow_nil _ _ _ _⟩
    have HE := Lib.hid e
    clear e hsl
    go_enter Tryz.func16, Tryz.ntmps16
    go_wp2_with fail
    refine bodyPost_ret (v := .tuple #[.slice none 0 0, .int .i64 1, .int .i64 0]) (by simp [results, Tryz.results16, go_sem]) rfl ⟨HE.out _, ?_⟩
    go_grown
  · obtain ⟨i1, ki, kz0, kz1, kz2⟩ := info_parts info_rtok
    have hsk := fun w => rskip_any s HM.out 0 (Nat.zero_le _) w
    have HL := Lib.hid hsl
    have HK := Lib.hid hsk
    clear hsl hsk
    have hst := LexRel.start s.data.toList
    generalize nxt s.data.toList 0 = k0 at *
    have HST := Lib.hid hst
    have HK0 : Hid (k0 ≤ s.size) := Lib.hid (by have := hst.2.2; rw [HL.out] at this; exact this)
    clear hst
    go_enter Tryz.func16, Tryz.ntmps16
    go_wp2_with (go_at_call 28; refine (HK.out _).mono ?_; rintro e w1 ⟨rfl, rfl⟩)
    go_loopw [5, 6] (fun v i wr => ∃ (k : Nat) (ts : List Tok), i = .int .i64 k ∧ k ≤ s.size ∧ wr.ownsRow w.heap.size 61 4 v ts.length (tcells ts) ∧ LexRel s.data.toList k ts ∧ Below w.heap.size w wr) (fun _ i _ => s.size - (intOf i).toNat)
    case atStart => exact ⟨k0, [], rfl, HK0.out, World.ownsRow_lit w #[] 0 (Nat.le_refl _) (by decide) rfl, HST.out, (Below.refl _ _).alloc (Nat.le_refl _) _⟩
    case round =>
      obtain ⟨k, ts, rfl, hk, hown, hrel, hbr⟩ := hrel
      have hzr := hbr.size
      have HO := Lib.hid hown
      have HR := Lib.hid hrel
      have HB := Lib.hid hbr
      have htl := hrel.2.1
      clear hown hrel hbr
      by_cases hlt : k < s.size
      · have hnx := rword_any s HM.out k hlt wr
        cases hwd : wordAt (s.data.toList.drop k) with
        | error e =>
          rw [hwd] at hnx
          have HE : Hid (lexAll s.data.toList = ([], e, k)) := Lib.hid (HR.out.err (by rw [HL.out]; exact hlt) hwd (by rw [HL.out]; omega))
          have he := word_e hwd
          have m1 : ((e : Int) != 0) = true := by rw [bne_iff_ne]; omega
          clear hwd he
          have hnx : Calls Tryz.prog 29 #[.string s, .int .i64 k] wr fun e_1 w' => e_1 = .returned (.tuple #[.agg #[.int .i64 0, .int .i64 0, .string ⟨#[]⟩, .float .f64 0], .int .i64 k, .int .i64 e]) ∧ Below wr.heap.size wr w' := hnx
          go_wp2_with (go_at_call 29; refine hnx.mono ?_; rintro e1 w2 ⟨rfl, hb2⟩)
          have hz2 := hb2.size
          refine bodyPost_ret (v := .tuple #[.slice none 0 0, .int .i64 e, .int .i64 k]) (by simp [results, Tryz.results16, go_sem]) rfl ⟨?_, ?_⟩
          · refine ⟨.slice none 0 0, ?_, ?_⟩
            · rw [HE.out]
            · rw [HE.out]
              exact World.ownsRow_nil _ _ _ _
          · have hq := (HB.out.trans (hb2.mono hzr)).alloc (o := .cells #[.int .i64 0, .int .i64 0, .string ⟨#[]⟩, .float .f64 0] 61) (by omega)
            first | exact hq | (go_grown; exact hq) | (go_grown; exact HB.out.trans (hb2.mono hzr))
        | ok x =>
          obtain ⟨kd, t, wt, n⟩ := x
          rw [hwd] at hnx
          obtain ⟨hr2, hn2⟩ := HR.out.step (by rw [HL.out]; exact hlt) hwd
          rw [HL.out] at hn2
          have HR2 := Lib.hid hr2
          have hsk := fun w => rskip_any s HM.out (k + n + 1) hn2 w
          have HK2 : Hid (nxt s.data.toList (k + n + 1) ≤ s.size ∧ k < nxt s.data.toList (k + n + 1)) := Lib.hid ⟨by have := nxt_le s.data.toList (k + n + 1) (by rw [HL.out]; omega); rw [HL.out] at this; exact this, by have := nxt_ge s.data.toList (k + n + 1); omega⟩
          generalize nxt s.data.toList (k + n + 1) = k2 at *
          have hnx : Calls Tryz.prog 29 #[.string s, .int .i64 k] wr fun e_1 w' => e_1 = .returned (.tuple #[.agg #[.int .i64 kd, .int .i64 k, .string (S t), .float .f64 wt], .int .i64 (k + n + 1 : Nat), .int .i64 0]) ∧ Below wr.heap.size wr w' := hnx
          have HSK := Lib.hid hsk
          clear hwd hr2 hsk
          go_wp2_with fail
          refine hnx.mono ?_
          rintro e1 w2 ⟨rfl, hb2⟩
          have HB2 := Lib.hid (HB.out.trans (hb2.mono hzr))
          have hz2 := hb2.size
          have HB2' := Lib.hid hb2
          clear hnx hb2
          have ho2 := own_below HO.out HB2'.out
          have HO2 := Lib.hid ho2
          have hz3 : w.heap.size ≤ w2.heap.size := by omega
          clear ho2
          go_wp2_with (at_builtin; refine wpList_append_own_at _ rfl (.tmp 31) (.tmp 33) 55 rfl w.heap.size 61 i1 (.agg tok0) 4 40 Tryz.underlying55 ki kz0 kz1 kz2 rfl (by decide) _ ts.length (tcells ts) rfl ((HO2.out.alloc _).alloc _) ⟨w2.heap.size + 1, 0, none⟩ 1 1 (tokC ⟨kd, k, t, wt⟩) rfl rfl (tok_new2 _ _ _ _) (tok_one _) (by unfold maxLen; omega) (by omega) (by simp; omega) ?_; intro v3 w3 hown3 hg3 _ _)
          have HO3 := Lib.hid hown3
          have HB3 := Lib.hid (((HB2.out.alloc hz3 (.cells #[.int .i64 kd, .int .i64 k, .string (S t), .float .f64 wt] 61)).alloc (by simp; omega) (.cells (tokC ⟨kd, k, t, wt⟩).toArray 61)).grown hg3 (by simp; omega) (own_row HO2.out))
          clear hown3 hg3
          refine (HSK.out w3).mono ?_
          rintro e1 w4 ⟨rfl, rfl⟩
          go_wp2_with fail
          refine ⟨⟨k2, ts ++ [⟨kd, k, t, wt⟩], rfl, HK2.out.1, ?_, HR2.out, HB3.out⟩, by simp only [intOf]; have := HK2.out.2; omega⟩
          rw [tcells_snoc, List.length_append]
          exact HO3.out
      · obtain rfl : k = s.size := by omega
        have hdn := HR.out
        rw [← HL.out] at hdn
        have HE : Hid (lexAll s.data.toList = (ts ++ [⟨0, s.size, [], 0⟩], 0, 0)) := Lib.hid (by rw [hdn.done (by rw [HL.out]; omega), HL.out])
        clear hdn
        go_wp2_with (at_builtin; refine wpList_append_own_at _ rfl (.tmp 38) (.tmp 41) 55 rfl w.heap.size 61 i1 (.agg tok0) 4 40 Tryz.underlying55 ki kz0 kz1 kz2 rfl (by decide) _ ts.length (tcells ts) rfl (HO.out.alloc _) ⟨wr.heap.size, 0, none⟩ 1 1 (tokC ⟨0, s.size, [], 0⟩) rfl rfl (tok_new _ _ _) (tok_one _) (by unfold maxLen; omega) (by omega) (by simp; omega) ?_; intro v3 w3 hown3 hg3 _ _)
        have HB3 := (HB.out.alloc hzr (.cells (tokC ⟨0, s.size, [], 0⟩).toArray 61)).grown hg3 (by simp; omega) (own_row HO.out)
        refine bodyPost_ret (v := .tuple #[v3, .int .i64 0, .int .i64 0]) (by simp [results, Tryz.results16, go_sem]) rfl ⟨?_, HB3⟩
        refine ⟨v3, ?_, ?_⟩
        · rw [HE.out]
          rfl
        · rw [HE.out, tcells_snoc, List.length_append]
          exact hown3
end Go.Proofs.YtdddbkghleblhaaGreatDoor.lx
