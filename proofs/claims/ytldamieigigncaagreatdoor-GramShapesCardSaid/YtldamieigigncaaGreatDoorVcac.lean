import Derived.Test.YtldamieigigncaaGreatDoorVcab
import Derived.Laws.Runes
import Derived.Lib.Bytealg
namespace Go.Proofs.YtldamieigigncaaGreatDoor.lx
open Go.ChangeShapes Go.WideShapes Go.ChangeAt Go.RowKit
set_option linter.unusedVariables false
theorem x_frombits (n : Int) (w : World) : (callFunc 34 #[.int .u64 n]).run Tryz.prog w = .ok (.value (.float .f64 n.toNat)) w :=
  run_callFunc_extern (e := Extern.MathFloatBits.float64frombits) Tryz.func34 (by kernel_rfl) (by kernel_rfl) (by kernel_rfl) (by kernel_rfl) _ w
theorem x_bits (n : Nat) (w : World) : (callFunc 36 #[.float .f64 n]).run Tryz.prog w = .ok (.value (.int .u64 n)) w :=
  run_callFunc_extern (e := Extern.MathFloatBits.float64bits) Tryz.func36 (by kernel_rfl) (by kernel_rfl) (by kernel_rfl) (by kernel_rfl) _ w
theorem x_sfrombits (n : Int) (w : World) : (callFunc 250 #[.int .u64 n]).run Tryz.prog w = .ok (.value (.float .f64 n.toNat)) w :=
  run_callFunc_extern (e := Extern.MathFloatBits.float64frombits) Tryz.func250 (by kernel_rfl) (by kernel_rfl) (by kernel_rfl) (by kernel_rfl) _ w
theorem x_index (s : ByteArray) (c : Int) (w : World) : (callFunc 193 #[.string s, .int .u8 c]).run Tryz.prog w = .ok (.value (.int .i64 (firstIdx s c.toNat.toUInt8))) w := by
  rw [run_callFunc_extern (e := Extern.BytealgIndexByte.indexByte) Tryz.func193 (by kernel_rfl) (by kernel_rfl) (by kernel_rfl) (by kernel_rfl) _ w, run_indexByte_string]
  rfl
theorem fo_nat (V : Nat) : floatOfInt .f64 (V : Int) = Ieee.double.nearest false V 0 := by
  show Ieee.double.nearest (decide ((V : Int) < 0)) (V : Int).natAbs 0 = _
  rw [show decide ((V : Int) < 0) = false from decide_eq_false (by omega), Int.natAbs_natCast]
theorem xor_top (x : Nat) (h : x < 9223372036854775808) : x ^^^ 9223372036854775808 = 9223372036854775808 + x := by
  have p63 : (2 : Nat) ^ 63 = 9223372036854775808 := by decide +kernel
  rw [← p63] at h ⊢
  have e := Nat.two_pow_add_eq_or_of_lt (i := 63) h 1
  rw [Nat.mul_one] at e
  rw [e]
  refine Nat.eq_of_testBit_eq fun i => ?_
  rw [Nat.testBit_xor, Nat.testBit_or, Nat.testBit_two_pow]
  by_cases hi : 63 = i
  · subst hi
    rw [Nat.testBit_lt_two_pow h]
    simp
  · simp [hi]
theorem neg_near (V : Nat) (E : Int) : Go.Op.negFloat .f64 (Ieee.double.nearest false V E) = Ieee.double.nearest true V E := by
  rw [flo.neg_bits]
  have p63 : (2 : Nat) ^ 63 = 9223372036854775808 := by decide +kernel
  show Ieee.double.nearest false V E ^^^ 2 ^ 63 = _
  rw [p63, xor_top _ (flo.bits_lt V E)]
theorem run_neg (V : Nat) (E : Int) (w : World) : (Go.Op.unary .neg (.float .f64 (Ieee.double.nearest false V E))).run Tryz.prog w = .ok (.float .f64 (Ieee.double.nearest true V E)) w := by
  rw [← neg_near]
  rfl
structure Vs (w : World) (b off : Nat) : Prop where
  h5 : w.cell? ⟨1, 0, none⟩ = some (.bool true)
  h6 : w.cell? ⟨9, 0, none⟩ = some (.int .u64 52)
  h9 : w.cell? ⟨12, 0, none⟩ = some (.slice (some ⟨b, off, none⟩) 23 23)
  hp : ∀ k, k ≤ 6 → w.cell? ⟨b, off + k, none⟩ = some (.float .f64 (Ieee.double.nearest false (10 ^ k) 0))
theorem lt_size {w : World} {b o : Nat} {v : Value} (h : w.cell? ⟨b, o, none⟩ = some v) : b < w.heap.size := by
  rcases Nat.lt_or_ge b w.heap.size with hlt | hge
  · exact hlt
  · rw [World.cell?] at h; simp [Array.getElem?_eq_none hge] at h
theorem Vs.below {w w' : World} {b off : Nat} (h : Vs w b off) (hb : Below w.heap.size w w') : Vs w' b off :=
  ⟨(hb.cell (p := ⟨1, 0, none⟩) (lt_size h.h5)).trans h.h5, (hb.cell (p := ⟨9, 0, none⟩) (lt_size h.h6)).trans h.h6, (hb.cell (p := ⟨12, 0, none⟩) (lt_size h.h9)).trans h.h9, fun k hk => (hb.cell (p := ⟨b, off + k, none⟩) (lt_size (h.hp k hk))).trans (h.hp k hk)⟩
set_option maxRecDepth 100000 in
set_option maxHeartbeats 1000000 in
theorem exact_whole (neg : Bool) (V : Nat) (hV : V < 1000000000000000) (w : World) (b off : Nat) (h : Vs w b off) : Calls Tryz.prog 251 #[.int .u64 V, .int .i64 0, .bool neg] w fun e w' => e = .returned (.tuple #[.float .f64 (Ieee.double.nearest neg V 0), .bool true]) ∧ w = w' := by
  have h6 := h.h6
  have hfo := fo_nat V
  clear h
  have hng := run_neg V 0
  cases neg
  all_goals
    go_enter Tryz.func251, Tryz.ntmps251
    go_wp2_with fail
    go_ret2
    exact ⟨rfl, rfl⟩
set_option maxRecDepth 100000 in
set_option maxHeartbeats 1000000 in
theorem exact_part (neg : Bool) (V k : Nat) (hV : V < 1000000000000000) (hk : 1 ≤ k ∧ k ≤ 6) (w : World) (b off : Nat) (h : Vs w b off) : Calls Tryz.prog 251 #[.int .u64 V, .int .i64 (-(k : Int)), .bool neg] w fun e w' => e = .returned (.tuple #[.float .f64 (flo.wt neg V k), .bool true]) ∧ w = w' := by
  have h6 := h.h6
  have h9 := h.h9
  have hp := h.hp k hk.2
  have hfo := fo_nat V
  have hng := run_neg V 0
  have hq := fun w => run_float_arith (P := Tryz.prog) w .quo 36 .f64 (Ieee.double.nearest neg V 0) (Ieee.double.nearest false (10 ^ k) 0) (flo.wt neg V k) (flo.wt_div neg V k (by omega) hk.2)
  clear h
  generalize flo.wt neg V k = r at *
  generalize Ieee.double.nearest false (10 ^ k) 0 = t at *
  have hk2 : k = 1 ∨ k = 2 ∨ k = 3 ∨ k = 4 ∨ k = 5 ∨ k = 6 := by omega
  cases neg <;> rcases hk2 with rfl | rfl | rfl | rfl | rfl | rfl
  all_goals
    clear hk
    go_enter Tryz.func251, Tryz.ntmps251
    go_wp2_with fail
    go_ret2
    exact ⟨rfl, rfl⟩
end Go.Proofs.YtldamieigigncaaGreatDoor.lx

namespace Go.Proofs.YtldamieigigncaaGreatDoor.lx
open Go.ChangeShapes Go.WideShapes Go.ChangeAt Go.RowKit
set_option linter.unusedVariables false
theorem get_lit (l : List UInt8) (i : Nat) (h : i < (ByteArray.mk l.toArray).size) : (ByteArray.mk l.toArray)[i]'h = l[i]'(by simpa [ByteArray.size] using h) := rfl
attribute [local go_sem] get_lit
set_option maxRecDepth 100000 in
set_option maxHeartbeats 1000000 in
theorem common0 (t : ByteArray) (h0 : 0 < t.size) (hm : t.size ≤ maxLen) (h1 : 48 ≤ (t[0]'h0).toNat) (h2 : (t[0]'h0).toNat ≤ 57) (w : World) : Calls Tryz.prog 256 #[.string t, .string ⟨#[105, 110, 102, 105, 110, 105, 116, 121]⟩] w fun e w' => e = .returned (.int .i64 0) ∧ w = w' := by
  unfold maxLen at hm
  have k1 : ((t[0].toNat : Int) != 105) = true := by rw [bne_iff_ne]; omega
  by_cases h8 : t.size < 8
  all_goals
    go_enter Tryz.func256, Tryz.ntmps256
    go_wp2
    go_rounds 1
    go_ret
    exact ⟨rfl, rfl⟩
theorem ext_at (s : ByteArray) (h : 1 < s.size) : ∃ h0 : 0 < (s.extract 1 s.size).size, ((s.extract 1 s.size)[0]'h0).toNat = bt s 1 := by
  have h0 : 0 < (s.extract 1 s.size).size := by simp [ByteArray.size_extract]; omega
  refine ⟨h0, ?_⟩
  rw [← bt_at s 1 h]
  congr 1
  simp [ByteArray.getElem_extract]
set_option maxRecDepth 100000 in
set_option maxHeartbeats 1000000 in
theorem special_pos (s : ByteArray) (d : Nat) (h : Decs s 0 d) (w : World) : Calls Tryz.prog 241 #[.string s] w fun e w' => e = .returned (.tuple #[.float .f64 0, .int .i64 0, .bool false]) ∧ w = w' := by
  have h0 : 0 < s.size := by have := h.lt; have := h.le; omega
  have dg := h.dig 0 (by omega) h0 (by have := h.lt; omega)
  rw [← bt_at s 0 h0] at dg
  have hs := h.few
  have kz : ((s.size : Int) == 0) = false := by rw [beq_eq_false_iff_ne]; omega
  have k1 : ((s[0].toNat : Int) == 43) = false := by rw [beq_eq_false_iff_ne]; omega
  have k2 : ((s[0].toNat : Int) == 45) = false := by rw [beq_eq_false_iff_ne]; omega
  have k3 : ((s[0].toNat : Int) == 105) = false := by rw [beq_eq_false_iff_ne]; omega
  have k4 : ((s[0].toNat : Int) == 73) = false := by rw [beq_eq_false_iff_ne]; omega
  have k5 : ((s[0].toNat : Int) == 110) = false := by rw [beq_eq_false_iff_ne]; omega
  have k6 : ((s[0].toNat : Int) == 78) = false := by rw [beq_eq_false_iff_ne]; omega
  clear h dg
  go_enter Tryz.func241, Tryz.ntmps241
  go_wp2_with fail
  go_ret3
  exact ⟨rfl, rfl⟩
set_option maxRecDepth 100000 in
set_option maxHeartbeats 1000000 in
theorem special_neg (s : ByteArray) (d : Nat) (h : Decs s 1 d) (h45 : bt s 0 = 45) (w : World) : Calls Tryz.prog 241 #[.string s] w fun e w' => e = .returned (.tuple #[.float .f64 0, .int .i64 0, .bool false]) ∧ w = w' := by
  have h0 : 1 < s.size := by have := h.lt; have := h.le; omega
  have dg := h.dig 1 (by omega) h0 (by have := h.lt; omega)
  have e0 := bt_at s 0 (by omega)
  have hc : Calls Tryz.prog 256 #[.string (s.extract 1 s.size), .string ⟨#[105, 110, 102, 105, 110, 105, 116, 121]⟩] w fun e w' => e = .returned (.int .i64 0) ∧ w = w' := by
    obtain ⟨h1, e1⟩ := ext_at s h0
    exact common0 (s.extract 1 s.size) h1 (by unfold maxLen; simp [ByteArray.size_extract]; have := h.few; omega) (by omega) (by omega) w
  have hs := h.few
  have kz : ((s.size : Int) == 0) = false := by rw [beq_eq_false_iff_ne]; omega
  have k1 : ((s[0].toNat : Int) == 43) = false := by rw [beq_eq_false_iff_ne, e0]; omega
  have k2 : ((s[0].toNat : Int) == 45) = true := by rw [e0, h45]; rfl
  clear h dg e0 h45
  go_enter Tryz.func241, Tryz.ntmps241
  go_wp2_with (go_at_call 256; refine hc.mono ?_; rintro e w1 ⟨rfl, rfl⟩)
  go_ret3
  exact ⟨rfl, rfl⟩
end Go.Proofs.YtldamieigigncaaGreatDoor.lx

namespace Go.Proofs.YtldamieigigncaaGreatDoor.lx
open Go.ChangeShapes Go.WideShapes Go.ChangeAt Go.RowKit
set_option linter.unusedVariables false
attribute [local go_sem] get_lit x_index
theorem ext_list (s : ByteArray) (i j : Nat) : (s.extract i j).data.toList = (s.data.toList.drop i).take (j - i) := by
  simp [ByteArray.data_extract, List.extract_eq_take_drop]
theorem list_data (s : ByteArray) : s.data.toList = s.toList := (ByteArray.toList_eq s).symm
theorem all_take_succ (p : UInt8 → Bool) (s : ByteArray) (k : Nat) (h : k < s.size) : (s.data.toList.take (k + 1)).all p = ((s.data.toList.take k).all p && p s[k]) := by
  rw [List.take_succ_eq_append_getElem (by simpa using h), List.all_append]
  simp
  rfl
set_option maxRecDepth 100000 in
set_option maxHeartbeats 1000000 in
theorem isdigits_any (s : ByteArray) (hs : s.size ≤ maxLen) (most : Nat) (hm : most ≤ 100) (w : World) : Calls Tryz.prog 176 #[.string s, .int .i64 most] w fun e w' => e = .returned (.bool (digsB s.data.toList most)) ∧ w = w' := by
  unfold maxLen at hs
  have hl : s.data.toList.length = s.size := by simp
  by_cases h1 : s.size < 1
  · have e : digsB s.data.toList most = false := by
      unfold digsB
      rw [hl, decide_eq_false (by omega)]
      simp
    rw [e]
    clear e hl
    go_enter Tryz.func176, Tryz.ntmps176
    go_wp2_with fail
    go_ret
    exact ⟨rfl, rfl⟩
  · by_cases h2 : s.size > most
    · have e : digsB s.data.toList most = false := by
        unfold digsB
        rw [hl, decide_eq_false (show ¬ s.size ≤ most by omega)]
        simp
      rw [e]
      clear e hl
      go_enter Tryz.func176, Tryz.ntmps176
      go_wp2_with fail
      go_ret
      exact ⟨rfl, rfl⟩
    · have e : digsB s.data.toList most = s.data.toList.all digB := by
        unfold digsB
        rw [hl, decide_eq_true (show 1 ≤ s.size by omega), decide_eq_true (show s.size ≤ most by omega)]
        simp
      rw [e]
      have HL := Lib.hid hl
      clear e hl
      obtain ⟨z, hz⟩ : ∃ z, s.data.toList.all digB = z := ⟨_, rfl⟩
      rw [hz]
      have HZ := Lib.hid hz
      clear hz
      go_enter Tryz.func176, Tryz.ntmps176
      go_wp2_with fail
      go_loop [5] (fun i => ∃ k : Nat, k ≤ s.size ∧ i = .int .i64 k ∧ (s.data.toList.take k).all digB = true) (fun i => s.size - (intOf i).toNat)
      case atStart => exact ⟨0, Nat.zero_le _, rfl, by simp⟩
      case round =>
        obtain ⟨k, hk, rfl, hall⟩ := hrel
        have HA := Lib.hid hall
        clear hall
        by_cases hlt : k < s.size
        · have HT := Lib.hid (all_take_succ digB s k hlt)
          have HD := Lib.hid (dig_n s[k])
          have hno : s[k].toNat < 48 ∨ 57 < s[k].toNat → z = false := fun h => by
            rw [← HZ.out]
            have hd : digB s[k] = false := by
              rw [HD.out]
              unfold digN
              rw [decide_eq_false_iff_not]
              omega
            rw [Bool.eq_false_iff]
            intro ha
            have := List.all_eq_true.1 ha s[k] (by simp [ByteArray.getElem_eq_getElem_data])
            rw [hd] at this
            cases this
          have HN := Lib.hid hno
          clear hno
          by_cases h3 : s[k].toNat < 48
          · go_wp2_with fail
            go_ret
            exact ⟨ret_bool (HN.out (.inl h3)).symm, rfl⟩
          · by_cases h4 : 57 < s[k].toNat
            · go_wp2_with fail
              go_ret
              exact ⟨ret_bool (HN.out (.inr h4)).symm, rfl⟩
            · go_wp2_with fail
              go_round
              case rel =>
                refine ⟨k + 1, hlt, by go_num, ?_⟩
                rw [HT.out, HA.out, HD.out]
                unfold digN
                rw [decide_eq_true (by omega)]
                rfl
              case measure => simp [intOf]; omega
        · obtain rfl : k = s.size := by omega
          go_wp2_with fail
          go_ret
          have := HA.out
          rw [List.take_of_length_le (by rw [HL.out]; omega)] at this
          exact ⟨ret_bool (by rw [← HZ.out, this]), rfl⟩
set_option maxRecDepth 100000 in
set_option maxHeartbeats 1000000 in
theorem index1 (s : ByteArray) (w : World) : Calls Tryz.prog 226 #[.string s, .string ⟨#[46]⟩] w fun e w' => e = .returned (.int .i64 (firstIdx s 46)) ∧ w = w' := by
  by_cases h : (⟨#[46]⟩ : ByteArray) = s
  · subst h
    have e : firstIdx ⟨#[46]⟩ 46 = 0 := by decide +kernel
    rw [e]
    go_enter Tryz.func226, Tryz.ntmps226
    go_wp2_with fail
    go_ret
    exact ⟨rfl, rfl⟩
  · have hb : ([46] == s.toList) = false := by
      rw [beq_eq_false_iff_ne]
      intro e
      exact h (ByteArray.ext (by rw [← Array.toList_inj]; rw [← list_data] at e; exact e))
    clear h
    go_enter Tryz.func226, Tryz.ntmps226
    go_wp2
    go_ret
    exact ⟨rfl, rfl⟩
theorem list_nil (s : ByteArray) (h : s.size < 1) : s.data.toList = [] := by
  rw [← List.length_eq_zero_iff]
  have : s.data.toList.length = s.size := by simp
  omega
def StrIs (l : List UInt8) (e : Ending) : Prop := ∃ t : ByteArray, e = .returned (.string t) ∧ t.data.toList = l
set_option maxRecDepth 100000 in
set_option maxHeartbeats 1000000 in
theorem trim_any (s : ByteArray) (hs : s.size ≤ maxLen) (w : World) : Calls Tryz.prog 175 #[.string s, .string ⟨#[45]⟩] w fun e w' => StrIs (strip s.data.toList) e ∧ w = w' := by
  unfold maxLen at hs
  by_cases h1 : s.size < 1
  · have e : StrIs (strip s.data.toList) (.returned (.string s)) := ⟨s, rfl, by
      rw [list_nil s h1]
      rfl⟩
    have HE := Lib.hid e
    clear e
    go_enter Tryz.func175, Tryz.ntmps175
    go_wp2
    go_ret
    exact ⟨HE.out, rfl⟩
  · have hd := bytes_drop s 0 (by omega)
    rw [List.drop_zero] at hd
    have h01 : (s.extract 0 1).toList = [s[0]] := by
      rw [← list_data, ext_list, hd]
      rfl
    by_cases h2 : s[0] = 45
    · have e : StrIs (strip s.data.toList) (.returned (.string (s.extract 1 s.size))) := ⟨_, rfl, by
        rw [ext_list, hd, h2]
        unfold strip
        have : (s.data.toList.drop (0 + 1)).length = s.size - 1 := by simp
        rw [if_pos (by rfl), List.drop_succ_cons, List.drop_zero, List.tail_cons]
        exact List.take_of_length_le (by omega)⟩
      have hb : ((s.extract 0 1).toList == [45]) = true := by rw [h01, h2]; rfl
      have HE := Lib.hid e
      clear e h01 h2 hd
      go_enter Tryz.func175, Tryz.ntmps175
      go_wp2
      go_ret
      exact ⟨HE.out, rfl⟩
    · have e : StrIs (strip s.data.toList) (.returned (.string s)) := ⟨s, rfl, by
        rw [hd]
        unfold strip
        simp [h2]⟩
      have hb : ((s.extract 0 1).toList == [45]) = false := by
        rw [h01, beq_eq_false_iff_ne]
        intro e
        exact h2 (by simpa using e)
      have HE := Lib.hid e
      clear e h01 h2 hd
      go_enter Tryz.func175, Tryz.ntmps175
      go_wp2
      go_ret
      exact ⟨HE.out, rfl⟩
def Qt (w w' : World) : Prop := ∃ n, w' = w.drewN n
theorem Qt.refl (w : World) : Qt w w := ⟨0, rfl⟩
theorem Qt.below {w w' : World} (h : Qt w w') {B : Nat} : Below B w w' := by
  obtain ⟨n, rfl⟩ := h
  exact ⟨rfl, rfl, rfl, Nat.le_refl _, fun _ _ => rfl⟩
def CutIs (l : List UInt8) (e : Ending) : Prop := ∃ a b : ByteArray, e = .returned (.tuple #[.string a, .string b, .bool (dotB l)]) ∧ a.data.toList = headD l ∧ b.data.toList = tailD l
theorem first_at : ∀ (l : List UInt8), (Lib.indexByte l 46 = -1 ∧ dotB l = false ∧ headD l = l ∧ tailD l = []) ∨ ∃ k : Nat, k < l.length ∧ Lib.indexByte l 46 = k ∧ dotB l = true ∧ headD l = l.take k ∧ tailD l = l.drop (k + 1)
  | [] => .inl ⟨rfl, rfl, rfl, rfl⟩
  | c :: l => by
    by_cases hc : c = 46
    · subst hc
      refine .inr ⟨0, by simp, by simp [Lib.indexByte], by simp [dotB], by simp [headD], by simp [tailD]⟩
    · have hc2 : (c != 46) = true := by simpa using hc
      have hc3 : (46 == c) = false := by simpa using fun e => hc e.symm
      rcases first_at l with ⟨h1, h2, h3, h4⟩ | ⟨k, hk, h1, h2, h3, h4⟩
      · refine .inl ⟨by simp [Lib.indexByte, hc, h1], ?_, ?_, ?_⟩
        · unfold dotB at h2 ⊢
          simp only [List.contains_cons, h2, hc3, Bool.or_false]
        · unfold headD at h3 ⊢
          rw [List.takeWhile_cons_of_pos (p := fun c => c != 46) hc2, h3]
        · unfold tailD at h4 ⊢
          rw [List.dropWhile_cons_of_pos (p := fun c => c != 46) hc2, h4]
      · refine .inr ⟨k + 1, by simp; omega, by simp [Lib.indexByte, hc, h1], ?_, ?_, ?_⟩
        · unfold dotB at h2 ⊢
          simp only [List.contains_cons, h2, Bool.or_true]
        · unfold headD at h3 ⊢
          rw [List.takeWhile_cons_of_pos (p := fun c => c != 46) hc2, h3]
          rfl
        · unfold tailD at h4 ⊢
          rw [List.dropWhile_cons_of_pos (p := fun c => c != 46) hc2, h4]
          rfl
set_option maxRecDepth 100000 in
set_option maxHeartbeats 1000000 in
theorem cut_any (s : ByteArray) (hs : s.size ≤ maxLen) (w : World) : Calls Tryz.prog 174 #[.string s, .string ⟨#[46]⟩] w fun e w' => CutIs s.data.toList e ∧ Qt w w' := by
  unfold maxLen at hs
  have hi := index1 s w
  rw [Lib.firstIdx_eq] at hi
  have hl : s.data.toList.length = s.size := by simp
  rcases first_at s.data.toList with ⟨h1, h2, h3, h4⟩ | ⟨k, hk, h1, h2, h3, h4⟩
  · have e : CutIs s.data.toList (.returned (.tuple #[.string s, .string ⟨#[]⟩, .bool false])) := ⟨s, ⟨#[]⟩, by rw [h2], h3.symm, h4.symm⟩
    rw [h1] at hi
    have HE := Lib.hid e
    clear e h1 h2 h3 h4 hl
    go_enter Tryz.func174, Tryz.ntmps174
    go_wp2_with (first | (go_at_call 226; refine hi.mono ?_; rintro e w1 ⟨rfl, rfl⟩) | (go_at_call 197; go_in))
    go_ret3
    exact ⟨HE.out, Qt.refl _⟩
  · have e : CutIs s.data.toList (.returned (.tuple #[.string (s.extract 0 k), .string (s.extract (k + 1) s.size), .bool true])) := ⟨_, _, by rw [h2], by
      rw [ext_list, h3, List.drop_zero, Nat.sub_zero], by
      rw [ext_list, h4, List.take_of_length_le (by rw [List.length_drop]; omega)]⟩
    rw [h1] at hi
    rw [hl] at hk
    have HE := Lib.hid e
    clear e h1 h2 h3 h4 hl
    go_enter Tryz.func174, Tryz.ntmps174
    go_wp2_with (first | (go_at_call 226; refine hi.mono ?_; rintro e w1 ⟨rfl, rfl⟩) | (go_at_call 197; go_in))
    have s1 : IntKind.i64.wrap ((k : Int) + 1) = (k : Int) + 1 := IntWalk.i64_in _ (by omega)
    have s2 : (0 : Int) ≤ (k : Int) + 1 := by omega
    have s3 : ((k : Int) + 1).toNat = k + 1 := by omega
    have s4 : (k : Int) + 1 ≤ s.size := by omega
    go_quiet (fail)
    clear s1 s2 s3 s4
    go_wp2
    go_ret3
    exact ⟨HE.out, _, rfl⟩
end Go.Proofs.YtldamieigigncaaGreatDoor.lx

namespace Go.Proofs.YtldamieigigncaaGreatDoor.lx
open Go.ChangeShapes Go.WideShapes Go.ChangeAt Go.RowKit
set_option linter.unusedVariables false
theorem val_snoc (l : List UInt8) (c : UInt8) : val (l ++ [c]) = 10 * val l + (c.toNat - 48) := by
  unfold val
  rw [List.foldl_append]
  rfl
theorem val_lt : ∀ (n : Nat) (l : List UInt8), l.length = n → (∀ c ∈ l, digB c = true) → val l < 10 ^ n
  | 0, l, h, _ => by
    rw [List.length_eq_zero_iff.1 h]
    simp [val]
  | n + 1, l, h, hd => by
    have hne : l ≠ [] := by rintro rfl; cases h
    have e := List.dropLast_concat_getLast hne
    have hl : l.dropLast.length = n := by rw [List.length_dropLast, h]; rfl
    have ih := val_lt n l.dropLast hl (fun c hc => hd c (List.dropLast_subset _ hc))
    have hg := hd _ (List.getLast_mem hne)
    rw [dig_n] at hg
    unfold digN at hg
    rw [decide_eq_true_iff] at hg
    rw [← e, val_snoc, Nat.pow_succ]
    omega
theorem cut_join : ∀ (l : List UInt8), l = headD l ++ (if dotB l = true then 46 :: tailD l else [])
  | [] => rfl
  | c :: l => by
    by_cases hc : c = 46
    · subst hc
      simp [headD, tailD, dotB]
    · have hc2 : (c != 46) = true := by simpa using hc
      have hc3 : (46 == c) = false := by simpa using fun e => hc e.symm
      have e1 : headD (c :: l) = c :: headD l := by
        unfold headD
        rw [List.takeWhile_cons_of_pos (p := fun c => c != 46) hc2]
      have e2 : tailD (c :: l) = tailD l := by
        unfold tailD
        rw [List.dropWhile_cons_of_pos (p := fun c => c != 46) hc2]
      have e3 : dotB (c :: l) = dotB l := by
        unfold dotB
        simp only [List.contains_cons, hc3, Bool.false_or]
      rw [e1, e2, e3, List.cons_append, ← cut_join l]
theorem tail_nil {l : List UInt8} (h : dotB l = false) : tailD l = [] := by
  rcases first_at l with ⟨_, _, _, h4⟩ | ⟨k, _, _, h2, _⟩
  · exact h4
  · rw [h] at h2; cases h2
theorem digs_of {l : List UInt8} {m : Nat} (h : digsB l m = true) : 1 ≤ l.length ∧ l.length ≤ m ∧ ∀ c ∈ l, digB c = true := by
  unfold digsB at h
  simp only [Bool.and_eq_true, decide_eq_true_iff] at h
  exact ⟨h.1.1, h.1.2, fun c hc => List.all_eq_true.1 h.2 c hc⟩
theorem dig_bt {c : UInt8} (h : digB c = true) : 48 ≤ c.toNat ∧ c.toNat ≤ 57 := by
  rw [dig_n] at h
  unfold digN at h
  rwa [decide_eq_true_iff] at h
theorem bt_list (s : ByteArray) (pre H R : List UInt8) (h : s.data.toList = pre ++ (H ++ R)) (i : Nat) : (i < H.length → bt s (pre.length + i) = (H.getD i 0).toNat) ∧ bt s (pre.length + H.length + i) = (R.getD i 0).toNat := by
  refine ⟨fun hi => ?_, ?_⟩
  · unfold bt
    rw [h, List.getD_eq_getElem?_getD, List.getD_eq_getElem?_getD, List.getElem?_append_right (by omega), show pre.length + i - pre.length = i from by omega, List.getElem?_append_left hi]
  · unfold bt
    rw [h, List.getD_eq_getElem?_getD, List.getD_eq_getElem?_getD, List.getElem?_append_right (by omega), show pre.length + H.length + i - pre.length = H.length + i from by omega, List.getElem?_append_right (by omega), show H.length + i - H.length = i from by omega]
theorem getD_mem {l : List UInt8} {i : Nat} (h : i < l.length) : l.getD i 0 ∈ l := by
  rw [List.getD_eq_getElem?_getD, List.getElem?_eq_getElem h]
  exact List.getElem_mem h
theorem take_snoc (l : List UInt8) (i : Nat) (h : i < l.length) : l.take (i + 1) = l.take i ++ [l.getD i 0] := by
  rw [List.take_succ_eq_append_getElem h, List.getD_eq_getElem?_getD, List.getElem?_eq_getElem h]
  rfl
theorem dv_head (s : ByteArray) (pre H R : List UInt8) (h : s.data.toList = pre ++ (H ++ R)) : ∀ n, n ≤ H.length → dv s pre.length (pre.length + H.length) n = val (H.take n)
  | 0, _ => by simp [dv, val]
  | n + 1, hn => by
    rw [dv_s, if_neg (by omega), dv_head s pre H R h n (by omega), (bt_list s pre H R h n).1 (by omega), take_snoc H n (by omega), val_snoc]
theorem dv_tail (s : ByteArray) (pre H P : List UInt8) (h : s.data.toList = pre ++ (H ++ 46 :: P)) : ∀ n, n ≤ P.length → dv s pre.length (pre.length + H.length) (H.length + 1 + n) = val (H ++ P.take n)
  | 0, _ => by
    rw [Nat.add_zero, dv_s, if_pos rfl, dv_head s pre H _ h _ (Nat.le_refl _)]
    simp
  | n + 1, hn => by
    rw [show H.length + 1 + (n + 1) = (H.length + 1 + n) + 1 from by omega, dv_s, if_neg (by omega), dv_tail s pre H P h n (by omega)]
    have hb := (bt_list s pre H _ h (n + 1)).2
    rw [show pre.length + H.length + (n + 1) = pre.length + (H.length + 1 + n) from by omega] at hb
    rw [hb, take_snoc P n (by omega), ← List.append_assoc, val_snoc]
    simp
theorem dec_shape (s : ByteArray) (h : decB s.data.toList = true) : ∃ (p d : Nat) (V k : Nat), ((p = 0 ∧ (s.data.toList.head? == some 45) = false) ∨ (p = 1 ∧ (s.data.toList.head? == some 45) = true ∧ bt s 0 = 45)) ∧ Decs s p d ∧ V = dv s p d (s.size - p) ∧ k ≤ 6 ∧ V < 1000000000000000 ∧ rfExp s p d = (if V = 0 then 0 else -(k : Int)) ∧ decF s.data.toList = flo.wt (s.data.toList.head? == some 45) V k := by
  have hsz : s.data.toList.length = s.size := by simp
  have hpre : ∃ pre : List UInt8, s.data.toList = pre ++ strip s.data.toList ∧ ((pre.length = 0 ∧ (s.data.toList.head? == some 45) = false) ∨ (pre.length = 1 ∧ (s.data.toList.head? == some 45) = true ∧ bt s 0 = 45)) := by
    unfold strip
    by_cases hh : s.data.toList.head? = some 45
    · rw [if_pos hh]
      refine ⟨[45], ?_, .inr ⟨rfl, by rw [hh]; rfl, ?_⟩⟩
      · cases hl : s.data.toList with
        | nil => rw [hl] at hh; cases hh
        | cons c l => rw [hl] at hh; simp at hh; rw [hh]; rfl
      · unfold bt
        cases hl : s.data.toList with
        | nil => rw [hl] at hh; cases hh
        | cons c l => rw [hl] at hh; simp at hh; rw [hh]; rfl
    · rw [if_neg hh]
      exact ⟨[], rfl, .inl ⟨rfl, by simpa using hh⟩⟩
  obtain ⟨pre, hl, hp⟩ := hpre
  have hj := cut_join (strip s.data.toList)
  unfold decB at h
  simp only [Bool.and_eq_true] at h
  obtain ⟨⟨h1, _⟩, h3⟩ := h
  obtain ⟨a1, a2, a3⟩ := digs_of h1
  unfold decF
  generalize hT : strip s.data.toList = T at *
  generalize hH : headD T = H at *
  generalize hP : tailD T = P at *
  generalize (s.data.toList.head? == some 45) = neg at *
  by_cases hdot : dotB T = true
  · rw [if_pos hdot] at hj
    rw [hdot] at h3
    simp only [Bool.not_true, Bool.false_or] at h3
    obtain ⟨b1, b2, b3⟩ := digs_of h3
    have hl2 : s.data.toList = pre ++ (H ++ 46 :: P) := by rw [hl, hj]
    have hs : s.size = pre.length + (H.length + (P.length + 1)) := by rw [← hsz, hl2]; simp
    have hV : dv s pre.length (pre.length + H.length) (s.size - pre.length) = val (H ++ P) := by
      have := dv_tail s pre H P hl2 P.length (Nat.le_refl _)
      rw [List.take_length] at this
      rw [← this]
      congr 1
      omega
    have hlt : val (H ++ P) < 10 ^ (H.length + P.length) := val_lt _ _ (by simp) (fun c hc => (List.mem_append.1 hc).elim (a3 c) (b3 c))
    have h15 : 10 ^ (H.length + P.length) ≤ 10 ^ 15 := Nat.pow_le_pow_right (by omega) (by omega)
    have e15 : (10 : Nat) ^ 15 = 1000000000000000 := by decide +kernel
    have hD : Decs s pre.length (pre.length + H.length) := by
      refine ⟨by omega, by omega, ?_, fun k hk1 hk2 hk3 => ?_, fun _ => ?_⟩
      · rcases hp with ⟨e, _⟩ | ⟨e, _⟩ <;> omega
      · by_cases hlt : k < pre.length + H.length
        · have := (bt_list s pre H _ hl2 (k - pre.length)).1 (by omega)
          rw [show pre.length + (k - pre.length) = k from by omega] at this
          rw [this]
          exact dig_bt (a3 _ (getD_mem (by omega)))
        · have := (bt_list s pre H _ hl2 (k - pre.length - H.length)).2
          rw [show pre.length + H.length + (k - pre.length - H.length) = k from by omega, show k - pre.length - H.length = (k - pre.length - H.length - 1) + 1 from by omega] at this
          rw [this, List.getD_cons_succ]
          exact dig_bt (b3 _ (getD_mem (by omega)))
      · have := (bt_list s pre H _ hl2 0).2
        rw [Nat.add_zero] at this
        rw [this]
        rfl
    refine ⟨pre.length, pre.length + H.length, val (H ++ P), P.length, ?_, hD, hV.symm, b2, by omega, ?_, rfl⟩
    · rcases hp with ⟨e, h⟩ | ⟨e, h⟩
      · exact .inl ⟨e, h⟩
      · exact .inr ⟨e, h⟩
    · unfold rfExp
      rw [hV]
      split
      · rfl
      · rw [if_pos (by omega)]
        omega
  · have hdf : dotB T = false := by simpa using hdot
    rw [if_neg hdot, List.append_nil] at hj
    have hP0 : P = [] := by rw [← hP]; exact tail_nil hdf
    subst hP0
    have hl2 : s.data.toList = pre ++ (H ++ []) := by rw [hl, List.append_nil, ← hj]
    have hs : s.size = pre.length + H.length := by rw [← hsz, hl2]; simp
    have hV : dv s pre.length (pre.length + H.length) (s.size - pre.length) = val (H ++ []) := by
      have := dv_head s pre H [] hl2 H.length (Nat.le_refl _)
      rw [List.take_length] at this
      rw [List.append_nil, ← this]
      congr 1
      omega
    have hlt : val H < 10 ^ H.length := val_lt _ _ rfl a3
    have h15 : 10 ^ H.length ≤ 10 ^ 15 := Nat.pow_le_pow_right (by omega) (by omega)
    have e15 : (10 : Nat) ^ 15 = 1000000000000000 := by decide +kernel
    have hD : Decs s pre.length (pre.length + H.length) := by
      refine ⟨by omega, by omega, ?_, fun k hk1 hk2 hk3 => ?_, fun h => absurd h (by omega)⟩
      · rcases hp with ⟨e, _⟩ | ⟨e, _⟩ <;> omega
      · have := (bt_list s pre H _ hl2 (k - pre.length)).1 (by omega)
        rw [show pre.length + (k - pre.length) = k from by omega] at this
        rw [this]
        exact dig_bt (a3 _ (getD_mem (by omega)))
    refine ⟨pre.length, pre.length + H.length, val (H ++ []), 0, ?_, hD, hV.symm, by omega, by rw [List.append_nil]; omega, ?_, rfl⟩
    · rcases hp with ⟨e, h⟩ | ⟨e, h⟩
      · exact .inl ⟨e, h⟩
      · exact .inr ⟨e, h⟩
    · unfold rfExp
      rw [hV]
      split
      · rfl
      · rw [if_neg (by omega)]
        rfl
end Go.Proofs.YtldamieigigncaaGreatDoor.lx

