import Derived.Test.YtkhflfkedpkelaaGreatDoorLxe
import Derived.Laws.Runes
import Derived.Lib.Bytealg
namespace Go.Proofs.YtkhflfkedpkelaaGreatDoor.lx
open Go.ChangeShapes Go.WideShapes Go.ChangeAt Go.RowKit
set_option linter.unusedVariables false
attribute [local go_sem] get_lit x_index
theorem ext_list (s : ByteArray) (i j : Nat) : (s.extract i j).data.toList = (s.data.toList.drop i).take (j - i) := by
  simp [ByteArray.data_extract, List.extract_eq_take_drop]
theorem list_data (s : ByteArray) : s.data.toList = s.toList := (ByteArray.toList_eq s).symm
theorem all_take_succ (p : UInt8 → Bool) (s : ByteArray) (k : Nat) (h : k < s.size) : (s.data.toList.take (k + 1)).all p = ((s.data.toList.take k).all p && p s[k]) := by
  rw [List.take_succ_eq_append_getElem (by simpa using h), List.all_append]
  simp
  rfl
set_option maxRecDepth 100000 in
set_option maxHeartbeats 1000000 in
theorem isdigits_any (s : ByteArray) (hs : s.size ≤ maxLen) (most : Nat) (hm : most ≤ 100) (w : World) : Calls Tryz.prog 30 #[.string s, .int .i64 most] w fun e w' => e = .returned (.bool (digsB s.data.toList most)) ∧ w = w' := by
  unfold maxLen at hs
  have hl : s.data.toList.length = s.size := by simp
  by_cases h1 : s.size < 1
  · have e : digsB s.data.toList most = false := by
      unfold digsB
      rw [hl, decide_eq_false (by omega)]
      simp
    rw [e]
    clear e hl
    go_enter Tryz.func30, Tryz.ntmps30
    go_wp2_with fail
    go_ret
    exact ⟨rfl, rfl⟩
  · by_cases h2 : s.size > most
    · have e : digsB s.data.toList most = false := by
        unfold digsB
        rw [hl, decide_eq_false (show ¬ s.size ≤ most by omega)]
        simp
      rw [e]
      clear e hl
      go_enter Tryz.func30, Tryz.ntmps30
      go_wp2_with fail
      go_ret
      exact ⟨rfl, rfl⟩
    · have e : digsB s.data.toList most = s.data.toList.all digB := by
        unfold digsB
        rw [hl, decide_eq_true (show 1 ≤ s.size by omega), decide_eq_true (show s.size ≤ most by omega)]
        simp
      rw [e]
      have HL := Lib.hid hl
      clear e hl
      obtain ⟨z, hz⟩ : ∃ z, s.data.toList.all digB = z := ⟨_, rfl⟩
      rw [hz]
      have HZ := Lib.hid hz
      clear hz
      go_enter Tryz.func30, Tryz.ntmps30
      go_wp2_with fail
      go_loop [5] (fun i => ∃ k : Nat, k ≤ s.size ∧ i = .int .i64 k ∧ (s.data.toList.take k).all digB = true) (fun i => s.size - (intOf i).toNat)
      case atStart => exact ⟨0, Nat.zero_le _, rfl, by simp⟩
      case round =>
        obtain ⟨k, hk, rfl, hall⟩ := hrel
        have HA := Lib.hid hall
        clear hall
        by_cases hlt : k < s.size
        · have HT := Lib.hid (all_take_succ digB s k hlt)
          have HD := Lib.hid (dig_n s[k])
          have hno : s[k].toNat < 48 ∨ 57 < s[k].toNat → z = false := fun h => by
            rw [← HZ.out]
            have hd : digB s[k] = false := by
              rw [HD.out]
              unfold digN
              rw [decide_eq_false_iff_not]
              omega
            rw [Bool.eq_false_iff]
            intro ha
            have := List.all_eq_true.1 ha s[k] (by simp [ByteArray.getElem_eq_getElem_data])
            rw [hd] at this
            cases this
          have HN := Lib.hid hno
          clear hno
          by_cases h3 : s[k].toNat < 48
          · go_wp2_with fail
            go_ret
            exact ⟨ret_bool (HN.out (.inl h3)).symm, rfl⟩
          · by_cases h4 : 57 < s[k].toNat
            · go_wp2_with fail
              go_ret
              exact ⟨ret_bool (HN.out (.inr h4)).symm, rfl⟩
            · go_wp2_with fail
              go_round
              case rel =>
                refine ⟨k + 1, hlt, by go_num, ?_⟩
                rw [HT.out, HA.out, HD.out]
                unfold digN
                rw [decide_eq_true (by omega)]
                rfl
              case measure => simp [intOf]; omega
        · obtain rfl : k = s.size := by omega
          go_wp2_with fail
          go_ret
          have := HA.out
          rw [List.take_of_length_le (by rw [HL.out]; omega)] at this
          exact ⟨ret_bool (by rw [← HZ.out, this]), rfl⟩
set_option maxRecDepth 100000 in
set_option maxHeartbeats 1000000 in
theorem index1 (s : ByteArray) (w : World) : Calls Tryz.prog 46 #[.string s, .string ⟨#[46]⟩] w fun e w' => e = .returned (.int .i64 (firstIdx s 46)) ∧ w = w' := by
  by_cases h : (⟨#[46]⟩ : ByteArray) = s
  · subst h
    have e : firstIdx ⟨#[46]⟩ 46 = 0 := by decide +kernel
    rw [e]
    go_enter Tryz.func46, Tryz.ntmps46
    go_wp2_with fail
    go_ret
    exact ⟨rfl, rfl⟩
  · have hb : ([46] == s.toList) = false := by
      rw [beq_eq_false_iff_ne]
      intro e
      exact h (ByteArray.ext (by rw [← Array.toList_inj]; rw [← list_data] at e; exact e))
    clear h
    go_enter Tryz.func46, Tryz.ntmps46
    go_wp2
    go_ret
    exact ⟨rfl, rfl⟩
theorem list_nil (s : ByteArray) (h : s.size < 1) : s.data.toList = [] := by
  rw [← List.length_eq_zero_iff]
  have : s.data.toList.length = s.size := by simp
  omega
def StrIs (l : List UInt8) (e : Ending) : Prop := ∃ t : ByteArray, e = .returned (.string t) ∧ t.data.toList = l
set_option maxRecDepth 100000 in
set_option maxHeartbeats 1000000 in
theorem trim_any (s : ByteArray) (hs : s.size ≤ maxLen) (w : World) : Calls Tryz.prog 29 #[.string s, .string ⟨#[45]⟩] w fun e w' => StrIs (strip s.data.toList) e ∧ w = w' := by
  unfold maxLen at hs
  by_cases h1 : s.size < 1
  · have e : StrIs (strip s.data.toList) (.returned (.string s)) := ⟨s, rfl, by
      rw [list_nil s h1]
      rfl⟩
    have HE := Lib.hid e
    clear e
    go_enter Tryz.func29, Tryz.ntmps29
    go_wp2
    go_ret
    exact ⟨HE.out, rfl⟩
  · have hd := bytes_drop s 0 (by omega)
    rw [List.drop_zero] at hd
    have h01 : (s.extract 0 1).toList = [s[0]] := by
      rw [← list_data, ext_list, hd]
      rfl
    by_cases h2 : s[0] = 45
    · have e : StrIs (strip s.data.toList) (.returned (.string (s.extract 1 s.size))) := ⟨_, rfl, by
        rw [ext_list, hd, h2]
        unfold strip
        have : (s.data.toList.drop (0 + 1)).length = s.size - 1 := by simp
        rw [if_pos (by rfl), List.drop_succ_cons, List.drop_zero, List.tail_cons]
        exact List.take_of_length_le (by omega)⟩
      have hb : ((s.extract 0 1).toList == [45]) = true := by rw [h01, h2]; rfl
      have HE := Lib.hid e
      clear e h01 h2 hd
      go_enter Tryz.func29, Tryz.ntmps29
      go_wp2
      go_ret
      exact ⟨HE.out, rfl⟩
    · have e : StrIs (strip s.data.toList) (.returned (.string s)) := ⟨s, rfl, by
        rw [hd]
        unfold strip
        simp [h2]⟩
      have hb : ((s.extract 0 1).toList == [45]) = false := by
        rw [h01, beq_eq_false_iff_ne]
        intro e
        exact h2 (by simpa using e)
      have HE := Lib.hid e
      clear e h01 h2 hd
      go_enter Tryz.func29, Tryz.ntmps29
      go_wp2
      go_ret
      exact ⟨HE.out, rfl⟩
/-- nothing but draws -/
def Qt (w w' : World) : Prop := ∃ n, w' = w.drewN n
theorem Qt.refl (w : World) : Qt w w := ⟨0, rfl⟩
theorem Qt.below {w w' : World} (h : Qt w w') {B : Nat} : Below B w w' := by
  obtain ⟨n, rfl⟩ := h
  exact ⟨rfl, rfl, rfl, Nat.le_refl _, fun _ _ => rfl⟩
/-- ahead of the first point, and behind it -/
def CutIs (l : List UInt8) (e : Ending) : Prop := ∃ a b : ByteArray, e = .returned (.tuple #[.string a, .string b, .bool (dotB l)]) ∧ a.data.toList = headD l ∧ b.data.toList = tailD l
theorem first_at : ∀ (l : List UInt8), (Lib.indexByte l 46 = -1 ∧ dotB l = false ∧ headD l = l ∧ tailD l = []) ∨ ∃ k : Nat, k < l.length ∧ Lib.indexByte l 46 = k ∧ dotB l = true ∧ headD l = l.take k ∧ tailD l = l.drop (k + 1)
  | [] => .inl ⟨rfl, rfl, rfl, rfl⟩
  | c :: l => by
    by_cases hc : c = 46
    · subst hc
      refine .inr ⟨0, by simp, by simp [Lib.indexByte], by simp [dotB], by simp [headD], by simp [tailD]⟩
    · have hc2 : (c != 46) = true := by simpa using hc
      have hc3 : (46 == c) = false := by simpa using fun e => hc e.symm
      rcases first_at l with ⟨h1, h2, h3, h4⟩ | ⟨k, hk, h1, h2, h3, h4⟩
      · refine .inl ⟨by simp [Lib.indexByte, hc, h1], ?_, ?_, ?_⟩
        · unfold dotB at h2 ⊢
          simp only [List.contains_cons, h2, hc3, Bool.or_false]
        · unfold headD at h3 ⊢
          rw [List.takeWhile_cons_of_pos (p := fun c => c != 46) hc2, h3]
        · unfold tailD at h4 ⊢
          rw [List.dropWhile_cons_of_pos (p := fun c => c != 46) hc2, h4]
      · refine .inr ⟨k + 1, by simp; omega, by simp [Lib.indexByte, hc, h1], ?_, ?_, ?_⟩
        · unfold dotB at h2 ⊢
          simp only [List.contains_cons, h2, Bool.or_true]
        · unfold headD at h3 ⊢
          rw [List.takeWhile_cons_of_pos (p := fun c => c != 46) hc2, h3]
          rfl
        · unfold tailD at h4 ⊢
          rw [List.dropWhile_cons_of_pos (p := fun c => c != 46) hc2, h4]
          rfl
set_option maxRecDepth 100000 in
set_option maxHeartbeats 1000000 in
theorem cut_any (s : ByteArray) (hs : s.size ≤ maxLen) (w : World) : Calls Tryz.prog 28 #[.string s, .string ⟨#[46]⟩] w fun e w' => CutIs s.data.toList e ∧ Qt w w' := by
  unfold maxLen at hs
  have hi := index1 s w
  rw [Lib.firstIdx_eq] at hi
  have hl : s.data.toList.length = s.size := by simp
  rcases first_at s.data.toList with ⟨h1, h2, h3, h4⟩ | ⟨k, hk, h1, h2, h3, h4⟩
  · have e : CutIs s.data.toList (.returned (.tuple #[.string s, .string ⟨#[]⟩, .bool false])) := ⟨s, ⟨#[]⟩, by rw [h2], h3.symm, h4.symm⟩
    rw [h1] at hi
    have HE := Lib.hid e
    clear e h1 h2 h3 h4 hl
    go_enter Tryz.func28, Tryz.ntmps28
    go_wp2_with (first | (go_at_call 46; refine hi.mono ?_; rintro e w1 ⟨rfl, rfl⟩) | (go_at_call 37; go_in))
    go_ret3
    exact ⟨HE.out, Qt.refl _⟩
  · have e : CutIs s.data.toList (.returned (.tuple #[.string (s.extract 0 k), .string (s.extract (k + 1) s.size), .bool true])) := ⟨_, _, by rw [h2], by
      rw [ext_list, h3, List.drop_zero, Nat.sub_zero], by
      rw [ext_list, h4, List.take_of_length_le (by rw [List.length_drop]; omega)]⟩
    rw [h1] at hi
    rw [hl] at hk
    have HE := Lib.hid e
    clear e h1 h2 h3 h4 hl
    go_enter Tryz.func28, Tryz.ntmps28
    go_wp2_with (first | (go_at_call 46; refine hi.mono ?_; rintro e w1 ⟨rfl, rfl⟩) | (go_at_call 37; go_in))
    have s1 : IntKind.i64.wrap ((k : Int) + 1) = (k : Int) + 1 := IntWalk.i64_in _ (by omega)
    have s2 : (0 : Int) ≤ (k : Int) + 1 := by omega
    have s3 : ((k : Int) + 1).toNat = k + 1 := by omega
    have s4 : (k : Int) + 1 ≤ s.size := by omega
    go_quiet (fail)
    clear s1 s2 s3 s4
    go_wp2
    go_ret3
    exact ⟨HE.out, _, rfl⟩
end Go.Proofs.YtkhflfkedpkelaaGreatDoor.lx
