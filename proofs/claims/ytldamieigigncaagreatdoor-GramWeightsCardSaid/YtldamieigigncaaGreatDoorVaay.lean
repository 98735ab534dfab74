import Derived.Test.YtldamieigigncaaGreatDoorVaax
import Derived.Test.YtldamieigigncaaGreatDoorVaad
namespace Go.Proofs.YtldamieigigncaaGreatDoor.lx
open Go.ChangeShapes Go.WideShapes Go.ChangeAt Go.RowKit
set_option linter.unusedVariables false
def PartsV (l : List UInt8) (e : Ending) : Prop := e = .returned (if decB l = true then .tuple #[.bool (l.head? == some 45), .string (S (headD (strip l))), .string (S (tailD (strip l))), .bool true] else .tuple #[.bool false, .string ⟨#[]⟩, .string ⟨#[]⟩, .bool false])
theorem parts_no {l : List UInt8} (h : decB l = false) : PartsV l (.returned (.tuple #[.bool false, .string ⟨#[]⟩, .string ⟨#[]⟩, .bool false])) := by
  unfold PartsV
  rw [h]
  rfl
theorem parts_yes {l H P : List UInt8} {neg : Bool} (hn : (l.head? == some 45) = neg) (h : decB l = true ∧ headD (strip l) = H ∧ tailD (strip l) = P) : PartsV l (.returned (.tuple #[.bool neg, .string (S H), .string (S P), .bool true])) := by
  unfold PartsV
  rw [h.1, h.2.1, h.2.2, hn]
  rfl
theorem pre_S (t : ByteArray) (k : Nat) : t.extract 0 k = S (t.data.toList.take k) := by
  rw [ext_S, List.drop_zero, Nat.sub_zero]
theorem post_S (t : ByteArray) (k : Nat) (h : k ≤ t.size) : t.extract k t.size = S (t.data.toList.drop k) := by
  rw [ext_S, List.take_of_length_le (by rw [List.length_drop, show t.data.toList.length = t.size by simp]; omega)]
set_option maxRecDepth 100000 in
theorem parts_0 (s : ByteArray) (hs : s.size ≤ maxLen) (h0 : s.size < 1) (w : World) : Calls Tryz.prog 35 #[.string s] w fun e w' => PartsV s.data.toList e ∧ Qt w w' := by
  have HNO := Lib.hid (parts_no (l := s.data.toList) (by rw [list_nil s h0]; decide))
  have hse : s = ⟨#[]⟩ := str_S (list_nil s h0)
  subst hse
  go_enter Tryz.func35, Tryz.ntmps35
  go_wp2
  go_rounds 1
  refine bodyPost_ret (v := .tuple #[.bool false, .string ⟨#[]⟩, .string ⟨#[]⟩, .bool false]) (by simp [results, Tryz.results35, go_sem]) rfl ⟨HNO.out, Qt.refl _⟩
set_option maxRecDepth 100000 in
set_option maxHeartbeats 4000000 in
theorem parts_1 (s : ByteArray) (hs : s.size ≤ maxLen) (h0 : 0 < s.size) (h45 : s[0] ≠ 45) (w : World) : Calls Tryz.prog 35 #[.string s] w fun e w' => PartsV s.data.toList e ∧ Qt w w' := by
  unfold maxLen at hs
  have hh := head_at s h0
  have HNEG : Hid ((s.data.toList.head? == some 45) = false) := Lib.hid (by
    rw [hh, beq_eq_false_iff_ne]
    intro e
    exact h45 (Option.some.inj e))
  have HT : Hid (strip s.data.toList = s.data.toList) := Lib.hid (by
    unfold strip
    rw [if_neg]
    rw [hh]
    intro e
    exact h45 (Option.some.inj e))
  have q1 : ((s[0].toNat : Int) == 45) = false := by
    rw [beq_eq_false_iff_ne]
    intro e
    exact h45 (UInt8.toNat_inj.1 (by rw [show s[0].toNat = 45 from by omega]; rfl))
  clear hh h45
  have HTL : Hid (s.data.toList.length = s.size) := Lib.hid (by simp)
  have HS1 : Hid (∀ k, s.extract 0 k = S (s.data.toList.take k)) := Lib.hid (pre_S s)
  have HS2 : Hid (∀ k, k ≤ s.size → s.extract k s.size = S (s.data.toList.drop k)) := Lib.hid (post_S s)
  go_enter Tryz.func35, Tryz.ntmps35
  go_wp2
  go_loop [7] (fun i => ∃ k : Nat, i = .int .i64 k ∧ k ≤ s.size ∧ (s.data.toList.take k).all digB = true) (fun i => s.size - (intOf i).toNat)
  case atStart => exact ⟨0, rfl, Nat.zero_le _, by simp⟩
  case round =>
    obtain ⟨k, rfl, hk, hall⟩ := hrel
    have HA := Lib.hid hall
    have HH : Hid (HeadK s.data.toList k) := Lib.hid ⟨by rw [HTL.out]; exact hk, HA.out⟩
    clear hall
    by_cases hlt : k < s.size
    · by_cases h1 : 57 < s[k].toNat
      · have HD : Hid (digB s[k] = false) := Lib.hid (by rw [dig_n]; unfold digN; rw [decide_eq_false_iff_not]; omega)
        by_cases x1 : k < 1
        · have HNO := Lib.hid (parts_no (dec_no HT.out HH.out (.inl x1) (.inr ⟨_, _, bytes_drop s k hlt, HD.out⟩)))
          go_wp2_with fail
          all_goals refine bodyPost_ret (v := .tuple #[.bool false, .string ⟨#[]⟩, .string ⟨#[]⟩, .bool false]) (by simp [results, Tryz.results35, go_sem]) rfl ⟨HNO.out, Qt.refl _⟩
        by_cases x2 : 9 < k
        · have HNO := Lib.hid (parts_no (dec_no HT.out HH.out (.inr (.inl x2)) (.inr ⟨_, _, bytes_drop s k hlt, HD.out⟩)))
          go_wp2_with fail
          all_goals refine bodyPost_ret (v := .tuple #[.bool false, .string ⟨#[]⟩, .string ⟨#[]⟩, .bool false]) (by simp [results, Tryz.results35, go_sem]) rfl ⟨HNO.out, Qt.refl _⟩
        have h0k : 0 < s.size := by omega
        have hh0 := head_at s h0k
        by_cases x3 : 1 < k ∧ s[0] = 48
        · obtain ⟨x3a, x3b⟩ := x3
          have m0 : ((s[0].toNat : Int) == 48) = true := by rw [x3b]; rfl
          have HNO := Lib.hid (parts_no (dec_no HT.out HH.out (.inr (.inr ⟨x3a, by rw [hh0, x3b]⟩)) (.inr ⟨_, _, bytes_drop s k hlt, HD.out⟩)))
          clear x3b hh0
          go_wp2_with fail
          all_goals refine bodyPost_ret (v := .tuple #[.bool false, .string ⟨#[]⟩, .string ⟨#[]⟩, .bool false]) (by simp [results, Tryz.results35, go_sem]) rfl ⟨HNO.out, Qt.refl _⟩
        have hnl : ¬ (1 < k ∧ s.data.toList.head? = some 48) := fun h => x3 ⟨h.1, Option.some.inj (hh0.symm.trans h.2)⟩
        have HNL := Lib.hid hnl
        have m0 : 1 < k → ((s[0].toNat : Int) == 48) = false := fun h => by
          rw [beq_eq_false_iff_ne]
          intro e
          exact x3 ⟨h, UInt8.toNat_inj.1 (by rw [show s[0].toNat = 48 from by omega]; rfl)⟩
        clear hnl hh0 x3
        by_cases x4 : 1 < k
        · have m0 := m0 x4
          have m1 : ((s[k].toNat : Int) != 46) = true := by rw [bne_iff_ne]; omega
          have HNO := Lib.hid (parts_no (dec_none HT.out HH.out _ _ (bytes_drop s k hlt) (by rintro e; rw [e] at h1; revert h1; decide) HD.out))
          go_wp2_with fail
          all_goals refine bodyPost_ret (v := .tuple #[.bool false, .string ⟨#[]⟩, .string ⟨#[]⟩, .bool false]) (by simp [results, Tryz.results35, go_sem]) rfl ⟨HNO.out, Qt.refl _⟩
        · clear m0
          have m1 : ((s[k].toNat : Int) != 46) = true := by rw [bne_iff_ne]; omega
          have HNO := Lib.hid (parts_no (dec_none HT.out HH.out _ _ (bytes_drop s k hlt) (by rintro e; rw [e] at h1; revert h1; decide) HD.out))
          go_wp2_with fail
          all_goals refine bodyPost_ret (v := .tuple #[.bool false, .string ⟨#[]⟩, .string ⟨#[]⟩, .bool false]) (by simp [results, Tryz.results35, go_sem]) rfl ⟨HNO.out, Qt.refl _⟩
      · by_cases h2 : s[k].toNat < 48
        · have HD : Hid (digB s[k] = false) := Lib.hid (by rw [dig_n]; unfold digN; rw [decide_eq_false_iff_not]; omega)
          by_cases x1 : k < 1
          · have HNO := Lib.hid (parts_no (dec_no HT.out HH.out (.inl x1) (.inr ⟨_, _, bytes_drop s k hlt, HD.out⟩)))
            go_wp2_with fail
            all_goals refine bodyPost_ret (v := .tuple #[.bool false, .string ⟨#[]⟩, .string ⟨#[]⟩, .bool false]) (by simp [results, Tryz.results35, go_sem]) rfl ⟨HNO.out, Qt.refl _⟩
          by_cases x2 : 9 < k
          · have HNO := Lib.hid (parts_no (dec_no HT.out HH.out (.inr (.inl x2)) (.inr ⟨_, _, bytes_drop s k hlt, HD.out⟩)))
            go_wp2_with fail
            all_goals refine bodyPost_ret (v := .tuple #[.bool false, .string ⟨#[]⟩, .string ⟨#[]⟩, .bool false]) (by simp [results, Tryz.results35, go_sem]) rfl ⟨HNO.out, Qt.refl _⟩
          have h0k : 0 < s.size := by omega
          have hh0 := head_at s h0k
          by_cases x3 : 1 < k ∧ s[0] = 48
          · obtain ⟨x3a, x3b⟩ := x3
            have m0 : ((s[0].toNat : Int) == 48) = true := by rw [x3b]; rfl
            have HNO := Lib.hid (parts_no (dec_no HT.out HH.out (.inr (.inr ⟨x3a, by rw [hh0, x3b]⟩)) (.inr ⟨_, _, bytes_drop s k hlt, HD.out⟩)))
            clear x3b hh0
            go_wp2_with fail
            all_goals refine bodyPost_ret (v := .tuple #[.bool false, .string ⟨#[]⟩, .string ⟨#[]⟩, .bool false]) (by simp [results, Tryz.results35, go_sem]) rfl ⟨HNO.out, Qt.refl _⟩
          have hnl : ¬ (1 < k ∧ s.data.toList.head? = some 48) := fun h => x3 ⟨h.1, Option.some.inj (hh0.symm.trans h.2)⟩
          have HNL := Lib.hid hnl
          have m0 : 1 < k → ((s[0].toNat : Int) == 48) = false := fun h => by
            rw [beq_eq_false_iff_ne]
            intro e
            exact x3 ⟨h, UInt8.toNat_inj.1 (by rw [show s[0].toNat = 48 from by omega]; rfl)⟩
          clear hnl hh0 x3
          by_cases x4 : 1 < k
          · have m0 := m0 x4
            by_cases x5 : s[k] = 46
            · have m1 : ((s[k].toNat : Int) != 46) = false := by rw [x5]; rfl
              have HR : Hid (s.data.toList.drop k = 46 :: s.data.toList.drop (k + 1)) := Lib.hid (by rw [bytes_drop s k hlt, x5])
              have hrl : (s.data.toList.drop (k + 1)).length = s.size - (k + 1) := by rw [List.length_drop, HTL.out]
              have HRL := Lib.hid hrl
              clear x5 hrl
              by_cases x6 : s.size - k < 2
              · have x6' : (s.size : Int) - k < 2 := by omega
                have HNO := Lib.hid (parts_no (dec_tail HT.out HH.out _ HR.out (by
                  unfold digsB
                  rw [HRL.out, decide_eq_false (by omega)]
                  rfl)))
                go_wp2_with fail
                all_goals refine bodyPost_ret (v := .tuple #[.bool false, .string ⟨#[]⟩, .string ⟨#[]⟩, .bool false]) (by simp [results, Tryz.results35, go_sem]) rfl ⟨HNO.out, Qt.refl _⟩
              · by_cases x7 : 7 < s.size - k
                · have x7' : 7 < (s.size : Int) - k := by omega
                  have HNO := Lib.hid (parts_no (dec_tail HT.out HH.out _ HR.out (by
                    unfold digsB
                    rw [HRL.out, decide_eq_false (show ¬ s.size - (k + 1) ≤ 6 by omega)]
                    simp)))
                  go_wp2_with fail
                  all_goals refine bodyPost_ret (v := .tuple #[.bool false, .string ⟨#[]⟩, .string ⟨#[]⟩, .bool false]) (by simp [results, Tryz.results35, go_sem]) rfl ⟨HNO.out, Qt.refl _⟩
                · have x6' : 2 ≤ (s.size : Int) - k := by omega
                  have x7' : (s.size : Int) - k ≤ 7 := by omega
                  have x8 : 1 ≤ k := by omega
                  have x9 : k ≤ 9 := by omega
                  have HDG : Hid (digsB (s.data.toList.drop (k + 1)) 6 = (s.data.toList.drop (k + 1)).all digB) := Lib.hid (by
                    unfold digsB
                    rw [HRL.out, decide_eq_true (show 1 ≤ s.size - (k + 1) by omega), decide_eq_true (show s.size - (k + 1) ≤ 6 by omega)]
                    rfl)
                  go_wp2_with fail
                  go_loop [8] (fun i => ∃ j : Nat, i = .int .i64 j ∧ k + 1 ≤ j ∧ j ≤ s.size ∧ ((s.data.toList.drop (k + 1)).take (j - (k + 1))).all digB = true) (fun i => s.size - (intOf i).toNat)
                  case atStart => exact ⟨k + 1, by go_num, Nat.le_refl _, by omega, by simp⟩
                  case round =>
                    obtain ⟨j, rfl, hj1, hj2, hj3⟩ := hrel
                    have HJ3 := Lib.hid hj3
                    clear hj3
                    by_cases hjl : j < s.size
                    · have HD := Lib.hid (dig_n s[j])
                      have HTK : Hid ((s.data.toList.drop (k + 1)).take (j + 1 - (k + 1)) = (s.data.toList.drop (k + 1)).take (j - (k + 1)) ++ [s[j]]) := Lib.hid (by
                        rw [show j + 1 - (k + 1) = (j - (k + 1)) + 1 from by omega, List.take_succ_eq_append_getElem (by rw [HRL.out]; omega)]
                        congr 2
                        rw [List.getElem_drop]
                        simp only [show k + 1 + (j - (k + 1)) = j from by omega]
                        rfl)
                      have hbad : (s[j].toNat < 48 ∨ 57 < s[j].toNat) → digsB (s.data.toList.drop (k + 1)) 6 = false := fun h => by
                        rw [HDG.out, Bool.eq_false_iff]
                        intro ha
                        have hd : digB s[j] = true := by
                          refine List.all_eq_true.1 ha _ ?_
                          have := List.mem_of_mem_take (l := s.data.toList.drop (k + 1)) (i := j + 1 - (k + 1)) (a := s[j]) (by rw [HTK.out]; simp)
                          exact this
                        have := dig_bt hd
                        omega
                      have HBAD := Lib.hid hbad
                      clear hbad
                      by_cases y1 : s[j].toNat < 48
                      · have HNO := Lib.hid (parts_no (dec_tail HT.out HH.out _ HR.out (HBAD.out (.inl y1))))
                        go_wp2_with fail
                        all_goals refine bodyPost_ret (v := .tuple #[.bool false, .string ⟨#[]⟩, .string ⟨#[]⟩, .bool false]) (by simp [results, Tryz.results35, go_sem]) rfl ⟨HNO.out, Qt.refl _⟩
                      · by_cases y2 : 57 < s[j].toNat
                        · have HNO := Lib.hid (parts_no (dec_tail HT.out HH.out _ HR.out (HBAD.out (.inr y2))))
                          go_wp2_with fail
                          all_goals refine bodyPost_ret (v := .tuple #[.bool false, .string ⟨#[]⟩, .string ⟨#[]⟩, .bool false]) (by simp [results, Tryz.results35, go_sem]) rfl ⟨HNO.out, Qt.refl _⟩
                        · go_wp2_with fail
                          go_round
                          case rel =>
                            refine ⟨j + 1, by go_num, by omega, hjl, ?_⟩
                            rw [HTK.out, List.all_append, HJ3.out, List.all_cons, HD.out]
                            unfold digN
                            rw [decide_eq_true (by omega)]
                            rfl
                          case measure => simp [intOf]; omega
                    · obtain rfl : j = s.size := by omega
                      have hall : digsB (s.data.toList.drop (k + 1)) 6 = true := by
                        rw [HDG.out]
                        have := HJ3.out
                        rwa [List.take_of_length_le (by rw [HRL.out]; omega)] at this
                      have HYES := Lib.hid (parts_yes HNEG.out (dec_point HT.out HH.out _ HR.out x8 x9 HNL.out hall))
                      rw [← HS1.out k, ← HS2.out (k + 1) (by omega)] at HYES
                      clear hall
                      go_wp2_with fail
                      have s1 : IntKind.i64.wrap ((k : Int) + 1) = (k : Int) + 1 := IntWalk.i64_in _ (by omega)
                      have s2 : (0 : Int) ≤ (k : Int) + 1 := by omega
                      have s3 : ((k : Int) + 1).toNat = k + 1 := by omega
                      have s4 : (k : Int) + 1 ≤ s.size := by omega
                      go_quiet (fail)
                      clear s1 s2 s3 s4
                      go_wp2
                      refine bodyPost_ret (v := .tuple #[.bool false, .string (s.extract 0 k), .string (s.extract (k + 1) s.size), .bool true]) (by simp [results, Tryz.results35, go_sem]) rfl ⟨HYES.out, _, rfl⟩
            · have m1 : ((s[k].toNat : Int) != 46) = true := by
                rw [bne_iff_ne]
                intro e
                exact x5 (UInt8.toNat_inj.1 (by rw [show s[k].toNat = 46 from by omega]; rfl))
              have HNO := Lib.hid (parts_no (dec_none HT.out HH.out _ _ (bytes_drop s k hlt) x5 HD.out))
              clear x5
              go_wp2_with fail
              all_goals refine bodyPost_ret (v := .tuple #[.bool false, .string ⟨#[]⟩, .string ⟨#[]⟩, .bool false]) (by simp [results, Tryz.results35, go_sem]) rfl ⟨HNO.out, Qt.refl _⟩
          · clear m0
            by_cases x5 : s[k] = 46
            · have m1 : ((s[k].toNat : Int) != 46) = false := by rw [x5]; rfl
              have HR : Hid (s.data.toList.drop k = 46 :: s.data.toList.drop (k + 1)) := Lib.hid (by rw [bytes_drop s k hlt, x5])
              have hrl : (s.data.toList.drop (k + 1)).length = s.size - (k + 1) := by rw [List.length_drop, HTL.out]
              have HRL := Lib.hid hrl
              clear x5 hrl
              by_cases x6 : s.size - k < 2
              · have x6' : (s.size : Int) - k < 2 := by omega
                have HNO := Lib.hid (parts_no (dec_tail HT.out HH.out _ HR.out (by
                  unfold digsB
                  rw [HRL.out, decide_eq_false (by omega)]
                  rfl)))
                go_wp2_with fail
                all_goals refine bodyPost_ret (v := .tuple #[.bool false, .string ⟨#[]⟩, .string ⟨#[]⟩, .bool false]) (by simp [results, Tryz.results35, go_sem]) rfl ⟨HNO.out, Qt.refl _⟩
              · by_cases x7 : 7 < s.size - k
                · have x7' : 7 < (s.size : Int) - k := by omega
                  have HNO := Lib.hid (parts_no (dec_tail HT.out HH.out _ HR.out (by
                    unfold digsB
                    rw [HRL.out, decide_eq_false (show ¬ s.size - (k + 1) ≤ 6 by omega)]
                    simp)))
                  go_wp2_with fail
                  all_goals refine bodyPost_ret (v := .tuple #[.bool false, .string ⟨#[]⟩, .string ⟨#[]⟩, .bool false]) (by simp [results, Tryz.results35, go_sem]) rfl ⟨HNO.out, Qt.refl _⟩
                · have x6' : 2 ≤ (s.size : Int) - k := by omega
                  have x7' : (s.size : Int) - k ≤ 7 := by omega
                  have x8 : 1 ≤ k := by omega
                  have x9 : k ≤ 9 := by omega
                  have HDG : Hid (digsB (s.data.toList.drop (k + 1)) 6 = (s.data.toList.drop (k + 1)).all digB) := Lib.hid (by
                    unfold digsB
                    rw [HRL.out, decide_eq_true (show 1 ≤ s.size - (k + 1) by omega), decide_eq_true (show s.size - (k + 1) ≤ 6 by omega)]
                    rfl)
                  go_wp2_with fail
                  go_loop [8] (fun i => ∃ j : Nat, i = .int .i64 j ∧ k + 1 ≤ j ∧ j ≤ s.size ∧ ((s.data.toList.drop (k + 1)).take (j - (k + 1))).all digB = true) (fun i => s.size - (intOf i).toNat)
                  case atStart => exact ⟨k + 1, by go_num, Nat.le_refl _, by omega, by simp⟩
                  case round =>
                    obtain ⟨j, rfl, hj1, hj2, hj3⟩ := hrel
                    have HJ3 := Lib.hid hj3
                    clear hj3
                    by_cases hjl : j < s.size
                    · have HD := Lib.hid (dig_n s[j])
                      have HTK : Hid ((s.data.toList.drop (k + 1)).take (j + 1 - (k + 1)) = (s.data.toList.drop (k + 1)).take (j - (k + 1)) ++ [s[j]]) := Lib.hid (by
                        rw [show j + 1 - (k + 1) = (j - (k + 1)) + 1 from by omega, List.take_succ_eq_append_getElem (by rw [HRL.out]; omega)]
                        congr 2
                        rw [List.getElem_drop]
                        simp only [show k + 1 + (j - (k + 1)) = j from by omega]
                        rfl)
                      have hbad : (s[j].toNat < 48 ∨ 57 < s[j].toNat) → digsB (s.data.toList.drop (k + 1)) 6 = false := fun h => by
                        rw [HDG.out, Bool.eq_false_iff]
                        intro ha
                        have hd : digB s[j] = true := by
                          refine List.all_eq_true.1 ha _ ?_
                          have := List.mem_of_mem_take (l := s.data.toList.drop (k + 1)) (i := j + 1 - (k + 1)) (a := s[j]) (by rw [HTK.out]; simp)
                          exact this
                        have := dig_bt hd
                        omega
                      have HBAD := Lib.hid hbad
                      clear hbad
                      by_cases y1 : s[j].toNat < 48
                      · have HNO := Lib.hid (parts_no (dec_tail HT.out HH.out _ HR.out (HBAD.out (.inl y1))))
                        go_wp2_with fail
                        all_goals refine bodyPost_ret (v := .tuple #[.bool false, .string ⟨#[]⟩, .string ⟨#[]⟩, .bool false]) (by simp [results, Tryz.results35, go_sem]) rfl ⟨HNO.out, Qt.refl _⟩
                      · by_cases y2 : 57 < s[j].toNat
                        · have HNO := Lib.hid (parts_no (dec_tail HT.out HH.out _ HR.out (HBAD.out (.inr y2))))
                          go_wp2_with fail
                          all_goals refine bodyPost_ret (v := .tuple #[.bool false, .string ⟨#[]⟩, .string ⟨#[]⟩, .bool false]) (by simp [results, Tryz.results35, go_sem]) rfl ⟨HNO.out, Qt.refl _⟩
                        · go_wp2_with fail
                          go_round
                          case rel =>
                            refine ⟨j + 1, by go_num, by omega, hjl, ?_⟩
                            rw [HTK.out, List.all_append, HJ3.out, List.all_cons, HD.out]
                            unfold digN
                            rw [decide_eq_true (by omega)]
                            rfl
                          case measure => simp [intOf]; omega
                    · obtain rfl : j = s.size := by omega
                      have hall : digsB (s.data.toList.drop (k + 1)) 6 = true := by
                        rw [HDG.out]
                        have := HJ3.out
                        rwa [List.take_of_length_le (by rw [HRL.out]; omega)] at this
                      have HYES := Lib.hid (parts_yes HNEG.out (dec_point HT.out HH.out _ HR.out x8 x9 HNL.out hall))
                      rw [← HS1.out k, ← HS2.out (k + 1) (by omega)] at HYES
                      clear hall
                      go_wp2_with fail
                      have s1 : IntKind.i64.wrap ((k : Int) + 1) = (k : Int) + 1 := IntWalk.i64_in _ (by omega)
                      have s2 : (0 : Int) ≤ (k : Int) + 1 := by omega
                      have s3 : ((k : Int) + 1).toNat = k + 1 := by omega
                      have s4 : (k : Int) + 1 ≤ s.size := by omega
                      go_quiet (fail)
                      clear s1 s2 s3 s4
                      go_wp2
                      refine bodyPost_ret (v := .tuple #[.bool false, .string (s.extract 0 k), .string (s.extract (k + 1) s.size), .bool true]) (by simp [results, Tryz.results35, go_sem]) rfl ⟨HYES.out, _, rfl⟩
            · have m1 : ((s[k].toNat : Int) != 46) = true := by
                rw [bne_iff_ne]
                intro e
                exact x5 (UInt8.toNat_inj.1 (by rw [show s[k].toNat = 46 from by omega]; rfl))
              have HNO := Lib.hid (parts_no (dec_none HT.out HH.out _ _ (bytes_drop s k hlt) x5 HD.out))
              clear x5
              go_wp2_with fail
              all_goals refine bodyPost_ret (v := .tuple #[.bool false, .string ⟨#[]⟩, .string ⟨#[]⟩, .bool false]) (by simp [results, Tryz.results35, go_sem]) rfl ⟨HNO.out, Qt.refl _⟩
        · have HT1 := Lib.hid (all_take_succ digB s k hlt)
          have HD := Lib.hid (dig_n s[k])
          go_wp2_with fail
          go_round
          case rel =>
            refine ⟨k + 1, by go_num, hlt, ?_⟩
            rw [HT1.out, HA.out, HD.out]
            unfold digN
            rw [decide_eq_true (by omega)]
            rfl
          case measure => simp [intOf]; omega
    · obtain rfl : k = s.size := by omega
      have HW : Hid (HeadK s.data.toList s.data.toList.length) := Lib.hid (by rw [HTL.out]; exact HH.out)
      by_cases x1 : s.size < 1
      · have HNO := Lib.hid (parts_no (dec_no HT.out HH.out (.inl x1) (.inl HTL.out.symm)))
        go_wp2_with fail
        all_goals refine bodyPost_ret (v := .tuple #[.bool false, .string ⟨#[]⟩, .string ⟨#[]⟩, .bool false]) (by simp [results, Tryz.results35, go_sem]) rfl ⟨HNO.out, Qt.refl _⟩
      by_cases x2 : 9 < s.size
      · have HNO := Lib.hid (parts_no (dec_no HT.out HH.out (.inr (.inl x2)) (.inl HTL.out.symm)))
        go_wp2_with fail
        all_goals refine bodyPost_ret (v := .tuple #[.bool false, .string ⟨#[]⟩, .string ⟨#[]⟩, .bool false]) (by simp [results, Tryz.results35, go_sem]) rfl ⟨HNO.out, Qt.refl _⟩
      have h0k : 0 < s.size := by omega
      have hh0 := head_at s h0k
      by_cases x3 : 1 < s.size ∧ s[0] = 48
      · obtain ⟨x3a, x3b⟩ := x3
        have m0 : ((s[0].toNat : Int) == 48) = true := by rw [x3b]; rfl
        have HNO := Lib.hid (parts_no (dec_no HT.out HH.out (.inr (.inr ⟨x3a, by rw [hh0, x3b]⟩)) (.inl HTL.out.symm)))
        clear x3b hh0
        go_wp2_with fail
        all_goals refine bodyPost_ret (v := .tuple #[.bool false, .string ⟨#[]⟩, .string ⟨#[]⟩, .bool false]) (by simp [results, Tryz.results35, go_sem]) rfl ⟨HNO.out, Qt.refl _⟩
      have hnl : ¬ (1 < s.size ∧ s.data.toList.head? = some 48) := fun h => x3 ⟨h.1, Option.some.inj (hh0.symm.trans h.2)⟩
      have HNL := Lib.hid hnl
      have m0 : 1 < s.size → ((s[0].toNat : Int) == 48) = false := fun h => by
        rw [beq_eq_false_iff_ne]
        intro e
        exact x3 ⟨h, UInt8.toNat_inj.1 (by rw [show s[0].toNat = 48 from by omega]; rfl)⟩
      clear hnl hh0 x3
      by_cases x4 : 1 < s.size
      · have m0 := m0 x4
        have HYES := Lib.hid (parts_yes (H := s.data.toList) (P := []) HNEG.out (dec_whole HT.out HW.out (by rw [HTL.out]; omega) (by rw [HTL.out]; omega) (by rw [HTL.out]; exact HNL.out)))
        go_wp2_with fail
        refine bodyPost_ret (v := .tuple #[.bool false, .string s, .string ⟨#[]⟩, .bool true]) (by simp [results, Tryz.results35, go_sem]) rfl ⟨HYES.out, Qt.refl _⟩
      · clear m0
        have HYES := Lib.hid (parts_yes (H := s.data.toList) (P := []) HNEG.out (dec_whole HT.out HW.out (by rw [HTL.out]; omega) (by rw [HTL.out]; omega) (by rw [HTL.out]; exact HNL.out)))
        go_wp2_with fail
        refine bodyPost_ret (v := .tuple #[.bool false, .string s, .string ⟨#[]⟩, .bool true]) (by simp [results, Tryz.results35, go_sem]) rfl ⟨HYES.out, Qt.refl _⟩
set_option maxRecDepth 100000 in
set_option maxHeartbeats 4000000 in
theorem parts_2 (s : ByteArray) (hs : s.size ≤ maxLen) (h0 : 0 < s.size) (h45 : s[0] = 45) (w : World) : Calls Tryz.prog 35 #[.string s] w fun e w' => PartsV s.data.toList e ∧ Qt w w' := by
  unfold maxLen at hs
  have hh := head_at s h0
  have HNEG : Hid ((s.data.toList.head? == some 45) = true) := Lib.hid (by rw [hh, h45]; rfl)
  have HT0 : Hid (strip s.data.toList = (s.extract 1 s.size).data.toList) := Lib.hid (by
    unfold strip
    rw [if_pos (by rw [hh, h45])]
    rw [ext_list, List.take_of_length_le (by simp), List.drop_one])
  have hts : (s.extract 1 s.size).size ≤ 9223372036854775807 := by simp [ByteArray.size_extract]; omega
  have q1 : ((s[0].toNat : Int) == 45) = true := by rw [h45]; rfl
  clear hh h45
  go_enter Tryz.func35, Tryz.ntmps35
  go_wp2
  generalize s.extract 1 s.size = t at *
  have HT : Hid (strip s.data.toList = t.data.toList) := HT0
  have HTL : Hid (t.data.toList.length = t.size) := Lib.hid (by simp)
  have HS1 : Hid (∀ k, t.extract 0 k = S (t.data.toList.take k)) := Lib.hid (pre_S t)
  have HS2 : Hid (∀ k, k ≤ t.size → t.extract k t.size = S (t.data.toList.drop k)) := Lib.hid (post_S t)
  go_loop [7] (fun i => ∃ k : Nat, i = .int .i64 k ∧ k ≤ t.size ∧ (t.data.toList.take k).all digB = true) (fun i => t.size - (intOf i).toNat)
  case atStart => exact ⟨0, rfl, Nat.zero_le _, by simp⟩
  case round =>
    obtain ⟨k, rfl, hk, hall⟩ := hrel
    have HA := Lib.hid hall
    have HH : Hid (HeadK t.data.toList k) := Lib.hid ⟨by rw [HTL.out]; exact hk, HA.out⟩
    clear hall
    by_cases hlt : k < t.size
    · by_cases h1 : 57 < t[k].toNat
      · have HD : Hid (digB t[k] = false) := Lib.hid (by rw [dig_n]; unfold digN; rw [decide_eq_false_iff_not]; omega)
        by_cases x1 : k < 1
        · have HNO := Lib.hid (parts_no (dec_no HT.out HH.out (.inl x1) (.inr ⟨_, _, bytes_drop t k hlt, HD.out⟩)))
          go_wp2_with fail
          all_goals refine bodyPost_ret (v := .tuple #[.bool false, .string ⟨#[]⟩, .string ⟨#[]⟩, .bool false]) (by simp [results, Tryz.results35, go_sem]) rfl ⟨HNO.out, Qt.refl _⟩
        by_cases x2 : 9 < k
        · have HNO := Lib.hid (parts_no (dec_no HT.out HH.out (.inr (.inl x2)) (.inr ⟨_, _, bytes_drop t k hlt, HD.out⟩)))
          go_wp2_with fail
          all_goals refine bodyPost_ret (v := .tuple #[.bool false, .string ⟨#[]⟩, .string ⟨#[]⟩, .bool false]) (by simp [results, Tryz.results35, go_sem]) rfl ⟨HNO.out, Qt.refl _⟩
        have h0k : 0 < t.size := by omega
        have hh0 := head_at t h0k
        by_cases x3 : 1 < k ∧ t[0] = 48
        · obtain ⟨x3a, x3b⟩ := x3
          have m0 : ((t[0].toNat : Int) == 48) = true := by rw [x3b]; rfl
          have HNO := Lib.hid (parts_no (dec_no HT.out HH.out (.inr (.inr ⟨x3a, by rw [hh0, x3b]⟩)) (.inr ⟨_, _, bytes_drop t k hlt, HD.out⟩)))
          clear x3b hh0
          go_wp2_with fail
          all_goals refine bodyPost_ret (v := .tuple #[.bool false, .string ⟨#[]⟩, .string ⟨#[]⟩, .bool false]) (by simp [results, Tryz.results35, go_sem]) rfl ⟨HNO.out, Qt.refl _⟩
        have hnl : ¬ (1 < k ∧ t.data.toList.head? = some 48) := fun h => x3 ⟨h.1, Option.some.inj (hh0.symm.trans h.2)⟩
        have HNL := Lib.hid hnl
        have m0 : 1 < k → ((t[0].toNat : Int) == 48) = false := fun h => by
          rw [beq_eq_false_iff_ne]
          intro e
          exact x3 ⟨h, UInt8.toNat_inj.1 (by rw [show t[0].toNat = 48 from by omega]; rfl)⟩
        clear hnl hh0 x3
        by_cases x4 : 1 < k
        · have m0 := m0 x4
          have m1 : ((t[k].toNat : Int) != 46) = true := by rw [bne_iff_ne]; omega
          have HNO := Lib.hid (parts_no (dec_none HT.out HH.out _ _ (bytes_drop t k hlt) (by rintro e; rw [e] at h1; revert h1; decide) HD.out))
          go_wp2_with fail
          all_goals refine bodyPost_ret (v := .tuple #[.bool false, .string ⟨#[]⟩, .string ⟨#[]⟩, .bool false]) (by simp [results, Tryz.results35, go_sem]) rfl ⟨HNO.out, Qt.refl _⟩
        · clear m0
          have m1 : ((t[k].toNat : Int) != 46) = true := by rw [bne_iff_ne]; omega
          have HNO := Lib.hid (parts_no (dec_none HT.out HH.out _ _ (bytes_drop t k hlt) (by rintro e; rw [e] at h1; revert h1; decide) HD.out))
          go_wp2_with fail
          all_goals refine bodyPost_ret (v := .tuple #[.bool false, .string ⟨#[]⟩, .string ⟨#[]⟩, .bool false]) (by simp [results, Tryz.results35, go_sem]) rfl ⟨HNO.out, Qt.refl _⟩
      · by_cases h2 : t[k].toNat < 48
        · have HD : Hid (digB t[k] = false) := Lib.hid (by rw [dig_n]; unfold digN; rw [decide_eq_false_iff_not]; omega)
          by_cases x1 : k < 1
          · have HNO := Lib.hid (parts_no (dec_no HT.out HH.out (.inl x1) (.inr ⟨_, _, bytes_drop t k hlt, HD.out⟩)))
            go_wp2_with fail
            all_goals refine bodyPost_ret (v := .tuple #[.bool false, .string ⟨#[]⟩, .string ⟨#[]⟩, .bool false]) (by simp [results, Tryz.results35, go_sem]) rfl ⟨HNO.out, Qt.refl _⟩
          by_cases x2 : 9 < k
          · have HNO := Lib.hid (parts_no (dec_no HT.out HH.out (.inr (.inl x2)) (.inr ⟨_, _, bytes_drop t k hlt, HD.out⟩)))
            go_wp2_with fail
            all_goals refine bodyPost_ret (v := .tuple #[.bool false, .string ⟨#[]⟩, .string ⟨#[]⟩, .bool false]) (by simp [results, Tryz.results35, go_sem]) rfl ⟨HNO.out, Qt.refl _⟩
          have h0k : 0 < t.size := by omega
          have hh0 := head_at t h0k
          by_cases x3 : 1 < k ∧ t[0] = 48
          · obtain ⟨x3a, x3b⟩ := x3
            have m0 : ((t[0].toNat : Int) == 48) = true := by rw [x3b]; rfl
            have HNO := Lib.hid (parts_no (dec_no HT.out HH.out (.inr (.inr ⟨x3a, by rw [hh0, x3b]⟩)) (.inr ⟨_, _, bytes_drop t k hlt, HD.out⟩)))
            clear x3b hh0
            go_wp2_with fail
            all_goals refine bodyPost_ret (v := .tuple #[.bool false, .string ⟨#[]⟩, .string ⟨#[]⟩, .bool false]) (by simp [results, Tryz.results35, go_sem]) rfl ⟨HNO.out, Qt.refl _⟩
          have hnl : ¬ (1 < k ∧ t.data.toList.head? = some 48) := fun h => x3 ⟨h.1, Option.some.inj (hh0.symm.trans h.2)⟩
          have HNL := Lib.hid hnl
          have m0 : 1 < k → ((t[0].toNat : Int) == 48) = false := fun h => by
            rw [beq_eq_false_iff_ne]
            intro e
            exact x3 ⟨h, UInt8.toNat_inj.1 (by rw [show t[0].toNat = 48 from by omega]; rfl)⟩
          clear hnl hh0 x3
          by_cases x4 : 1 < k
          · have m0 := m0 x4
            by_cases x5 : t[k] = 46
            · have m1 : ((t[k].toNat : Int) != 46) = false := by rw [x5]; rfl
              have HR : Hid (t.data.toList.drop k = 46 :: t.data.toList.drop (k + 1)) := Lib.hid (by rw [bytes_drop t k hlt, x5])
              have hrl : (t.data.toList.drop (k + 1)).length = t.size - (k + 1) := by rw [List.length_drop, HTL.out]
              have HRL := Lib.hid hrl
              clear x5 hrl
              by_cases x6 : t.size - k < 2
              · have x6' : (t.size : Int) - k < 2 := by omega
                have HNO := Lib.hid (parts_no (dec_tail HT.out HH.out _ HR.out (by
                  unfold digsB
                  rw [HRL.out, decide_eq_false (by omega)]
                  rfl)))
                go_wp2_with fail
                all_goals refine bodyPost_ret (v := .tuple #[.bool false, .string ⟨#[]⟩, .string ⟨#[]⟩, .bool false]) (by simp [results, Tryz.results35, go_sem]) rfl ⟨HNO.out, Qt.refl _⟩
              · by_cases x7 : 7 < t.size - k
                · have x7' : 7 < (t.size : Int) - k := by omega
                  have HNO := Lib.hid (parts_no (dec_tail HT.out HH.out _ HR.out (by
                    unfold digsB
                    rw [HRL.out, decide_eq_false (show ¬ t.size - (k + 1) ≤ 6 by omega)]
                    simp)))
                  go_wp2_with fail
                  all_goals refine bodyPost_ret (v := .tuple #[.bool false, .string ⟨#[]⟩, .string ⟨#[]⟩, .bool false]) (by simp [results, Tryz.results35, go_sem]) rfl ⟨HNO.out, Qt.refl _⟩
                · have x6' : 2 ≤ (t.size : Int) - k := by omega
                  have x7' : (t.size : Int) - k ≤ 7 := by omega
                  have x8 : 1 ≤ k := by omega
                  have x9 : k ≤ 9 := by omega
                  have HDG : Hid (digsB (t.data.toList.drop (k + 1)) 6 = (t.data.toList.drop (k + 1)).all digB) := Lib.hid (by
                    unfold digsB
                    rw [HRL.out, decide_eq_true (show 1 ≤ t.size - (k + 1) by omega), decide_eq_true (show t.size - (k + 1) ≤ 6 by omega)]
                    rfl)
                  go_wp2_with fail
                  go_loop [8] (fun i => ∃ j : Nat, i = .int .i64 j ∧ k + 1 ≤ j ∧ j ≤ t.size ∧ ((t.data.toList.drop (k + 1)).take (j - (k + 1))).all digB = true) (fun i => t.size - (intOf i).toNat)
                  case atStart => exact ⟨k + 1, by go_num, Nat.le_refl _, by omega, by simp⟩
                  case round =>
                    obtain ⟨j, rfl, hj1, hj2, hj3⟩ := hrel
                    have HJ3 := Lib.hid hj3
                    clear hj3
                    by_cases hjl : j < t.size
                    · have HD := Lib.hid (dig_n t[j])
                      have HTK : Hid ((t.data.toList.drop (k + 1)).take (j + 1 - (k + 1)) = (t.data.toList.drop (k + 1)).take (j - (k + 1)) ++ [t[j]]) := Lib.hid (by
                        rw [show j + 1 - (k + 1) = (j - (k + 1)) + 1 from by omega, List.take_succ_eq_append_getElem (by rw [HRL.out]; omega)]
                        congr 2
                        rw [List.getElem_drop]
                        simp only [show k + 1 + (j - (k + 1)) = j from by omega]
                        rfl)
                      have hbad : (t[j].toNat < 48 ∨ 57 < t[j].toNat) → digsB (t.data.toList.drop (k + 1)) 6 = false := fun h => by
                        rw [HDG.out, Bool.eq_false_iff]
                        intro ha
                        have hd : digB t[j] = true := by
                          refine List.all_eq_true.1 ha _ ?_
                          have := List.mem_of_mem_take (l := t.data.toList.drop (k + 1)) (i := j + 1 - (k + 1)) (a := t[j]) (by rw [HTK.out]; simp)
                          exact this
                        have := dig_bt hd
                        omega
                      have HBAD := Lib.hid hbad
                      clear hbad
                      by_cases y1 : t[j].toNat < 48
                      · have HNO := Lib.hid (parts_no (dec_tail HT.out HH.out _ HR.out (HBAD.out (.inl y1))))
                        go_wp2_with fail
                        all_goals refine bodyPost_ret (v := .tuple #[.bool false, .string ⟨#[]⟩, .string ⟨#[]⟩, .bool false]) (by simp [results, Tryz.results35, go_sem]) rfl ⟨HNO.out, Qt.refl _⟩
                      · by_cases y2 : 57 < t[j].toNat
                        · have HNO := Lib.hid (parts_no (dec_tail HT.out HH.out _ HR.out (HBAD.out (.inr y2))))
                          go_wp2_with fail
                          all_goals refine bodyPost_ret (v := .tuple #[.bool false, .string ⟨#[]⟩, .string ⟨#[]⟩, .bool false]) (by simp [results, Tryz.results35, go_sem]) rfl ⟨HNO.out, Qt.refl _⟩
                        · go_wp2_with fail
                          go_round
                          case rel =>
                            refine ⟨j + 1, by go_num, by omega, hjl, ?_⟩
                            rw [HTK.out, List.all_append, HJ3.out, List.all_cons, HD.out]
                            unfold digN
                            rw [decide_eq_true (by omega)]
                            rfl
                          case measure => simp [intOf]; omega
                    · obtain rfl : j = t.size := by omega
                      have hall : digsB (t.data.toList.drop (k + 1)) 6 = true := by
                        rw [HDG.out]
                        have := HJ3.out
                        rwa [List.take_of_length_le (by rw [HRL.out]; omega)] at this
                      have HYES := Lib.hid (parts_yes HNEG.out (dec_point HT.out HH.out _ HR.out x8 x9 HNL.out hall))
                      rw [← HS1.out k, ← HS2.out (k + 1) (by omega)] at HYES
                      clear hall
                      go_wp2_with fail
                      have s1 : IntKind.i64.wrap ((k : Int) + 1) = (k : Int) + 1 := IntWalk.i64_in _ (by omega)
                      have s2 : (0 : Int) ≤ (k : Int) + 1 := by omega
                      have s3 : ((k : Int) + 1).toNat = k + 1 := by omega
                      have s4 : (k : Int) + 1 ≤ t.size := by omega
                      go_quiet (fail)
                      clear s1 s2 s3 s4
                      go_wp2
                      refine bodyPost_ret (v := .tuple #[.bool true, .string (t.extract 0 k), .string (t.extract (k + 1) t.size), .bool true]) (by simp [results, Tryz.results35, go_sem]) rfl ⟨HYES.out, _, rfl⟩
            · have m1 : ((t[k].toNat : Int) != 46) = true := by
                rw [bne_iff_ne]
                intro e
                exact x5 (UInt8.toNat_inj.1 (by rw [show t[k].toNat = 46 from by omega]; rfl))
              have HNO := Lib.hid (parts_no (dec_none HT.out HH.out _ _ (bytes_drop t k hlt) x5 HD.out))
              clear x5
              go_wp2_with fail
              all_goals refine bodyPost_ret (v := .tuple #[.bool false, .string ⟨#[]⟩, .string ⟨#[]⟩, .bool false]) (by simp [results, Tryz.results35, go_sem]) rfl ⟨HNO.out, Qt.refl _⟩
          · clear m0
            by_cases x5 : t[k] = 46
            · have m1 : ((t[k].toNat : Int) != 46) = false := by rw [x5]; rfl
              have HR : Hid (t.data.toList.drop k = 46 :: t.data.toList.drop (k + 1)) := Lib.hid (by rw [bytes_drop t k hlt, x5])
              have hrl : (t.data.toList.drop (k + 1)).length = t.size - (k + 1) := by rw [List.length_drop, HTL.out]
              have HRL := Lib.hid hrl
              clear x5 hrl
              by_cases x6 : t.size - k < 2
              · have x6' : (t.size : Int) - k < 2 := by omega
                have HNO := Lib.hid (parts_no (dec_tail HT.out HH.out _ HR.out (by
                  unfold digsB
                  rw [HRL.out, decide_eq_false (by omega)]
                  rfl)))
                go_wp2_with fail
                all_goals refine bodyPost_ret (v := .tuple #[.bool false, .string ⟨#[]⟩, .string ⟨#[]⟩, .bool false]) (by simp [results, Tryz.results35, go_sem]) rfl ⟨HNO.out, Qt.refl _⟩
              · by_cases x7 : 7 < t.size - k
                · have x7' : 7 < (t.size : Int) - k := by omega
                  have HNO := Lib.hid (parts_no (dec_tail HT.out HH.out _ HR.out (by
                    unfold digsB
                    rw [HRL.out, decide_eq_false (show ¬ t.size - (k + 1) ≤ 6 by omega)]
                    simp)))
                  go_wp2_with fail
                  all_goals refine bodyPost_ret (v := .tuple #[.bool false, .string ⟨#[]⟩, .string ⟨#[]⟩, .bool false]) (by simp [results, Tryz.results35, go_sem]) rfl ⟨HNO.out, Qt.refl _⟩
                · have x6' : 2 ≤ (t.size : Int) - k := by omega
                  have x7' : (t.size : Int) - k ≤ 7 := by omega
                  have x8 : 1 ≤ k := by omega
                  have x9 : k ≤ 9 := by omega
                  have HDG : Hid (digsB (t.data.toList.drop (k + 1)) 6 = (t.data.toList.drop (k + 1)).all digB) := Lib.hid (by
                    unfold digsB
                    rw [HRL.out, decide_eq_true (show 1 ≤ t.size - (k + 1) by omega), decide_eq_true (show t.size - (k + 1) ≤ 6 by omega)]
                    rfl)
                  go_wp2_with fail
                  go_loop [8] (fun i => ∃ j : Nat, i = .int .i64 j ∧ k + 1 ≤ j ∧ j ≤ t.size ∧ ((t.data.toList.drop (k + 1)).take (j - (k + 1))).all digB = true) (fun i => t.size - (intOf i).toNat)
                  case atStart => exact ⟨k + 1, by go_num, Nat.le_refl _, by omega, by simp⟩
                  case round =>
                    obtain ⟨j, rfl, hj1, hj2, hj3⟩ := hrel
                    have HJ3 := Lib.hid hj3
                    clear hj3
                    by_cases hjl : j < t.size
                    · have HD := Lib.hid (dig_n t[j])
                      have HTK : Hid ((t.data.toList.drop (k + 1)).take (j + 1 - (k + 1)) = (t.data.toList.drop (k + 1)).take (j - (k + 1)) ++ [t[j]]) := Lib.hid (by
                        rw [show j + 1 - (k + 1) = (j - (k + 1)) + 1 from by omega, List.take_succ_eq_append_getElem (by rw [HRL.out]; omega)]
                        congr 2
                        rw [List.getElem_drop]
                        simp only [show k + 1 + (j - (k + 1)) = j from by omega]
                        rfl)
                      have hbad : (t[j].toNat < 48 ∨ 57 < t[j].toNat) → digsB (t.data.toList.drop (k + 1)) 6 = false := fun h => by
                        rw [HDG.out, Bool.eq_false_iff]
                        intro ha
                        have hd : digB t[j] = true := by
                          refine List.all_eq_true.1 ha _ ?_
                          have := List.mem_of_mem_take (l := t.data.toList.drop (k + 1)) (i := j + 1 - (k + 1)) (a := t[j]) (by rw [HTK.out]; simp)
                          exact this
                        have := dig_bt hd
                        omega
                      have HBAD := Lib.hid hbad
                      clear hbad
                      by_cases y1 : t[j].toNat < 48
                      · have HNO := Lib.hid (parts_no (dec_tail HT.out HH.out _ HR.out (HBAD.out (.inl y1))))
                        go_wp2_with fail
                        all_goals refine bodyPost_ret (v := .tuple #[.bool false, .string ⟨#[]⟩, .string ⟨#[]⟩, .bool false]) (by simp [results, Tryz.results35, go_sem]) rfl ⟨HNO.out, Qt.refl _⟩
                      · by_cases y2 : 57 < t[j].toNat
                        · have HNO := Lib.hid (parts_no (dec_tail HT.out HH.out _ HR.out (HBAD.out (.inr y2))))
                          go_wp2_with fail
                          all_goals refine bodyPost_ret (v := .tuple #[.bool false, .string ⟨#[]⟩, .string ⟨#[]⟩, .bool false]) (by simp [results, Tryz.results35, go_sem]) rfl ⟨HNO.out, Qt.refl _⟩
                        · go_wp2_with fail
                          go_round
                          case rel =>
                            refine ⟨j + 1, by go_num, by omega, hjl, ?_⟩
                            rw [HTK.out, List.all_append, HJ3.out, List.all_cons, HD.out]
                            unfold digN
                            rw [decide_eq_true (by omega)]
                            rfl
                          case measure => simp [intOf]; omega
                    · obtain rfl : j = t.size := by omega
                      have hall : digsB (t.data.toList.drop (k + 1)) 6 = true := by
                        rw [HDG.out]
                        have := HJ3.out
                        rwa [List.take_of_length_le (by rw [HRL.out]; omega)] at this
                      have HYES := Lib.hid (parts_yes HNEG.out (dec_point HT.out HH.out _ HR.out x8 x9 HNL.out hall))
                      rw [← HS1.out k, ← HS2.out (k + 1) (by omega)] at HYES
                      clear hall
                      go_wp2_with fail
                      have s1 : IntKind.i64.wrap ((k : Int) + 1) = (k : Int) + 1 := IntWalk.i64_in _ (by omega)
                      have s2 : (0 : Int) ≤ (k : Int) + 1 := by omega
                      have s3 : ((k : Int) + 1).toNat = k + 1 := by omega
                      have s4 : (k : Int) + 1 ≤ t.size := by omega
                      go_quiet (fail)
                      clear s1 s2 s3 s4
                      go_wp2
                      refine bodyPost_ret (v := .tuple #[.bool true, .string (t.extract 0 k), .string (t.extract (k + 1) t.size), .bool true]) (by simp [results, Tryz.results35, go_sem]) rfl ⟨HYES.out, _, rfl⟩
            · have m1 : ((t[k].toNat : Int) != 46) = true := by
                rw [bne_iff_ne]
                intro e
                exact x5 (UInt8.toNat_inj.1 (by rw [show t[k].toNat = 46 from by omega]; rfl))
              have HNO := Lib.hid (parts_no (dec_none HT.out HH.out _ _ (bytes_drop t k hlt) x5 HD.out))
              clear x5
              go_wp2_with fail
              all_goals refine bodyPost_ret (v := .tuple #[.bool false, .string ⟨#[]⟩, .string ⟨#[]⟩, .bool false]) (by simp [results, Tryz.results35, go_sem]) rfl ⟨HNO.out, Qt.refl _⟩
        · have HT1 := Lib.hid (all_take_succ digB t k hlt)
          have HD := Lib.hid (dig_n t[k])
          go_wp2_with fail
          go_round
          case rel =>
            refine ⟨k + 1, by go_num, hlt, ?_⟩
            rw [HT1.out, HA.out, HD.out]
            unfold digN
            rw [decide_eq_true (by omega)]
            rfl
          case measure => simp [intOf]; omega
    · obtain rfl : k = t.size := by omega
      have HW : Hid (HeadK t.data.toList t.data.toList.length) := Lib.hid (by rw [HTL.out]; exact HH.out)
      by_cases x1 : t.size < 1
      · have HNO := Lib.hid (parts_no (dec_no HT.out HH.out (.inl x1) (.inl HTL.out.symm)))
        go_wp2_with fail
        all_goals refine bodyPost_ret (v := .tuple #[.bool false, .string ⟨#[]⟩, .string ⟨#[]⟩, .bool false]) (by simp [results, Tryz.results35, go_sem]) rfl ⟨HNO.out, Qt.refl _⟩
      by_cases x2 : 9 < t.size
      · have HNO := Lib.hid (parts_no (dec_no HT.out HH.out (.inr (.inl x2)) (.inl HTL.out.symm)))
        go_wp2_with fail
        all_goals refine bodyPost_ret (v := .tuple #[.bool false, .string ⟨#[]⟩, .string ⟨#[]⟩, .bool false]) (by simp [results, Tryz.results35, go_sem]) rfl ⟨HNO.out, Qt.refl _⟩
      have h0k : 0 < t.size := by omega
      have hh0 := head_at t h0k
      by_cases x3 : 1 < t.size ∧ t[0] = 48
      · obtain ⟨x3a, x3b⟩ := x3
        have m0 : ((t[0].toNat : Int) == 48) = true := by rw [x3b]; rfl
        have HNO := Lib.hid (parts_no (dec_no HT.out HH.out (.inr (.inr ⟨x3a, by rw [hh0, x3b]⟩)) (.inl HTL.out.symm)))
        clear x3b hh0
        go_wp2_with fail
        all_goals refine bodyPost_ret (v := .tuple #[.bool false, .string ⟨#[]⟩, .string ⟨#[]⟩, .bool false]) (by simp [results, Tryz.results35, go_sem]) rfl ⟨HNO.out, Qt.refl _⟩
      have hnl : ¬ (1 < t.size ∧ t.data.toList.head? = some 48) := fun h => x3 ⟨h.1, Option.some.inj (hh0.symm.trans h.2)⟩
      have HNL := Lib.hid hnl
      have m0 : 1 < t.size → ((t[0].toNat : Int) == 48) = false := fun h => by
        rw [beq_eq_false_iff_ne]
        intro e
        exact x3 ⟨h, UInt8.toNat_inj.1 (by rw [show t[0].toNat = 48 from by omega]; rfl)⟩
      clear hnl hh0 x3
      by_cases x4 : 1 < t.size
      · have m0 := m0 x4
        have HYES := Lib.hid (parts_yes (H := t.data.toList) (P := []) HNEG.out (dec_whole HT.out HW.out (by rw [HTL.out]; omega) (by rw [HTL.out]; omega) (by rw [HTL.out]; exact HNL.out)))
        go_wp2_with fail
        refine bodyPost_ret (v := .tuple #[.bool true, .string t, .string ⟨#[]⟩, .bool true]) (by simp [results, Tryz.results35, go_sem]) rfl ⟨HYES.out, Qt.refl _⟩
      · clear m0
        have HYES := Lib.hid (parts_yes (H := t.data.toList) (P := []) HNEG.out (dec_whole HT.out HW.out (by rw [HTL.out]; omega) (by rw [HTL.out]; omega) (by rw [HTL.out]; exact HNL.out)))
        go_wp2_with fail
        refine bodyPost_ret (v := .tuple #[.bool true, .string t, .string ⟨#[]⟩, .bool true]) (by simp [results, Tryz.results35, go_sem]) rfl ⟨HYES.out, Qt.refl _⟩
theorem parts_any (s : ByteArray) (hs : s.size ≤ maxLen) (w : World) : Calls Tryz.prog 35 #[.string s] w fun e w' => PartsV s.data.toList e ∧ Qt w w' := by
  by_cases h0 : s.size < 1
  · exact parts_0 s hs h0 w
  · by_cases h45 : s[0] = 45
    · exact parts_2 s hs (by omega) h45 w
    · exact parts_1 s hs (by omega) h45 w
end Go.Proofs.YtldamieigigncaaGreatDoor.lx
