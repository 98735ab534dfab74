import Derived.Test.YtffbkhebkhbanaaGreatDoorLxo
import Derived.Test.YtffbkhebkhbanaaGreatDoorLxt
namespace Go.Proofs.YtffbkhebkhbanaaGreatDoor.lx
open Go.ChangeShapes Go.WideShapes Go.ChangeAt Go.RowKit
set_option linter.unusedVariables false
/-! the document's own words: blanks and signs -/
attribute [local go_sem] get_lit
theorem sgn_get : ∀ k, k < 8 → ([61, 59, 124, 40, 41, 63, 42, 43] : List UInt8).getD k 0 ∈ ([61, 59, 124, 40, 41, 63, 42, 43] : List UInt8) := by decide
theorem sgn_list (c : UInt8) : sgnB c = ([61, 59, 124, 40, 41, 63, 42, 43] : List UInt8).contains c := by
  unfold sgnB
  rw [Bool.eq_iff_iff]
  simp [or_assoc]
set_option maxRecDepth 100000 in
set_option maxHeartbeats 1000000 in
theorem rsign_any (c : UInt8) (w : World) : Calls Tryz.prog 51 #[.int .u8 c.toNat] w fun e w' => e = .returned (.bool (sgnB c)) ∧ w = w' := by
  have hc := b_lt c
  have h : sgnB c = decide (c.toNat = 61 ∨ c.toNat = 59 ∨ c.toNat = 124 ∨ c.toNat = 40 ∨ c.toNat = 41 ∨ c.toNat = 63 ∨ c.toNat = 42 ∨ c.toNat = 43) := by
    unfold sgnB
    simp only [beq_n]
    rw [Bool.eq_iff_iff]
    simp [or_assoc]
  rw [h]
  clear h
  generalize c.toNat = n at *
  have h : n = 61 ∨ n = 59 ∨ n = 124 ∨ n = 40 ∨ n = 41 ∨ n = 63 ∨ n = 42 ∨ n = 43 ∨ (n ≠ 61 ∧ n ≠ 59 ∧ n ≠ 124 ∧ n ≠ 40 ∧ n ≠ 41 ∧ n ≠ 63 ∧ n ≠ 42 ∧ n ≠ 43) := by omega
  rcases h with rfl | rfl | rfl | rfl | rfl | rfl | rfl | rfl | ⟨h1, h2, h3, h4, h5, h6, h7, h8⟩
  · go_enter Tryz.func51, Tryz.ntmps51
    go_wp2
    go_rounds 1
    go_ret
    exact ⟨rfl, rfl⟩
  · go_enter Tryz.func51, Tryz.ntmps51
    go_wp2
    go_rounds 2
    go_ret
    exact ⟨rfl, rfl⟩
  · go_enter Tryz.func51, Tryz.ntmps51
    go_wp2
    go_rounds 3
    go_ret
    exact ⟨rfl, rfl⟩
  · go_enter Tryz.func51, Tryz.ntmps51
    go_wp2
    go_rounds 4
    go_ret
    exact ⟨rfl, rfl⟩
  · go_enter Tryz.func51, Tryz.ntmps51
    go_wp2
    go_rounds 5
    go_ret
    exact ⟨rfl, rfl⟩
  · go_enter Tryz.func51, Tryz.ntmps51
    go_wp2
    go_rounds 6
    go_ret
    exact ⟨rfl, rfl⟩
  · go_enter Tryz.func51, Tryz.ntmps51
    go_wp2
    go_rounds 7
    go_ret
    exact ⟨rfl, rfl⟩
  · go_enter Tryz.func51, Tryz.ntmps51
    go_wp2
    go_rounds 8
    go_ret
    exact ⟨rfl, rfl⟩
  · have k1 : ((61 : Int) == (n : Int)) = false := by rw [beq_eq_false_iff_ne]; omega
    have k2 : ((59 : Int) == (n : Int)) = false := by rw [beq_eq_false_iff_ne]; omega
    have k3 : ((124 : Int) == (n : Int)) = false := by rw [beq_eq_false_iff_ne]; omega
    have k4 : ((40 : Int) == (n : Int)) = false := by rw [beq_eq_false_iff_ne]; omega
    have k5 : ((41 : Int) == (n : Int)) = false := by rw [beq_eq_false_iff_ne]; omega
    have k6 : ((63 : Int) == (n : Int)) = false := by rw [beq_eq_false_iff_ne]; omega
    have k7 : ((42 : Int) == (n : Int)) = false := by rw [beq_eq_false_iff_ne]; omega
    have k8 : ((43 : Int) == (n : Int)) = false := by rw [beq_eq_false_iff_ne]; omega
    have e : decide (n = 61 ∨ n = 59 ∨ n = 124 ∨ n = 40 ∨ n = 41 ∨ n = 63 ∨ n = 42 ∨ n = 43) = false := by rw [decide_eq_false_iff_not]; omega
    rw [e]
    clear e h1 h2 h3 h4 h5 h6 h7 h8
    go_enter Tryz.func51, Tryz.ntmps51
    go_wp2
    go_rounds 9
    go_ret
    exact ⟨rfl, rfl⟩
set_option maxRecDepth 100000 in
set_option maxHeartbeats 2000000 in
theorem rskip_any (s : ByteArray) (hs : s.size ≤ maxLen) (a : Nat) (ha : a ≤ s.size) (w : World) : Calls Tryz.prog 28 #[.string s, .int .i64 a] w fun e w' => e = .returned (.int .i64 (nxt s.data.toList a : Nat)) ∧ w = w' := by
  unfold maxLen at hs
  unfold nxt
  go_enter Tryz.func28, Tryz.ntmps28
  go_wp2
  go_loop [1, 5] (fun i r => ∃ (k : Nat) (x : Bool), i = .int .i64 k ∧ r = .bool x ∧ k ≤ s.size ∧ a + runN skipS false (s.data.toList.drop a) = k + runN skipS x (s.data.toList.drop k)) (fun i _ => s.size - (intOf i).toNat)
  case atStart => exact ⟨a, false, rfl, rfl, ha, rfl⟩
  case round =>
    obtain ⟨k, x, rfl, rfl, hk, hsum⟩ := hrel
    have HM := Lib.hid hsum
    clear hsum
    by_cases hlt : k < s.size
    · have HD := Lib.hid (bytes_drop s k hlt)
      have hb := b_lt s[k]
      have HR : Hid (∀ x : Bool, runN skipS x (s[k] :: s.data.toList.drop (k + 1)) = if (skipS x s[k]).1 = true then runN skipS (skipS x s[k]).2 (s.data.toList.drop (k + 1)) + 1 else 0) := Lib.hid (fun x => rfl)
      have HK : Hid (∀ x : Bool, skipS x s[k] = ((decide (s[k].toNat = 35) || (x && decide (s[k].toNat ≠ 10))) || decide (s[k].toNat = 32 ∨ s[k].toNat = 9 ∨ s[k].toNat = 13 ∨ s[k].toNat = 10), decide (s[k].toNat = 35) || (x && decide (s[k].toNat ≠ 10)))) := Lib.hid (fun x => by
        have e1 : (s[k] == 35 || (x && s[k] != 10)) = (decide (s[k].toNat = 35) || (x && decide (s[k].toNat ≠ 10))) := by
          rw [beq_n]
          congr 2
          rw [Bool.eq_iff_iff]
          simp [← UInt8.toNat_inj]
        unfold skipS
        rw [e1, blk_n])
      have h : s[k].toNat = 35 ∨ s[k].toNat = 10 ∨ s[k].toNat = 32 ∨ s[k].toNat = 9 ∨ s[k].toNat = 13 ∨ (s[k].toNat ≠ 35 ∧ s[k].toNat ≠ 10 ∧ s[k].toNat ≠ 32 ∧ s[k].toNat ≠ 9 ∧ s[k].toNat ≠ 13) := by omega
      rcases h with h | h | h | h | h | ⟨h1, h2, h3, h4, h5⟩
      · have HS : Hid (runN skipS x (s.data.toList.drop k) = runN skipS true (s.data.toList.drop (k + 1)) + 1) := Lib.hid (by rw [HD.out, HR.out, HK.out, h]; cases x <;> rfl)
        clear HR HK HD hb
        go_wp2_with fail
        exact ⟨⟨k + 1, true, by go_num, rfl, hlt, by have := HM.out; have := HS.out; omega⟩, by simp only [intOf]; omega⟩
      · have HS : Hid (runN skipS x (s.data.toList.drop k) = runN skipS false (s.data.toList.drop (k + 1)) + 1) := Lib.hid (by rw [HD.out, HR.out, HK.out, h]; cases x <;> rfl)
        clear HR HK HD hb
        go_wp2_with fail
        exact ⟨⟨k + 1, false, by go_num, rfl, hlt, by have := HM.out; have := HS.out; omega⟩, by simp only [intOf]; omega⟩
      · cases x
        · have HS : Hid (runN skipS false (s.data.toList.drop k) = runN skipS false (s.data.toList.drop (k + 1)) + 1) := Lib.hid (by rw [HD.out, HR.out, HK.out, h]; rfl)
          clear HR HK HD hb
          go_wp2_with fail
          exact ⟨⟨k + 1, false, by go_num, rfl, hlt, by have := HM.out; have := HS.out; omega⟩, by simp only [intOf]; omega⟩
        · have HS : Hid (runN skipS true (s.data.toList.drop k) = runN skipS true (s.data.toList.drop (k + 1)) + 1) := Lib.hid (by rw [HD.out, HR.out, HK.out, h]; rfl)
          clear HR HK HD hb
          go_wp2_with fail
          exact ⟨⟨k + 1, true, by go_num, rfl, hlt, by have := HM.out; have := HS.out; omega⟩, by simp only [intOf]; omega⟩
      · cases x
        · have HS : Hid (runN skipS false (s.data.toList.drop k) = runN skipS false (s.data.toList.drop (k + 1)) + 1) := Lib.hid (by rw [HD.out, HR.out, HK.out, h]; rfl)
          clear HR HK HD hb
          go_wp2_with fail
          exact ⟨⟨k + 1, false, by go_num, rfl, hlt, by have := HM.out; have := HS.out; omega⟩, by simp only [intOf]; omega⟩
        · have HS : Hid (runN skipS true (s.data.toList.drop k) = runN skipS true (s.data.toList.drop (k + 1)) + 1) := Lib.hid (by rw [HD.out, HR.out, HK.out, h]; rfl)
          clear HR HK HD hb
          go_wp2_with fail
          exact ⟨⟨k + 1, true, by go_num, rfl, hlt, by have := HM.out; have := HS.out; omega⟩, by simp only [intOf]; omega⟩
      · cases x
        · have HS : Hid (runN skipS false (s.data.toList.drop k) = runN skipS false (s.data.toList.drop (k + 1)) + 1) := Lib.hid (by rw [HD.out, HR.out, HK.out, h]; rfl)
          clear HR HK HD hb
          go_wp2_with fail
          exact ⟨⟨k + 1, false, by go_num, rfl, hlt, by have := HM.out; have := HS.out; omega⟩, by simp only [intOf]; omega⟩
        · have HS : Hid (runN skipS true (s.data.toList.drop k) = runN skipS true (s.data.toList.drop (k + 1)) + 1) := Lib.hid (by rw [HD.out, HR.out, HK.out, h]; rfl)
          clear HR HK HD hb
          go_wp2_with fail
          exact ⟨⟨k + 1, true, by go_num, rfl, hlt, by have := HM.out; have := HS.out; omega⟩, by simp only [intOf]; omega⟩
      · have k1 : ((s[k].toNat : Int) == 35) = false := by rw [beq_eq_false_iff_ne]; omega
        have k2 : ((s[k].toNat : Int) == 10) = false := by rw [beq_eq_false_iff_ne]; omega
        have k3 : ((s[k].toNat : Int) != 32) = true := by rw [bne_iff_ne]; omega
        have k4 : ((s[k].toNat : Int) != 9) = true := by rw [bne_iff_ne]; omega
        have k5 : ((s[k].toNat : Int) != 13) = true := by rw [bne_iff_ne]; omega
        have k6 : ((s[k].toNat : Int) != 10) = true := by rw [bne_iff_ne]; omega
        have e1 : decide (s[k].toNat = 35) = false := decide_eq_false h1
        have e2 : decide (s[k].toNat ≠ 10) = true := decide_eq_true h2
        have e3 : decide (s[k].toNat = 32 ∨ s[k].toNat = 9 ∨ s[k].toNat = 13 ∨ s[k].toNat = 10) = false := decide_eq_false (by omega)
        cases x
        · have HS : Hid (runN skipS false (s.data.toList.drop k) = 0) := Lib.hid (by rw [HD.out, HR.out, HK.out, e1, e2, e3]; rfl)
          clear HR HK HD hb e1 e2 e3 h1 h2 h3 h4 h5
          go_wp2_with fail
          go_ret
          exact ⟨ret_int (by have := HM.out; have := HS.out; omega), rfl⟩
        · have HS : Hid (runN skipS true (s.data.toList.drop k) = runN skipS true (s.data.toList.drop (k + 1)) + 1) := Lib.hid (by rw [HD.out, HR.out, HK.out, e1, e2, e3]; rfl)
          clear HR HK HD hb e1 e2 e3 h1 h2 h3 h4 h5
          go_wp2_with fail
          exact ⟨⟨k + 1, true, by go_num, rfl, hlt, by have := HM.out; have := HS.out; omega⟩, by simp only [intOf]; omega⟩
    · obtain rfl : k = s.size := by omega
      go_wp2
      go_ret
      have h := HM.out
      rw [show s.data.toList.drop s.size = [] from List.drop_eq_nil_of_le (by simp)] at h
      have h0 : runN skipS x [] = 0 := rfl
      exact ⟨ret_int (by omega), rfl⟩
end Go.Proofs.YtffbkhebkhbanaaGreatDoor.lx
