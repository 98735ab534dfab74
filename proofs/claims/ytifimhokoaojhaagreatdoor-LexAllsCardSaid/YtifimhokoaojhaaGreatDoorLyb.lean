import Derived.Test.YtifimhokoaojhaaGreatDoorLya
namespace Go.Proofs.YtifimhokoaojhaaGreatDoor.lx
open Go.ChangeShapes Go.WideShapes Go.ChangeAt Go.RowKit
set_option linter.unusedVariables false
attribute [local go_sem] run_store_float
theorem own_len {w : World} {base size n : Nat} {e : TypeId} {v : Value} {xs : List Value} (h : w.ownsRow base e size v n xs) : n ≤ maxLen := by
  obtain ⟨hl, ⟨h1, h2⟩ | ⟨g, cap, cur, hv, hB, hh, hn, hc, r⟩⟩ := h
  · omega
  · omega
set_option maxRecDepth 100000 in
set_option maxHeartbeats 2000000 in
/-- the law LexAlls -/
theorem alls_all (s : ByteArray) (hs : s.size ≤ maxLen) (w : World) (b off : Nat) (hv : Vs w b off) : Calls Tryz.prog 3 #[.string s] w fun e w' => e = .returned (.bool true) ∧ Below w.heap.size w w' := by
  have hal := alive_any w b off hv
  have HV := Lib.hid hv
  have HM := Lib.hid hs
  unfold maxLen at hs
  clear hv
  by_cases hbig : 2000 < s.size ∧ s.size ≤ 65536
  · obtain ⟨hb1, hb2⟩ := hbig
    go_enter Tryz.func3, Tryz.ntmps3
    go_wp2_with fail
    refine hal.mono ?_
    rintro e w1 ⟨rfl, hb1⟩
    have HB1 := Lib.hid hb1
    clear hal hb1
    go_wp2_with fail
    go_ret
    exact ⟨rfl, HB1.out⟩
  · have ha := fun w h => all_any s HM.out w b off h
    have hr := fun w => rall_any s HM.out w
    have HA := Lib.hid ha
    have HR := Lib.hid hr
    clear ha hr
    have hways : s.size ≤ 2000 ∨ (2000 < s.size ∧ 65536 < s.size) := by omega
    clear hbig
    rcases hways with hw | ⟨hw, hw2⟩
    all_goals
      go_enter Tryz.func3, Tryz.ntmps3
      go_wp2_with fail
      refine hal.mono ?_
      rintro e w1 ⟨rfl, hb1⟩
      have HB1 := Lib.hid hb1
      clear hal hb1
      go_wp2_with fail
      refine (HA.out _ (HV.out.below HB1.out)).mono ?_
      rintro e1 w2 ⟨hall, hb2⟩
      unfold AllV at hall
      obtain ⟨⟨ts, e, k⟩, hR⟩ : ∃ R, lexAll s.data.toList = R := ⟨_, rfl⟩
      rw [hR] at hall
      have HQ := Lib.hid hR
      clear hR
      obtain ⟨v1, rfl, ho1⟩ := hall
      have HT1 := Lib.hid (ListT.of_own ho1)
      have HB2 := Lib.hid (HB1.out.trans (hb2.mono HB1.out.size))
      have hz2 := HB2.out.size
      clear hb2 ho1
      go_wp2_with fail
      refine (HR.out _).mono ?_
      rintro e1 w3 ⟨hall, hb3⟩
      unfold RAllV at hall
      rw [HQ.out] at hall
      obtain ⟨v2, rfl, ho2⟩ := hall
      have HF2 := Lib.hid (Blk.below (Blk.new w2 26 #[.int .i64 e, .int .i64 k]) hb3 (by simp))
      have HT1' := Lib.hid ((HT1.out.below ((Below.refl _ _).alloc (Nat.le_refl _) _)).below hb3)
      have HT2 := Lib.hid (ListT.of_rown ho2)
      have HB3 := Lib.hid ((HB2.out.alloc hz2 _).trans (hb3.mono (by simp; omega)))
      have hz3 : w2.heap.size < w3.heap.size := by have := hb3.size; simp at this; omega
      have HLN := Lib.hid (own_len ho2)
      clear hb3 ho2
      go_wp2_with fail
      refine (lsame_any _ _ _ ts HLN.out HT1'.out HT2.out).mono ?_
      rintro e1 w4 ⟨rfl, hb4⟩
      have hF4 := HF2.out.below hb4 hz3
      have f0 : w4.cell? ⟨w2.heap.size, 0, none⟩ = some (.int .i64 e) := hF4.cell 0
      have f1 : w4.cell? ⟨w2.heap.size, 1, none⟩ = some (.int .i64 k) := hF4.cell 1
      have HB4 := Lib.hid (HB3.out.trans (hb4.mono (by omega)))
      have hz4 : w2.heap.size < w4.heap.size := by have := hb4.size; omega
      clear hb4 hF4
      go_wp2_with fail
      go_ret
      exact ⟨rfl, HB4.out⟩
end Go.Proofs.YtifimhokoaojhaaGreatDoor.lx
