import Derived.Test.YtjddjdpgnoebnaaGreatDoorLxn
import Derived.Laws.StructEq
namespace Go.Proofs.YtjddjdpgnoebnaaGreatDoor.lx
open Go.ChangeShapes Go.WideShapes Go.ChangeAt Go.RowKit
set_option linter.unusedVariables false
attribute [local go_sem] run_store_float
theorem run_equalIn_float {P : Program} (w : World) (d : Nat) (t : TypeId) (k k' : FloatKind) (a b : Nat) (h : P.underlying t = some (.float k')) : (Op.equalIn (d + 1) t (.float k a) (.float k b)).run P w = .ok (k.format.order a b == some .eq) w := by
  simp [Op.equalIn, run_underlying h, Op.floatEq]
theorem ford0 : (FloatKind.f64.format.order 0 0 == some Ordering.eq) = true := by decide +kernel
attribute [local go_sem] run_equalIn_float ford0
/-! what a name's text, and a quote's, are -/
theorem skip_stop {c : UInt8} {l : List UInt8} (h1 : c ≠ 35) (h2 : blkB c = false) : runN skipS false (c :: l) = 0 := by
  have e : (skipS false c).1 = false := by
    unfold skipS
    rw [beq_eq_false_iff_ne.2 h1, h2]
    rfl
  unfold runN
  rw [e]
  rfl
theorem let_stop {c : UInt8} (h : letB c = true) : c ≠ 35 ∧ blkB c = false := by
  rw [let_n] at h
  unfold letN at h
  rw [decide_eq_true_iff] at h
  refine ⟨?_, ?_⟩
  · rintro rfl
    revert h
    decide
  · rw [blk_n, decide_eq_false_iff_not]
    omega
theorem takeW_all {p : UInt8 → Bool} {l r : List UInt8} (h : l.all p = true) : (l ++ r).takeWhile p = l ++ r.takeWhile p := by
  rw [List.takeWhile_append_of_pos]
  exact fun a ha => List.all_eq_true.1 h a ha
theorem nxt_end (l : List UInt8) : nxt l l.length = l.length := by
  unfold nxt
  rw [List.drop_length]
  rfl
theorem lex_name (l : List UInt8) (h : isNameB l = true) : lexAll l = ([⟨1, 0, l, 0⟩, ⟨0, l.length, [], 0⟩], 0, 0) := by
  unfold isNameB at h
  simp only [Bool.and_eq_true, decide_eq_true_iff] at h
  obtain ⟨⟨⟨h1, h2⟩, h3⟩, h4⟩ := h
  cases l with
  | nil => simp at h1
  | cons c r =>
    have hc : letB c = true := by simpa using h3
    obtain ⟨s1, s2⟩ := let_stop hc
    have hn0 : nxt (c :: r) 0 = 0 := by
      unfold nxt
      rw [List.drop_zero, skip_stop s1 s2]
    have hr : runP namB r = r.length := by
      have h5 : r.all namB = true := by
        simp only [List.all_cons, Bool.and_eq_true] at h4
        exact h4.2
      have := run_all namB r
      rw [h5] at this
      exact of_decide_eq_true this
    have hw : wordAt ((c :: r).drop 0) = .ok (1, c :: r, 0, r.length) := by
      rw [List.drop_zero, word_let _ _ hc, hr, if_pos (by simpa using h2), List.take_of_length_le (by simp)]
    have hl : (c :: r).length = r.length + 1 := rfl
    unfold lexAll
    rw [if_neg (by omega), hn0, lexA_ok _ 0 1 0 r.length (c :: r) (by omega) hw, Nat.zero_add, ← hl, nxt_end, lexA_end]
theorem lex_quote (l : List UInt8) (h : isQuoteB l = true) : lexAll (39 :: (l ++ [39])) = ([⟨2, 0, l, 0⟩, ⟨0, l.length + 2, [], 0⟩], 0, 0) := by
  unfold isQuoteB at h
  simp only [Bool.and_eq_true, decide_eq_true_iff] at h
  obtain ⟨⟨h1, h2⟩, h4⟩ := h
  have hn0 : nxt (39 :: (l ++ [39])) 0 = 0 := by
    unfold nxt
    rw [List.drop_zero, skip_stop (by decide) (by decide)]
  have hr : runP quoB (l ++ [39]) = l.length := by
    unfold runP
    rw [takeW_all h4, List.takeWhile_cons_of_neg (by decide), List.append_nil]
  have hw : wordAt ((39 :: (l ++ [39])).drop 0) = .ok (2, l, 0, l.length + 1) := by
    rw [List.drop_zero, word_39, hr, if_neg (by
      rw [List.drop_left]
      simp
      rintro rfl
      simp at h1), if_pos h2, List.take_left]
  have hl : (39 :: (l ++ [39]) : List UInt8).length = l.length + 2 := by simp
  have ha : 0 + (l.length + 1) + 1 = (39 :: (l ++ [39]) : List UInt8).length := by omega
  unfold lexAll
  rw [if_neg (by omega), hn0, lexA_ok _ 0 2 0 (l.length + 1) l (by omega) hw, ha, nxt_end, lexA_end, hl]
theorem quoted (s : ByteArray) : ((ByteArray.mk #[39] ++ s) ++ ByteArray.mk #[39]).data.toList = 39 :: (s.data.toList ++ [39]) := by
  simp
set_option maxRecDepth 100000 in
set_option maxHeartbeats 4000000 in
theorem names_all (s : ByteArray) (hs : s.size ≤ maxLen) (w : World) (b off : Nat) (hv : Vs w b off) : Calls Tryz.prog 4 #[.string s] w fun e w' => e = .returned (.bool true) ∧ Below w.heap.size w w' := by
  have hal := alive_any w b off hv
  have HV := Lib.hid hv
  have HM := Lib.hid hs
  unfold maxLen at hs
  clear hv
  by_cases hbig : 100 < s.size
  · go_enter Tryz.func4, Tryz.ntmps4
    go_wp2_with fail
    refine hal.mono ?_
    rintro e w1 ⟨rfl, hb1⟩
    have HB1 := Lib.hid hb1
    clear hal hb1
    go_wp2_with fail
    go_ret
    exact ⟨rfl, HB1.out⟩
  · have n1 := fun w => isname_any s HM.out w
    have n2 := fun w => risname_any s HM.out w
    have q1 := fun w => isquote_any s HM.out w
    have q2 := fun w => risquote_any s HM.out w
    have HN : Hid (isNameB s.data.toList = true → lexAll s.data.toList = ([⟨1, 0, s.data.toList, 0⟩, ⟨0, s.data.toList.length, [], 0⟩], 0, 0)) := Lib.hid (lex_name s.data.toList)
    have HQ : Hid (isQuoteB s.data.toList = true → lexAll (39 :: (s.data.toList ++ [39])) = ([⟨2, 0, s.data.toList, 0⟩, ⟨0, s.data.toList.length + 2, [], 0⟩], 0, 0)) := Lib.hid (lex_quote s.data.toList)
    have a1 := fun w h => all_any s HM.out w b off h
    have HA1 := Lib.hid a1
    clear a1
    have a2 := fun w h => all_any ((ByteArray.mk #[39] ++ s) ++ ByteArray.mk #[39]) (by have e1 : (ByteArray.mk #[39]).size = 1 := rfl; rw [ByteArray.size_append, ByteArray.size_append, e1]; unfold maxLen; omega) w b off h
    have HA2 := Lib.hid a2
    have hql := quoted s
    clear a2
    generalize isNameB s.data.toList = z at *
    generalize isQuoteB s.data.toList = q at *
    have HQL := Lib.hid hql
    clear hql
    go_enter Tryz.func4, Tryz.ntmps4
    go_wp2_with fail
    refine hal.mono ?_
    rintro e w1 ⟨rfl, hb1⟩
    have HB1 := Lib.hid hb1
    clear hal hb1
    go_wp2_with fail
    refine (n1 _).mono ?_
    rintro e w2 ⟨rfl, rfl⟩
    go_wp2_with fail
    refine (n2 _).mono ?_
    rintro e w2 ⟨rfl, rfl⟩
    cases z
    · cases q
      · skip
        go_wp2_with fail
        refine (q1 _).mono ?_
        rintro e w2 ⟨rfl, rfl⟩
        go_wp2_with fail
        refine (q2 _).mono ?_
        rintro e w2 ⟨rfl, rfl⟩
        go_wp2_with fail
        refine (HA1.out _ (HV.out.below HB1.out)).mono ?_
        rintro e w2 ⟨hall, hb2⟩
        unfold AllV at hall
        obtain ⟨v, rfl, hown⟩ := hall
        generalize (((lexAll s.data.toList).2.1 : Nat) : Int) = E1
        generalize (((lexAll s.data.toList).2.2 : Nat) : Int) = A1
        clear hown
        have HB2 := Lib.hid (HB1.out.trans (hb2.mono HB1.out.size))
        have hz2 := HB2.out.size
        clear hb2
        go_wp2_with fail
        refine (n1 _).mono ?_
        rintro e w3 ⟨rfl, rfl⟩
        go_wp2_with fail
        have hv3 : Vs (w2.alloc (.cells #[.int .i64 E1, .int .i64 A1] 26)) b off := HV.out.below (HB2.out.alloc hz2 _)
        refine (HA2.out _ hv3).mono ?_
        rintro e w4 ⟨hall, hb4⟩
        have hF := Blk.below (Blk.new w2 26 #[.int .i64 E1, .int .i64 A1]) hb4 (by simp)
        have f0 := hF.cell 0
        have f1 := hF.cell 1
        have f2 := hF.frozen 0
        have f3 := hF.frozen 1
        have HB4 := Lib.hid ((HB2.out.alloc hz2 _).trans (hb4.mono (by simp; omega)))
        have hz4 : w2.heap.size < w4.heap.size := by have := hb4.size; simp at this; omega
        unfold AllV at hall
        obtain ⟨v4, rfl, hown⟩ := hall
        generalize (((lexAll ((ByteArray.mk #[39] ++ s) ++ ByteArray.mk #[39]).data.toList).2.1 : Nat) : Int) = E4 at *
        generalize (((lexAll ((ByteArray.mk #[39] ++ s) ++ ByteArray.mk #[39]).data.toList).2.2 : Nat) : Int) = A4 at *
        clear hown hb4 hF hv3
        simp at f0 f1
        go_wp2_with fail
        refine (q1 _).mono ?_
        rintro e w5 ⟨rfl, rfl⟩
        go_wp2_with fail
        go_ret
        exact ⟨rfl, (HB4.out.setCell hz2 _).setCell hz2 _⟩
      · skip
        go_wp2_with fail
        refine (q1 _).mono ?_
        rintro e w2 ⟨rfl, rfl⟩
        go_wp2_with fail
        refine (q2 _).mono ?_
        rintro e w2 ⟨rfl, rfl⟩
        go_wp2_with fail
        refine (HA1.out _ (HV.out.below HB1.out)).mono ?_
        rintro e w2 ⟨hall, hb2⟩
        unfold AllV at hall
        obtain ⟨v, rfl, hown⟩ := hall
        generalize (((lexAll s.data.toList).2.1 : Nat) : Int) = E1
        generalize (((lexAll s.data.toList).2.2 : Nat) : Int) = A1
        clear hown
        have HB2 := Lib.hid (HB1.out.trans (hb2.mono HB1.out.size))
        have hz2 := HB2.out.size
        clear hb2
        go_wp2_with fail
        refine (n1 _).mono ?_
        rintro e w3 ⟨rfl, rfl⟩
        go_wp2_with fail
        have hv3 : Vs (w2.alloc (.cells #[.int .i64 E1, .int .i64 A1] 26)) b off := HV.out.below (HB2.out.alloc hz2 _)
        refine (HA2.out _ hv3).mono ?_
        rintro e w4 ⟨hall, hb4⟩
        have hF := Blk.below (Blk.new w2 26 #[.int .i64 E1, .int .i64 A1]) hb4 (by simp)
        have f0 := hF.cell 0
        have f1 := hF.cell 1
        have f2 := hF.frozen 0
        have f3 := hF.frozen 1
        have HB4 := Lib.hid ((HB2.out.alloc hz2 _).trans (hb4.mono (by simp; omega)))
        have hz4 : w2.heap.size < w4.heap.size := by have := hb4.size; simp at this; omega
        unfold AllV at hall
        rw [HQL.out, HQ.out (by first | rfl | trivial)] at hall
        obtain ⟨v4, rfl, hown⟩ := hall
        obtain ⟨g4, cap4, rfl, hgB4, hgl4, hc⟩ := own_open hown (by show 0 < 2; decide)
        have d0 : w4.cell? ⟨g4, 0, none⟩ = some (.int .i64 2) := hc 0 _ rfl
        have d1 : w4.cell? ⟨g4, 1, none⟩ = some (.int .i64 0) := hc 1 _ rfl
        have d2 : w4.cell? ⟨g4, 2, none⟩ = some (.string s) := hc 2 _ rfl
        have d3 : w4.cell? ⟨g4, 3, none⟩ = some (.float .f64 0) := hc 3 _ rfl
        have hgn : g4 ≠ w2.heap.size := by simp at hgB4; omega
        have hgn2 : w2.heap.size ≠ g4 := by omega
        clear hown hb4 hF hv3
        simp at f0 f1
        go_wp2_with fail
        refine (q1 _).mono ?_
        rintro e w5 ⟨rfl, rfl⟩
        go_wp2_with fail
        go_ret
        exact ⟨rfl, (HB4.out.setCell hz2 _).setCell hz2 _⟩
    · cases q
      · skip
        go_wp2_with fail
        refine (q1 _).mono ?_
        rintro e w2 ⟨rfl, rfl⟩
        go_wp2_with fail
        refine (q2 _).mono ?_
        rintro e w2 ⟨rfl, rfl⟩
        go_wp2_with fail
        refine (HA1.out _ (HV.out.below HB1.out)).mono ?_
        rintro e w2 ⟨hall, hb2⟩
        unfold AllV at hall
        rw [HN.out (by first | rfl | trivial)] at hall
        obtain ⟨v, rfl, hown⟩ := hall
        obtain ⟨g, cap, rfl, hgB, hgl, hc⟩ := own_open hown (by show 0 < 2; decide)
        have c0 : w2.cell? ⟨g, 0, none⟩ = some (.int .i64 1) := hc 0 _ rfl
        have c1 : w2.cell? ⟨g, 1, none⟩ = some (.int .i64 0) := hc 1 _ rfl
        have c2 : w2.cell? ⟨g, 2, none⟩ = some (.string s) := hc 2 _ rfl
        have c3 : w2.cell? ⟨g, 3, none⟩ = some (.float .f64 0) := hc 3 _ rfl
        clear hc hown
        have HB2 := Lib.hid (HB1.out.trans (hb2.mono HB1.out.size))
        have hz2 := HB2.out.size
        clear hb2
        go_wp2_with fail
        refine (n1 _).mono ?_
        rintro e w3 ⟨rfl, rfl⟩
        go_wp2_with fail
        clear c0 c1 c2 c3
        have hv3 : Vs (w2.alloc (.cells #[.int .i64 0, .int .i64 0] 26)) b off := HV.out.below (HB2.out.alloc hz2 _)
        refine (HA2.out _ hv3).mono ?_
        rintro e w4 ⟨hall, hb4⟩
        have hF := Blk.below (Blk.new w2 26 #[.int .i64 0, .int .i64 0]) hb4 (by simp)
        have f0 := hF.cell 0
        have f1 := hF.cell 1
        have f2 := hF.frozen 0
        have f3 := hF.frozen 1
        have HB4 := Lib.hid ((HB2.out.alloc hz2 _).trans (hb4.mono (by simp; omega)))
        have hz4 : w2.heap.size < w4.heap.size := by have := hb4.size; simp at this; omega
        unfold AllV at hall
        obtain ⟨v4, rfl, hown⟩ := hall
        generalize (((lexAll ((ByteArray.mk #[39] ++ s) ++ ByteArray.mk #[39]).data.toList).2.1 : Nat) : Int) = E4 at *
        generalize (((lexAll ((ByteArray.mk #[39] ++ s) ++ ByteArray.mk #[39]).data.toList).2.2 : Nat) : Int) = A4 at *
        clear hown hb4 hF hv3
        simp at f0 f1
        go_wp2_with fail
        refine (q1 _).mono ?_
        rintro e w5 ⟨rfl, rfl⟩
        go_wp2_with fail
        go_ret
        exact ⟨rfl, (HB4.out.setCell hz2 _).setCell hz2 _⟩
      · skip
        go_wp2_with fail
        refine (q1 _).mono ?_
        rintro e w2 ⟨rfl, rfl⟩
        go_wp2_with fail
        refine (q2 _).mono ?_
        rintro e w2 ⟨rfl, rfl⟩
        go_wp2_with fail
        refine (HA1.out _ (HV.out.below HB1.out)).mono ?_
        rintro e w2 ⟨hall, hb2⟩
        unfold AllV at hall
        rw [HN.out (by first | rfl | trivial)] at hall
        obtain ⟨v, rfl, hown⟩ := hall
        obtain ⟨g, cap, rfl, hgB, hgl, hc⟩ := own_open hown (by show 0 < 2; decide)
        have c0 : w2.cell? ⟨g, 0, none⟩ = some (.int .i64 1) := hc 0 _ rfl
        have c1 : w2.cell? ⟨g, 1, none⟩ = some (.int .i64 0) := hc 1 _ rfl
        have c2 : w2.cell? ⟨g, 2, none⟩ = some (.string s) := hc 2 _ rfl
        have c3 : w2.cell? ⟨g, 3, none⟩ = some (.float .f64 0) := hc 3 _ rfl
        clear hc hown
        have HB2 := Lib.hid (HB1.out.trans (hb2.mono HB1.out.size))
        have hz2 := HB2.out.size
        clear hb2
        go_wp2_with fail
        refine (n1 _).mono ?_
        rintro e w3 ⟨rfl, rfl⟩
        go_wp2_with fail
        clear c0 c1 c2 c3
        have hv3 : Vs (w2.alloc (.cells #[.int .i64 0, .int .i64 0] 26)) b off := HV.out.below (HB2.out.alloc hz2 _)
        refine (HA2.out _ hv3).mono ?_
        rintro e w4 ⟨hall, hb4⟩
        have hF := Blk.below (Blk.new w2 26 #[.int .i64 0, .int .i64 0]) hb4 (by simp)
        have f0 := hF.cell 0
        have f1 := hF.cell 1
        have f2 := hF.frozen 0
        have f3 := hF.frozen 1
        have HB4 := Lib.hid ((HB2.out.alloc hz2 _).trans (hb4.mono (by simp; omega)))
        have hz4 : w2.heap.size < w4.heap.size := by have := hb4.size; simp at this; omega
        unfold AllV at hall
        rw [HQL.out, HQ.out (by first | rfl | trivial)] at hall
        obtain ⟨v4, rfl, hown⟩ := hall
        obtain ⟨g4, cap4, rfl, hgB4, hgl4, hc⟩ := own_open hown (by show 0 < 2; decide)
        have d0 : w4.cell? ⟨g4, 0, none⟩ = some (.int .i64 2) := hc 0 _ rfl
        have d1 : w4.cell? ⟨g4, 1, none⟩ = some (.int .i64 0) := hc 1 _ rfl
        have d2 : w4.cell? ⟨g4, 2, none⟩ = some (.string s) := hc 2 _ rfl
        have d3 : w4.cell? ⟨g4, 3, none⟩ = some (.float .f64 0) := hc 3 _ rfl
        have hgn : g4 ≠ w2.heap.size := by simp at hgB4; omega
        have hgn2 : w2.heap.size ≠ g4 := by omega
        clear hown hb4 hF hv3
        simp at f0 f1
        go_wp2_with fail
        refine (q1 _).mono ?_
        rintro e w5 ⟨rfl, rfl⟩
        go_wp2_with fail
        go_ret
        exact ⟨rfl, (HB4.out.setCell hz2 _).setCell hz2 _⟩
end Go.Proofs.YtjddjdpgnoebnaaGreatDoor.lx
