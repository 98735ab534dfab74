import Derived.Test.YtjddjdpgnoebnaaGreatDoorLxj
namespace Go.Proofs.YtjddjdpgnoebnaaGreatDoor.lx
open Go.ChangeShapes Go.WideShapes Go.ChangeAt Go.RowKit
set_option linter.unusedVariables false
attribute [local go_sem] run_store_float
def tok0 : Array Value := #[.int .i64 0, .int .i64 0, .string ⟨#[]⟩, .float .f64 0]
theorem tok_cells {w : World} {g : Nat} (h : Blk w g 36 tok0) : (w.cell? ⟨g, 0, none⟩ = some (.int .i64 0) ∧ w.cell? ⟨g, 1, none⟩ = some (.int .i64 0) ∧ w.cell? ⟨g, 2, none⟩ = some (.string ⟨#[]⟩) ∧ w.cell? ⟨g, 3, none⟩ = some (.float .f64 0)) ∧ (w.frozen? ⟨g, 0, none⟩ = false ∧ w.frozen? ⟨g, 1, none⟩ = false ∧ w.frozen? ⟨g, 2, none⟩ = false ∧ w.frozen? ⟨g, 3, none⟩ = false) :=
  ⟨⟨h.cell 0, h.cell 1, h.cell 2, h.cell 3⟩, h.frozen 0, h.frozen 1, h.frozen 2, h.frozen 3⟩
set_option maxRecDepth 100000 in
set_option maxHeartbeats 2000000 in
theorem weight_any (s : ByteArray) (hs : s.size ≤ maxLen) (a n : Nat) (ha : a < s.size) (hn : runP wgtB (s.data.toList.drop (a + 1)) = n) (w : World) (b off : Nat) (hv : Vs w b off) : Calls Tryz.prog 48 #[.string s, .int .i64 a] w fun e w' => e = .returned (if readOk ((s.data.toList.drop (a + 1)).take n) = true then .tuple #[TV 3 0 ((s.data.toList.drop (a + 1)).take n) (readF ((s.data.toList.drop (a + 1)).take n)), .int .i64 (a + n + 1 : Nat), .int .i64 0] else .tuple #[TV 0 0 [] 0, .int .i64 0, .int .i64 4]) ∧ Below w.heap.size w w' := by
  have hr := fun w => run_weight s hs (a + 1) (by omega) w
  rw [hn] at hr
  have hle := runP_le wgtB (s.data.toList.drop (a + 1))
  rw [hn, List.length_drop, show s.data.toList.length = s.size by simp] at hle
  have hx := ext_S s (a + 1) (a + 1 + n)
  rw [show a + 1 + n - (a + 1) = n from by omega] at hx
  have hl := ext_list s (a + 1) (a + 1 + n)
  rw [show a + 1 + n - (a + 1) = n from by omega] at hl
  have hrd := fun w1 (h : Vs w1 b off) => read_any (s.extract (a + 1) (a + 1 + n)) (by simp [ByteArray.size_extract]; omega) w1 b off h
  rw [hl] at hrd
  unfold maxLen at hs
  unfold TV
  rw [← hx]
  clear hx hn hl
  generalize readF ((s.data.toList.drop (a + 1)).take n) = f at *
  generalize hok : readOk ((s.data.toList.drop (a + 1)).take n) = ok at *
  have HV := Lib.hid hv
  have HR := Lib.hid hrd
  clear hv hrd hok
  have hv1 : ∀ o, Vs (w.alloc o) b off := fun o => HV.out.below ((Below.refl _ _).alloc (Nat.le_refl _) _)
  have HV1 := Lib.hid hv1
  clear hv1
  cases ok
  · rw [if_neg (by decide)]
    go_enter Tryz.func48, Tryz.ntmps48
    go_wp2_with (go_at_call 31; refine (hr _).mono ?_; rintro e w1 ⟨rfl, rfl⟩)
    refine (HR.out _ (HV1.out _)).mono ?_
    rintro e w1 ⟨rfl, hb⟩
    obtain ⟨⟨c0, c1, c2, c3⟩, f0, f1, f2, f3⟩ := tok_cells (Blk.below (Blk.new w 36 tok0) hb (by simp))
    have hB : Below w.heap.size w w1 := ((Below.refl _ _).alloc (Nat.le_refl _) _).trans (hb.mono (by simp))
    have HB := Lib.hid hB
    clear hb hB hr
    go_wp2_with fail
    refine bodyPost_ret (v := .tuple #[.agg #[.int .i64 0, .int .i64 0, .string ⟨#[]⟩, .float .f64 0], .int .i64 0, .int .i64 4]) (by simp [results, Tryz.results48, go_sem, c0, c1, c2, c3]) rfl ⟨rfl, ?_⟩
    exact (((HB.out.setCell (Nat.le_refl _) _).setCell (Nat.le_refl _) _).setCell (Nat.le_refl _) _).setCell (Nat.le_refl _) _
  · rw [if_pos rfl]
    go_enter Tryz.func48, Tryz.ntmps48
    go_wp2_with (go_at_call 31; refine (hr _).mono ?_; rintro e w1 ⟨rfl, rfl⟩)
    refine (HR.out _ (HV1.out _)).mono ?_
    rintro e w1 ⟨rfl, hb⟩
    obtain ⟨⟨c0, c1, c2, c3⟩, f0, f1, f2, f3⟩ := tok_cells (Blk.below (Blk.new w 36 tok0) hb (by simp))
    have hB : Below w.heap.size w w1 := ((Below.refl _ _).alloc (Nat.le_refl _) _).trans (hb.mono (by simp))
    have HB := Lib.hid hB
    clear hb hB hr
    go_wp2_with fail
    refine bodyPost_ret (v := .tuple #[.agg #[.int .i64 3, .int .i64 0, .string (s.extract (a + 1) (a + 1 + n)), .float .f64 f], .int .i64 (a + n + 1 : Nat), .int .i64 0]) (by simp [results, Tryz.results48, go_sem, c0, c1, c2, c3]; omega) rfl ⟨rfl, ?_⟩
    exact (((HB.out.setCell (Nat.le_refl _) _).setCell (Nat.le_refl _) _).setCell (Nat.le_refl _) _).setCell (Nat.le_refl _) _
def wordV (a : Nat) (x : Except Nat (Nat × List UInt8 × Nat × Nat)) : Value :=
  match x with
  | .ok (k, t, w, n) => .tuple #[TV k 0 t w, .int .i64 (a + n + 1 : Nat), .int .i64 0]
  | .error e => .tuple #[TV 0 0 [] 0, .int .i64 0, .int .i64 e]
theorem wordV_form (a : Nat) (x : Except Nat (Nat × List UInt8 × Nat × Nat)) : ∃ (k : Int) (t : ByteArray) (f : Nat) (e c : Int), wordV a x = .tuple #[.agg #[.int .i64 k, .int .i64 0, .string t, .float .f64 f], .int .i64 e, .int .i64 c] := by
  cases x with
  | error e => exact ⟨_, _, _, _, _, rfl⟩
  | ok x =>
    obtain ⟨k, t, w, n⟩ := x
    exact ⟨_, _, _, _, _, rfl⟩
theorem word_cons (c : UInt8) (r : List UInt8) : wordAt (c :: r) = (if letB c then (if runP namB r + 1 ≤ 24 then .ok (1, (c :: r).take (runP namB r + 1), 0, runP namB r) else .error 1)
    else if c == 39 then
      (if runP quoB r = 0 ∨ (r.drop (runP quoB r)).head? ≠ some 39 then .error 3
      else if runP quoB r ≤ 16 then .ok (2, r.take (runP quoB r), 0, runP quoB r + 1) else .error 1)
    else if c == 37 then (if readOk (r.take (runP wgtB r)) then .ok (3, r.take (runP wgtB r), readF (r.take (runP wgtB r)), runP wgtB r) else .error 4)
    else if sgnB c then .ok (4, [c], 0, 0)
    else .error 2) := rfl
theorem l39 : ¬ letB 39 = true := by decide
theorem l37 : ¬ letB 37 = true := by decide
theorem l37' : ¬ (((37 : UInt8) == 39) = true) := by decide
theorem word_39 (r : List UInt8) : wordAt (39 :: r) = (if runP quoB r = 0 ∨ (r.drop (runP quoB r)).head? ≠ some 39 then .error 3 else if runP quoB r ≤ 16 then .ok (2, r.take (runP quoB r), 0, runP quoB r + 1) else .error 1) := by
  rw [word_cons, if_neg l39, if_pos (by rfl)]
theorem word_37 (r : List UInt8) : wordAt (37 :: r) = (if readOk (r.take (runP wgtB r)) then .ok (3, r.take (runP wgtB r), readF (r.take (runP wgtB r)), runP wgtB r) else .error 4) := by
  rw [word_cons, if_neg l37, if_neg l37', if_pos (by rfl)]
theorem word_let (c : UInt8) (r : List UInt8) (h : letB c = true) : wordAt (c :: r) = (if runP namB r + 1 ≤ 24 then .ok (1, (c :: r).take (runP namB r + 1), 0, runP namB r) else .error 1) := by
  rw [word_cons, if_pos h]
theorem letB_ne {c : UInt8} (h : letB c = true) : c ≠ 39 ∧ c ≠ 37 := by
  constructor <;> (rintro rfl; revert h; decide)
theorem name_w (s : ByteArray) (hs : s.size ≤ maxLen) (a : Nat) (ha : a < s.size) (hc : letB s[a] = true) (w : World) : Calls Tryz.prog 46 #[.string s, .int .i64 a] w fun e w' => e = .returned (wordV a (wordAt (s.data.toList.drop a))) ∧ Below w.heap.size w w' := by
  have hd := bytes_drop s a ha
  have hn : runP namB (s.data.toList.drop a) = runP namB (s.data.toList.drop (a + 1)) + 1 := by
    unfold runP
    rw [hd, List.takeWhile_cons_of_pos (by unfold namB; rw [hc]; rfl)]
    rfl
  refine (name_any s hs a _ (by omega) hn w).mono fun e w' ⟨h1, h2⟩ => ⟨?_, h2⟩
  rw [h1]
  congr 1
  rw [hd]
  rw [word_let _ _ hc]
  generalize runP namB (s.data.toList.drop (a + 1)) = n
  by_cases h1 : n + 1 ≤ 24
  · rw [if_pos h1, if_pos h1]
    rfl
  · rw [if_neg h1, if_neg h1]
    rfl
theorem quote_w (s : ByteArray) (hs : s.size ≤ maxLen) (a : Nat) (ha : a < s.size) (hc : s[a] = 39) (w : World) : Calls Tryz.prog 47 #[.string s, .int .i64 a] w fun e w' => e = .returned (wordV a (wordAt (s.data.toList.drop a))) ∧ Below w.heap.size w w' := by
  have hd := bytes_drop s a ha
  refine (quote_any s hs a _ ha rfl w).mono fun e w' ⟨h1, h2⟩ => ⟨?_, h2⟩
  rw [h1]
  congr 1
  rw [hd, hc]
  rw [word_39]
  generalize runP quoB (s.data.toList.drop (a + 1)) = n
  by_cases h1 : n = 0 ∨ ((s.data.toList.drop (a + 1)).drop n).head? ≠ some 39
  · rw [if_pos h1, if_pos h1]
    rfl
  · rw [if_neg h1, if_neg h1]
    by_cases h2 : n ≤ 16
    · rw [if_pos h2, if_pos h2]
      rfl
    · rw [if_neg h2, if_neg h2]
      rfl
theorem weight_w (s : ByteArray) (hs : s.size ≤ maxLen) (a : Nat) (ha : a < s.size) (hc : s[a] = 37) (w : World) (b off : Nat) (hv : Vs w b off) : Calls Tryz.prog 48 #[.string s, .int .i64 a] w fun e w' => e = .returned (wordV a (wordAt (s.data.toList.drop a))) ∧ Below w.heap.size w w' := by
  have hd := bytes_drop s a ha
  refine (weight_any s hs a _ ha rfl w b off hv).mono fun e w' ⟨h1, h2⟩ => ⟨?_, h2⟩
  rw [h1]
  congr 1
  rw [hd, hc]
  rw [word_37]
  generalize runP wgtB (s.data.toList.drop (a + 1)) = n
  by_cases h1 : readOk ((s.data.toList.drop (a + 1)).take n) = true
  · rw [if_pos h1, if_pos h1]
    rfl
  · rw [if_neg h1, if_neg h1]
    rfl
set_option maxRecDepth 100000 in
set_option maxHeartbeats 2000000 in
theorem next_any (s : ByteArray) (hs : s.size ≤ maxLen) (a : Nat) (ha : a < s.size) (w : World) (b off : Nat) (hv : Vs w b off) : Calls Tryz.prog 27 #[.string s, .int .i64 a] w fun e w' => e = .returned (wordV a (wordAt (s.data.toList.drop a))) ∧ Below w.heap.size w w' := by
  have hlt := letter_n s[a].toNat (b_lt _)
  rw [← let_n] at hlt
  have hnm := name_w s hs a ha
  have hqt := quote_w s hs a ha
  have hwt := weight_w s hs a ha
  have hsg := sign_any s[a]
  have hd := bytes_drop s a ha
  have hx := ext_S s a (a + 1)
  rw [show a + 1 - a = 1 from by omega, hd] at hx
  replace hx : s.extract a (a + 1) = S [s[a]] := hx
  have hwo : ∀ c, s[a] = c → wordAt (s.data.toList.drop a) = wordAt (c :: s.data.toList.drop (a + 1)) := fun c e => by rw [hd, e]
  obtain ⟨k, t, f, e, c, hf⟩ := wordV_form a (wordAt (s.data.toList.drop a))
  have HW := Lib.hid hwo
  have HF := Lib.hid hf
  rw [hf] at hnm hqt hwt ⊢
  have HNM := Lib.hid hnm
  have HQT := Lib.hid hqt
  have HWT := Lib.hid hwt
  have HSG := Lib.hid hsg
  have HX := Lib.hid hx
  have HV := Lib.hid hv
  unfold maxLen at hs
  clear hnm hqt hwt hsg hd hx hwo hf hv
  cases h1 : letB s[a]
  · rw [h1] at hlt
    by_cases h2 : s[a] = 39
    · have k2 : ((s[a].toNat : Int) == 39) = true := by rw [h2]; rfl
      have HQ1 := Lib.hid (HQT.out h2)
      clear h1 h2
      go_enter Tryz.func27, Tryz.ntmps27
      go_wp2_with (go_at_call 30; refine (hlt _).mono ?_; rintro e w1 ⟨rfl, rfl⟩)
      refine (HQ1.out _).mono ?_
      rintro e w1 ⟨rfl, hb⟩
      obtain ⟨⟨c0, c1, c2, c3⟩, f0, f1, f2, f3⟩ := tok_cells (Blk.below (Blk.new w 36 tok0) hb (by simp))
      have hB : Below w.heap.size w w1 := ((Below.refl _ _).alloc (Nat.le_refl _) _).trans (hb.mono (by simp))
      have HB := Lib.hid hB
      clear hb hB
      go_wp2_with fail
      refine bodyPost_ret (v := .tuple #[.agg #[.int .i64 k, .int .i64 0, .string t, .float .f64 f], .int .i64 e, .int .i64 c]) (by simp [results, Tryz.results27, go_sem, c0, c1, c2, c3]) rfl ⟨rfl, ?_⟩
      exact (((HB.out.setCell (Nat.le_refl _) _).setCell (Nat.le_refl _) _).setCell (Nat.le_refl _) _).setCell (Nat.le_refl _) _
    · have k2 : ((s[a].toNat : Int) == 39) = false := by
        rw [beq_eq_false_iff_ne]
        intro e
        exact h2 (UInt8.toNat_inj.1 (by rw [show s[a].toNat = 39 from by omega]; rfl))
      by_cases h3 : s[a] = 37
      · have k3 : ((s[a].toNat : Int) == 37) = true := by rw [h3]; rfl
        have hw1 : Vs (w.alloc (.cells tok0 36)) b off := HV.out.below ((Below.refl _ _).alloc (Nat.le_refl _) _)
        have HW1 := Lib.hid (HWT.out h3 _ b off hw1)
        clear hw1 h1 h2 h3
        go_enter Tryz.func27, Tryz.ntmps27
        go_wp2_with (go_at_call 30; refine (hlt _).mono ?_; rintro e w1 ⟨rfl, rfl⟩)
        refine HW1.out.mono ?_
        rintro e w1 ⟨rfl, hb⟩
        obtain ⟨⟨c0, c1, c2, c3⟩, f0, f1, f2, f3⟩ := tok_cells (Blk.below (Blk.new w 36 tok0) hb (by simp))
        have hB : Below w.heap.size w w1 := ((Below.refl _ _).alloc (Nat.le_refl _) _).trans (hb.mono (by simp))
        have HB := Lib.hid hB
        clear hb hB
        go_wp2_with fail
        refine bodyPost_ret (v := .tuple #[.agg #[.int .i64 k, .int .i64 0, .string t, .float .f64 f], .int .i64 e, .int .i64 c]) (by simp [results, Tryz.results27, go_sem, c0, c1, c2, c3]) rfl ⟨rfl, ?_⟩
        exact (((HB.out.setCell (Nat.le_refl _) _).setCell (Nat.le_refl _) _).setCell (Nat.le_refl _) _).setCell (Nat.le_refl _) _
      · have k3 : ((s[a].toNat : Int) == 37) = false := by
          rw [beq_eq_false_iff_ne]
          intro e
          exact h3 (UInt8.toNat_inj.1 (by rw [show s[a].toNat = 37 from by omega]; rfl))
        have hg := HSG.out
        cases h4 : sgnB s[a]
        · rw [h4] at hg
          have HZ : Hid (wordV a (wordAt (s.data.toList.drop a)) = .tuple #[.agg #[.int .i64 0, .int .i64 0, .string ⟨#[]⟩, .float .f64 0], .int .i64 0, .int .i64 2]) := Lib.hid (by
            rw [HW.out _ rfl]
            rw [word_cons, h1, h4, beq_eq_false_iff_ne.2 h2, beq_eq_false_iff_ne.2 h3]
            rfl)
          rw [← HF.out, HZ.out]
          clear h2 h3 h4 h1
          go_enter Tryz.func27, Tryz.ntmps27
          go_wp2_with (first | (go_at_call 30; refine (hlt _).mono ?_; rintro e w1 ⟨rfl, rfl⟩) | (go_at_call 49; refine (hg _).mono ?_; rintro e w2 ⟨rfl, rfl⟩))
          refine bodyPost_ret (v := .tuple #[.agg #[.int .i64 0, .int .i64 0, .string ⟨#[]⟩, .float .f64 0], .int .i64 0, .int .i64 2]) (by simp [results, Tryz.results27, go_sem]) rfl ⟨rfl, ?_⟩
          go_grown
        · rw [h4] at hg
          have HZ : Hid (wordV a (wordAt (s.data.toList.drop a)) = .tuple #[.agg #[.int .i64 4, .int .i64 0, .string (s.extract a (a + 1)), .float .f64 0], .int .i64 (a + 1 : Nat), .int .i64 0]) := Lib.hid (by
            rw [HW.out _ rfl, HX.out]
            rw [word_cons, h1, h4, beq_eq_false_iff_ne.2 h2, beq_eq_false_iff_ne.2 h3]
            rfl)
          rw [← HF.out, HZ.out]
          clear h2 h3 h4 h1
          go_enter Tryz.func27, Tryz.ntmps27
          go_wp2_with (first | (go_at_call 30; refine (hlt _).mono ?_; rintro e w1 ⟨rfl, rfl⟩) | (go_at_call 49; refine (hg _).mono ?_; rintro e w2 ⟨rfl, rfl⟩))
          refine bodyPost_ret (v := .tuple #[.agg #[.int .i64 4, .int .i64 0, .string (s.extract a (a + 1)), .float .f64 0], .int .i64 (a + 1 : Nat), .int .i64 0]) (by simp [results, Tryz.results27, go_sem]) rfl ⟨rfl, ?_⟩
          go_grown
  · rw [h1] at hlt
    have HQ1 := Lib.hid (HNM.out h1)
    clear h1
    go_enter Tryz.func27, Tryz.ntmps27
    go_wp2_with (go_at_call 30; refine (hlt _).mono ?_; rintro e w1 ⟨rfl, rfl⟩)
    refine (HQ1.out _).mono ?_
    rintro e w1 ⟨rfl, hb⟩
    obtain ⟨⟨c0, c1, c2, c3⟩, f0, f1, f2, f3⟩ := tok_cells (Blk.below (Blk.new w 36 tok0) hb (by simp))
    have hB : Below w.heap.size w w1 := ((Below.refl _ _).alloc (Nat.le_refl _) _).trans (hb.mono (by simp))
    have HB := Lib.hid hB
    clear hb hB
    go_wp2_with fail
    refine bodyPost_ret (v := .tuple #[.agg #[.int .i64 k, .int .i64 0, .string t, .float .f64 f], .int .i64 e, .int .i64 c]) (by simp [results, Tryz.results27, go_sem, c0, c1, c2, c3]) rfl ⟨rfl, ?_⟩
    exact (((HB.out.setCell (Nat.le_refl _) _).setCell (Nat.le_refl _) _).setCell (Nat.le_refl _) _).setCell (Nat.le_refl _) _
end Go.Proofs.YtjddjdpgnoebnaaGreatDoor.lx
