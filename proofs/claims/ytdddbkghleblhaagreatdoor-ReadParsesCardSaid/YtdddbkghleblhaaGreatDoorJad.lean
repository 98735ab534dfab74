import Derived.Test.YtdddbkghleblhaaGreatDoorJac
import Derived.Laws.StructEq
namespace Go.Proofs.YtdddbkghleblhaaGreatDoor.lx
open Go.ChangeShapes Go.WideShapes Go.ChangeAt Go.RowKit
set_option linter.unusedVariables false
attribute [local go_sem] run_store_float
def tok0 : Array Value := #[.int .i64 0, .int .i64 0, .string ⟨#[]⟩, .float .f64 0]
theorem tok_cells {w : World} {g : Nat} (h : Blk w g 77 tok0) : (w.cell? ⟨g, 0, none⟩ = some (.int .i64 0) ∧ w.cell? ⟨g, 1, none⟩ = some (.int .i64 0) ∧ w.cell? ⟨g, 2, none⟩ = some (.string ⟨#[]⟩) ∧ w.cell? ⟨g, 3, none⟩ = some (.float .f64 0)) ∧ (w.frozen? ⟨g, 0, none⟩ = false ∧ w.frozen? ⟨g, 1, none⟩ = false ∧ w.frozen? ⟨g, 2, none⟩ = false ∧ w.frozen? ⟨g, 3, none⟩ = false) :=
  ⟨⟨h.cell 0, h.cell 1, h.cell 2, h.cell 3⟩, h.frozen 0, h.frozen 1, h.frozen 2, h.frozen 3⟩
set_option maxRecDepth 100000 in
set_option maxHeartbeats 2000000 in
theorem weight_any (s : ByteArray) (hs : s.size ≤ maxLen) (a n : Nat) (ha : a < s.size) (hn : runP wgtB (s.data.toList.drop (a + 1)) = n) (w : World) (b off : Nat) (hv : Vs w b off) : Calls Tryz.prog 41 #[.string s, .int .i64 a] w fun e w' => e = .returned (if readOk ((s.data.toList.drop (a + 1)).take n) = true then .tuple #[TV 3 0 ((s.data.toList.drop (a + 1)).take n) (readF ((s.data.toList.drop (a + 1)).take n)), .int .i64 (a + n + 1 : Nat), .int .i64 0] else .tuple #[TV 0 0 [] 0, .int .i64 0, .int .i64 4]) ∧ Below w.heap.size w w' := by
  have hr := fun w => run_weight s hs (a + 1) (by omega) w
  rw [hn] at hr
  have hle := runP_le wgtB (s.data.toList.drop (a + 1))
  rw [hn, List.length_drop, show s.data.toList.length = s.size by simp] at hle
  have hx := ext_S s (a + 1) (a + 1 + n)
  rw [show a + 1 + n - (a + 1) = n from by omega] at hx
  have hl := ext_list s (a + 1) (a + 1 + n)
  rw [show a + 1 + n - (a + 1) = n from by omega] at hl
  have hrd := fun w1 (h : Vs w1 b off) => read_any (s.extract (a + 1) (a + 1 + n)) (by simp [ByteArray.size_extract]; omega) w1 b off h
  rw [hl] at hrd
  unfold maxLen at hs
  unfold TV
  rw [← hx]
  clear hx hn hl
  generalize readF ((s.data.toList.drop (a + 1)).take n) = f at *
  generalize hok : readOk ((s.data.toList.drop (a + 1)).take n) = ok at *
  have HV := Lib.hid hv
  have HR := Lib.hid hrd
  clear hv hrd hok
  have hv1 : ∀ o, Vs (w.alloc o) b off := fun o => HV.out.below ((Below.refl _ _).alloc (Nat.le_refl _) _)
  have HV1 := Lib.hid hv1
  clear hv1
  cases ok
  · rw [if_neg (by decide)]
    go_enter Tryz.func41, Tryz.ntmps41
    go_wp2_with (go_at_call 21; refine (hr _).mono ?_; rintro e w1 ⟨rfl, rfl⟩)
    refine (HR.out _ (HV1.out _)).mono ?_
    rintro e w1 ⟨rfl, hb⟩
    obtain ⟨⟨c0, c1, c2, c3⟩, f0, f1, f2, f3⟩ := tok_cells (Blk.below (Blk.new w 77 tok0) hb (by simp))
    have hB : Below w.heap.size w w1 := ((Below.refl _ _).alloc (Nat.le_refl _) _).trans (hb.mono (by simp))
    have HB := Lib.hid hB
    clear hb hB hr
    go_wp2_with fail
    refine bodyPost_ret (v := .tuple #[.agg #[.int .i64 0, .int .i64 0, .string ⟨#[]⟩, .float .f64 0], .int .i64 0, .int .i64 4]) (by simp [results, Tryz.results41, go_sem, c0, c1, c2, c3]) rfl ⟨rfl, ?_⟩
    exact (((HB.out.setCell (Nat.le_refl _) _).setCell (Nat.le_refl _) _).setCell (Nat.le_refl _) _).setCell (Nat.le_refl _) _
  · rw [if_pos rfl]
    go_enter Tryz.func41, Tryz.ntmps41
    go_wp2_with (go_at_call 21; refine (hr _).mono ?_; rintro e w1 ⟨rfl, rfl⟩)
    refine (HR.out _ (HV1.out _)).mono ?_
    rintro e w1 ⟨rfl, hb⟩
    obtain ⟨⟨c0, c1, c2, c3⟩, f0, f1, f2, f3⟩ := tok_cells (Blk.below (Blk.new w 77 tok0) hb (by simp))
    have hB : Below w.heap.size w w1 := ((Below.refl _ _).alloc (Nat.le_refl _) _).trans (hb.mono (by simp))
    have HB := Lib.hid hB
    clear hb hB hr
    go_wp2_with fail
    refine bodyPost_ret (v := .tuple #[.agg #[.int .i64 3, .int .i64 0, .string (s.extract (a + 1) (a + 1 + n)), .float .f64 f], .int .i64 (a + n + 1 : Nat), .int .i64 0]) (by simp [results, Tryz.results41, go_sem, c0, c1, c2, c3]; omega) rfl ⟨rfl, ?_⟩
    exact (((HB.out.setCell (Nat.le_refl _) _).setCell (Nat.le_refl _) _).setCell (Nat.le_refl _) _).setCell (Nat.le_refl _) _
def wordV (a : Nat) (x : Except Nat (Nat × List UInt8 × Nat × Nat)) : Value :=
  match x with
  | .ok (k, t, w, n) => .tuple #[TV k 0 t w, .int .i64 (a + n + 1 : Nat), .int .i64 0]
  | .error e => .tuple #[TV 0 0 [] 0, .int .i64 0, .int .i64 e]
theorem wordV_form (a : Nat) (x : Except Nat (Nat × List UInt8 × Nat × Nat)) : ∃ (k : Int) (t : ByteArray) (f : Nat) (e c : Int), wordV a x = .tuple #[.agg #[.int .i64 k, .int .i64 0, .string t, .float .f64 f], .int .i64 e, .int .i64 c] := by
  cases x with
  | error e => exact ⟨_, _, _, _, _, rfl⟩
  | ok x =>
    obtain ⟨k, t, w, n⟩ := x
    exact ⟨_, _, _, _, _, rfl⟩
theorem word_cons (c : UInt8) (r : List UInt8) : wordAt (c :: r) = (if letB c then (if runP namB r + 1 ≤ 24 then .ok (1, (c :: r).take (runP namB r + 1), 0, runP namB r) else .error 1)
    else if c == 39 then
      (if runP quoB r = 0 ∨ (r.drop (runP quoB r)).head? ≠ some 39 then .error 3
      else if runP quoB r ≤ 16 then .ok (2, r.take (runP quoB r), 0, runP quoB r + 1) else .error 1)
    else if c == 37 then (if readOk (r.take (runP wgtB r)) then .ok (3, r.take (runP wgtB r), readF (r.take (runP wgtB r)), runP wgtB r) else .error 4)
    else if sgnB c then .ok (4, [c], 0, 0)
    else .error 2) := rfl
theorem l39 : ¬ letB 39 = true := by decide
theorem l37 : ¬ letB 37 = true := by decide
theorem l37' : ¬ (((37 : UInt8) == 39) = true) := by decide
theorem word_39 (r : List UInt8) : wordAt (39 :: r) = (if runP quoB r = 0 ∨ (r.drop (runP quoB r)).head? ≠ some 39 then .error 3 else if runP quoB r ≤ 16 then .ok (2, r.take (runP quoB r), 0, runP quoB r + 1) else .error 1) := by
  rw [word_cons, if_neg l39, if_pos (by rfl)]
theorem word_37 (r : List UInt8) : wordAt (37 :: r) = (if readOk (r.take (runP wgtB r)) then .ok (3, r.take (runP wgtB r), readF (r.take (runP wgtB r)), runP wgtB r) else .error 4) := by
  rw [word_cons, if_neg l37, if_neg l37', if_pos (by rfl)]
theorem word_let (c : UInt8) (r : List UInt8) (h : letB c = true) : wordAt (c :: r) = (if runP namB r + 1 ≤ 24 then .ok (1, (c :: r).take (runP namB r + 1), 0, runP namB r) else .error 1) := by
  rw [word_cons, if_pos h]
theorem letB_ne {c : UInt8} (h : letB c = true) : c ≠ 39 ∧ c ≠ 37 := by
  constructor <;> (rintro rfl; revert h; decide)
theorem name_w (s : ByteArray) (hs : s.size ≤ maxLen) (a : Nat) (ha : a < s.size) (hc : letB s[a] = true) (w : World) : Calls Tryz.prog 39 #[.string s, .int .i64 a] w fun e w' => e = .returned (wordV a (wordAt (s.data.toList.drop a))) ∧ Below w.heap.size w w' := by
  have hd := bytes_drop s a ha
  have hn : runP namB (s.data.toList.drop a) = runP namB (s.data.toList.drop (a + 1)) + 1 := by
    unfold runP
    rw [hd, List.takeWhile_cons_of_pos (by unfold namB; rw [hc]; rfl)]
    rfl
  refine (name_any s hs a _ (by omega) hn w).mono fun e w' ⟨h1, h2⟩ => ⟨?_, h2⟩
  rw [h1]
  congr 1
  rw [hd]
  rw [word_let _ _ hc]
  generalize runP namB (s.data.toList.drop (a + 1)) = n
  by_cases h1 : n + 1 ≤ 24
  · rw [if_pos h1, if_pos h1]
    rfl
  · rw [if_neg h1, if_neg h1]
    rfl
theorem quote_w (s : ByteArray) (hs : s.size ≤ maxLen) (a : Nat) (ha : a < s.size) (hc : s[a] = 39) (w : World) : Calls Tryz.prog 40 #[.string s, .int .i64 a] w fun e w' => e = .returned (wordV a (wordAt (s.data.toList.drop a))) ∧ Below w.heap.size w w' := by
  have hd := bytes_drop s a ha
  refine (quote_any s hs a _ ha rfl w).mono fun e w' ⟨h1, h2⟩ => ⟨?_, h2⟩
  rw [h1]
  congr 1
  rw [hd, hc]
  rw [word_39]
  generalize runP quoB (s.data.toList.drop (a + 1)) = n
  by_cases h1 : n = 0 ∨ ((s.data.toList.drop (a + 1)).drop n).head? ≠ some 39
  · rw [if_pos h1, if_pos h1]
    rfl
  · rw [if_neg h1, if_neg h1]
    by_cases h2 : n ≤ 16
    · rw [if_pos h2, if_pos h2]
      rfl
    · rw [if_neg h2, if_neg h2]
      rfl
theorem weight_w (s : ByteArray) (hs : s.size ≤ maxLen) (a : Nat) (ha : a < s.size) (hc : s[a] = 37) (w : World) (b off : Nat) (hv : Vs w b off) : Calls Tryz.prog 41 #[.string s, .int .i64 a] w fun e w' => e = .returned (wordV a (wordAt (s.data.toList.drop a))) ∧ Below w.heap.size w w' := by
  have hd := bytes_drop s a ha
  refine (weight_any s hs a _ ha rfl w b off hv).mono fun e w' ⟨h1, h2⟩ => ⟨?_, h2⟩
  rw [h1]
  congr 1
  rw [hd, hc]
  rw [word_37]
  generalize runP wgtB (s.data.toList.drop (a + 1)) = n
  by_cases h1 : readOk ((s.data.toList.drop (a + 1)).take n) = true
  · rw [if_pos h1, if_pos h1]
    rfl
  · rw [if_neg h1, if_neg h1]
    rfl
set_option maxRecDepth 100000 in
set_option maxHeartbeats 2000000 in
theorem next_any (s : ByteArray) (hs : s.size ≤ maxLen) (a : Nat) (ha : a < s.size) (w : World) (b off : Nat) (hv : Vs w b off) : Calls Tryz.prog 26 #[.string s, .int .i64 a] w fun e w' => e = .returned (wordV a (wordAt (s.data.toList.drop a))) ∧ Below w.heap.size w w' := by
  have hlt := letter_n s[a].toNat (b_lt _)
  rw [← let_n] at hlt
  have hnm := name_w s hs a ha
  have hqt := quote_w s hs a ha
  have hwt := weight_w s hs a ha
  have hsg := sign_any s[a]
  have hd := bytes_drop s a ha
  have hx := ext_S s a (a + 1)
  rw [show a + 1 - a = 1 from by omega, hd] at hx
  replace hx : s.extract a (a + 1) = S [s[a]] := hx
  have hwo : ∀ c, s[a] = c → wordAt (s.data.toList.drop a) = wordAt (c :: s.data.toList.drop (a + 1)) := fun c e => by rw [hd, e]
  obtain ⟨k, t, f, e, c, hf⟩ := wordV_form a (wordAt (s.data.toList.drop a))
  have HW := Lib.hid hwo
  have HF := Lib.hid hf
  rw [hf] at hnm hqt hwt ⊢
  have HNM := Lib.hid hnm
  have HQT := Lib.hid hqt
  have HWT := Lib.hid hwt
  have HSG := Lib.hid hsg
  have HX := Lib.hid hx
  have HV := Lib.hid hv
  unfold maxLen at hs
  clear hnm hqt hwt hsg hd hx hwo hf hv
  cases h1 : letB s[a]
  · rw [h1] at hlt
    by_cases h2 : s[a] = 39
    · have k2 : ((s[a].toNat : Int) == 39) = true := by rw [h2]; rfl
      have HQ1 := Lib.hid (HQT.out h2)
      clear h1 h2
      go_enter Tryz.func26, Tryz.ntmps26
      go_wp2_with (go_at_call 20; refine (hlt _).mono ?_; rintro e w1 ⟨rfl, rfl⟩)
      refine (HQ1.out _).mono ?_
      rintro e w1 ⟨rfl, hb⟩
      obtain ⟨⟨c0, c1, c2, c3⟩, f0, f1, f2, f3⟩ := tok_cells (Blk.below (Blk.new w 77 tok0) hb (by simp))
      have hB : Below w.heap.size w w1 := ((Below.refl _ _).alloc (Nat.le_refl _) _).trans (hb.mono (by simp))
      have HB := Lib.hid hB
      clear hb hB
      go_wp2_with fail
      refine bodyPost_ret (v := .tuple #[.agg #[.int .i64 k, .int .i64 0, .string t, .float .f64 f], .int .i64 e, .int .i64 c]) (by simp [results, Tryz.results26, go_sem, c0, c1, c2, c3]) rfl ⟨rfl, ?_⟩
      exact (((HB.out.setCell (Nat.le_refl _) _).setCell (Nat.le_refl _) _).setCell (Nat.le_refl _) _).setCell (Nat.le_refl _) _
    · have k2 : ((s[a].toNat : Int) == 39) = false := by
        rw [beq_eq_false_iff_ne]
        intro e
        exact h2 (UInt8.toNat_inj.1 (by rw [show s[a].toNat = 39 from by omega]; rfl))
      by_cases h3 : s[a] = 37
      · have k3 : ((s[a].toNat : Int) == 37) = true := by rw [h3]; rfl
        have hw1 : Vs (w.alloc (.cells tok0 77)) b off := HV.out.below ((Below.refl _ _).alloc (Nat.le_refl _) _)
        have HW1 := Lib.hid (HWT.out h3 _ b off hw1)
        clear hw1 h1 h2 h3
        go_enter Tryz.func26, Tryz.ntmps26
        go_wp2_with (go_at_call 20; refine (hlt _).mono ?_; rintro e w1 ⟨rfl, rfl⟩)
        refine HW1.out.mono ?_
        rintro e w1 ⟨rfl, hb⟩
        obtain ⟨⟨c0, c1, c2, c3⟩, f0, f1, f2, f3⟩ := tok_cells (Blk.below (Blk.new w 77 tok0) hb (by simp))
        have hB : Below w.heap.size w w1 := ((Below.refl _ _).alloc (Nat.le_refl _) _).trans (hb.mono (by simp))
        have HB := Lib.hid hB
        clear hb hB
        go_wp2_with fail
        refine bodyPost_ret (v := .tuple #[.agg #[.int .i64 k, .int .i64 0, .string t, .float .f64 f], .int .i64 e, .int .i64 c]) (by simp [results, Tryz.results26, go_sem, c0, c1, c2, c3]) rfl ⟨rfl, ?_⟩
        exact (((HB.out.setCell (Nat.le_refl _) _).setCell (Nat.le_refl _) _).setCell (Nat.le_refl _) _).setCell (Nat.le_refl _) _
      · have k3 : ((s[a].toNat : Int) == 37) = false := by
          rw [beq_eq_false_iff_ne]
          intro e
          exact h3 (UInt8.toNat_inj.1 (by rw [show s[a].toNat = 37 from by omega]; rfl))
        have hg := HSG.out
        cases h4 : sgnB s[a]
        · rw [h4] at hg
          have HZ : Hid (wordV a (wordAt (s.data.toList.drop a)) = .tuple #[.agg #[.int .i64 0, .int .i64 0, .string ⟨#[]⟩, .float .f64 0], .int .i64 0, .int .i64 2]) := Lib.hid (by
            rw [HW.out _ rfl]
            rw [word_cons, h1, h4, beq_eq_false_iff_ne.2 h2, beq_eq_false_iff_ne.2 h3]
            rfl)
          rw [← HF.out, HZ.out]
          clear h2 h3 h4 h1
          go_enter Tryz.func26, Tryz.ntmps26
          go_wp2_with (first | (go_at_call 20; refine (hlt _).mono ?_; rintro e w1 ⟨rfl, rfl⟩) | (go_at_call 42; refine (hg _).mono ?_; rintro e w2 ⟨rfl, rfl⟩))
          refine bodyPost_ret (v := .tuple #[.agg #[.int .i64 0, .int .i64 0, .string ⟨#[]⟩, .float .f64 0], .int .i64 0, .int .i64 2]) (by simp [results, Tryz.results26, go_sem]) rfl ⟨rfl, ?_⟩
          go_grown
        · rw [h4] at hg
          have HZ : Hid (wordV a (wordAt (s.data.toList.drop a)) = .tuple #[.agg #[.int .i64 4, .int .i64 0, .string (s.extract a (a + 1)), .float .f64 0], .int .i64 (a + 1 : Nat), .int .i64 0]) := Lib.hid (by
            rw [HW.out _ rfl, HX.out]
            rw [word_cons, h1, h4, beq_eq_false_iff_ne.2 h2, beq_eq_false_iff_ne.2 h3]
            rfl)
          rw [← HF.out, HZ.out]
          clear h2 h3 h4 h1
          go_enter Tryz.func26, Tryz.ntmps26
          go_wp2_with (first | (go_at_call 20; refine (hlt _).mono ?_; rintro e w1 ⟨rfl, rfl⟩) | (go_at_call 42; refine (hg _).mono ?_; rintro e w2 ⟨rfl, rfl⟩))
          refine bodyPost_ret (v := .tuple #[.agg #[.int .i64 4, .int .i64 0, .string (s.extract a (a + 1)), .float .f64 0], .int .i64 (a + 1 : Nat), .int .i64 0]) (by simp [results, Tryz.results26, go_sem]) rfl ⟨rfl, ?_⟩
          go_grown
  · rw [h1] at hlt
    have HQ1 := Lib.hid (HNM.out h1)
    clear h1
    go_enter Tryz.func26, Tryz.ntmps26
    go_wp2_with (go_at_call 20; refine (hlt _).mono ?_; rintro e w1 ⟨rfl, rfl⟩)
    refine (HQ1.out _).mono ?_
    rintro e w1 ⟨rfl, hb⟩
    obtain ⟨⟨c0, c1, c2, c3⟩, f0, f1, f2, f3⟩ := tok_cells (Blk.below (Blk.new w 77 tok0) hb (by simp))
    have hB : Below w.heap.size w w1 := ((Below.refl _ _).alloc (Nat.le_refl _) _).trans (hb.mono (by simp))
    have HB := Lib.hid hB
    clear hb hB
    go_wp2_with fail
    refine bodyPost_ret (v := .tuple #[.agg #[.int .i64 k, .int .i64 0, .string t, .float .f64 f], .int .i64 e, .int .i64 c]) (by simp [results, Tryz.results26, go_sem, c0, c1, c2, c3]) rfl ⟨rfl, ?_⟩
    exact (((HB.out.setCell (Nat.le_refl _) _).setCell (Nat.le_refl _) _).setCell (Nat.le_refl _) _).setCell (Nat.le_refl _) _
end Go.Proofs.YtdddbkghleblhaaGreatDoor.lx
namespace Go.Proofs.YtdddbkghleblhaaGreatDoor.lx
open Go.ChangeShapes Go.WideShapes Go.ChangeAt Go.RowKit
set_option linter.unusedVariables false
attribute [local go_sem] run_store_float
theorem info_tok : (Tryz.prog.info? 77).map (fun i => (i.zero, i.size, i.bytes)) = some (some (.agg tok0), 4, 40) := by kernel_rfl
def tokC (t : Tok) : List Value := [.int .i64 t.kind, .int .i64 t.at_, .string (S t.text), .float .f64 t.wt]
def tcells (ts : List Tok) : List Value := ts.flatMap tokC
theorem tcells_snoc (ts : List Tok) (t : Tok) : tcells (ts ++ [t]) = tcells ts ++ tokC t := by simp [tcells]
theorem tcells_len (ts : List Tok) : (tcells ts).length = ts.length * 4 := by
  induction ts with
  | nil => rfl
  | cons t ts ih =>
    have : tcells (t :: ts) = tokC t ++ tcells ts := rfl
    rw [this, List.length_append, ih]
    simp [tokC]
    omega
theorem tok_new (w : World) (t : TypeId) (x : Tok) : ∀ j u, (tokC x)[j]? = some u → (w.alloc (.cells (tokC x).toArray t)).cell? ((⟨w.heap.size, 0, none⟩ : Addr).add j) = some u := fun j u h => by
  rw [add0, (Blk.new w t (tokC x).toArray).cell j]
  simpa using h
theorem tok_new2 (w : World) (o : Obj) (t : TypeId) (x : Tok) : ∀ j u, (tokC x)[j]? = some u → ((w.alloc o).alloc (.cells (tokC x).toArray t)).cell? ((⟨w.heap.size + 1, 0, none⟩ : Addr).add j) = some u := by
  have h := tok_new (w.alloc o) t x
  rwa [World.size_alloc] at h
theorem own_set {w : World} {base size n g i : Nat} {e : TypeId} {v u : Value} {xs : List Value} (h : w.ownsRow base e size v n xs) (hg : g < base) : (w.setCell ⟨g, i, none⟩ u).ownsRow base e size v n xs := by
  obtain ⟨hl, h | ⟨g', cap, cur, hv, hB, hh, r⟩⟩ := h
  · exact ⟨hl, .inl h⟩
  · exact ⟨hl, .inr ⟨g', cap, cur, hv, hB, (RowKit.Below.heap_setCell w ⟨g, i, none⟩ u g' (by show g' ≠ g; omega)).trans hh, r⟩⟩
theorem tok_one (x : Tok) : ∀ z ∈ tokC x, z.oneCell' = true := by
  intro z hz
  simp [tokC] at hz
  rcases hz with rfl | rfl | rfl | rfl <;> rfl
theorem word_n {l : List UInt8} {k w n : Nat} {t : List UInt8} (h : wordAt l = .ok (k, t, w, n)) : n + 1 ≤ l.length := by
  cases l with
  | nil => cases h
  | cons c r =>
    rw [word_cons] at h
    have h1 := runP_le namB r
    have h2 := runP_le quoB r
    have h3 := runP_le wgtB r
    split at h
    · split at h
      · cases h; simp; omega
      · cases h
    · split at h
      · split at h
        · cases h
        · rename_i hq
          split at h
          · cases h
            have hq2 : (r.drop (runP quoB r)).head? = some 39 := by
              have := not_or.1 hq
              simpa using this.2
            have : runP quoB r < r.length := by
              rcases Nat.lt_or_ge (runP quoB r) r.length with h | h
              · exact h
              · rw [List.drop_eq_nil_of_le h] at hq2
                cases hq2
            simp; omega
          · cases h
      · split at h
        · split at h
          · cases h; simp; omega
          · cases h
        · split at h
          · cases h; simp
          · cases h
theorem word_e {l : List UInt8} {e : Nat} (h : wordAt l = .error e) : 1 ≤ e ∧ e ≤ 4 := by
  cases l with
  | nil => cases h; decide
  | cons c r =>
    rw [word_cons] at h
    repeat' (first | (cases h; done) | (cases h; decide) | split at h)
def LexRel (s : List UInt8) (k : Nat) (ts : List Tok) : Prop := lexA s (nxt s 0) = (ts ++ (lexA s k).1, (lexA s k).2) ∧ ts.length ≤ k ∧ k ≤ s.length
theorem LexRel.start (s : List UInt8) : LexRel s (nxt s 0) [] := ⟨by simp, by simp, nxt_le s 0 (Nat.zero_le _)⟩
theorem nxt_ge (s : List UInt8) (a : Nat) : a ≤ nxt s a := by unfold nxt; omega
theorem LexRel.step {s : List UInt8} {k : Nat} {ts : List Tok} (h : LexRel s k ts) (hk : k < s.length) {kd w n : Nat} {t : List UInt8} (hw : wordAt (s.drop k) = .ok (kd, t, w, n)) : LexRel s (nxt s (k + n + 1)) (ts ++ [⟨kd, k, t, w⟩]) ∧ k + n + 1 ≤ s.length := by
  obtain ⟨h1, h2, h3⟩ := h
  have hn := word_n hw
  rw [List.length_drop] at hn
  have hg := nxt_ge s (k + n + 1)
  refine ⟨⟨?_, by simp; omega, nxt_le s _ (by omega)⟩, by omega⟩
  rw [h1, lexA_ok s k kd w n t hk hw]
  simp
theorem LexRel.err {s : List UInt8} {k : Nat} {ts : List Tok} (h : LexRel s k ts) (hk : k < s.length) {e : Nat} (hw : wordAt (s.drop k) = .error e) (hs : s.length ≤ 65536) : lexAll s = ([], e, k) := by
  unfold lexAll
  rw [if_neg (by omega), h.1, lexA_error s k e hk hw]
theorem LexRel.done {s : List UInt8} {ts : List Tok} (h : LexRel s s.length ts) (hs : s.length ≤ 65536) : lexAll s = (ts ++ [⟨0, s.length, [], 0⟩], 0, 0) := by
  unfold lexAll
  rw [if_neg (by omega), h.1, lexA_end]
def flt0 : Array Value := #[.int .i64 0, .int .i64 0]
theorem flt_cells {w : World} {g : Nat} (h : Blk w g 26 flt0) : w.cell? ⟨g, 0, none⟩ = some (.int .i64 0) ∧ w.cell? ⟨g, 1, none⟩ = some (.int .i64 0) ∧ w.frozen? ⟨g, 0, none⟩ = false ∧ w.frozen? ⟨g, 1, none⟩ = false := ⟨h.cell 0, h.cell 1, h.frozen 0, h.frozen 1⟩
/-- the answer of All -/
def AllV (B : Nat) (s : List UInt8) (e : Ending) (w : World) : Prop := ∃ v, e = .returned (.tuple #[v, .agg #[.int .i64 (lexAll s).2.1, .int .i64 (lexAll s).2.2]]) ∧ w.ownsRow B 77 4 v (lexAll s).1.length (tcells (lexAll s).1)
set_option maxRecDepth 100000 in
set_option maxHeartbeats 2000000 in
theorem all_any (s : ByteArray) (hs : s.size ≤ maxLen) (w : World) (b off : Nat) (hv : Vs w b off) : Calls Tryz.prog 13 #[.string s] w fun e w' => AllV w.heap.size s.data.toList e w' ∧ Below w.heap.size w w' := by
  have hsl : s.data.toList.length = s.size := by simp
  have HM := Lib.hid hs
  unfold maxLen at hs
  have HV := Lib.hid hv
  by_cases hbig : 65536 < s.size
  · have e : ∀ w', AllV w.heap.size s.data.toList (.returned (.tuple #[.slice none 0 0, .agg #[.int .i64 1, .int .i64 0]])) w' := fun w' => by
      have : lexAll s.data.toList = ([], 1, 0) := by
        unfold lexAll
        rw [if_pos (by omega)]
      unfold AllV
      rw [this]
      exact ⟨_, rfl, World.ownsRow_nil _ _ _ _⟩
    have HE := Lib.hid e
    clear e hv hsl
    go_enter Tryz.func13, Tryz.ntmps13
    go_wp2_with fail
    refine bodyPost_ret (v := .tuple #[.slice none 0 0, .agg #[.int .i64 1, .int .i64 0]]) (by simp [results, Tryz.results13, go_sem]) rfl ⟨HE.out _, ?_⟩
    go_grown
  · obtain ⟨i1, ki, kz0, kz1, kz2⟩ := info_parts info_tok
    have hsk := fun w => skip_any s HM.out 0 (Nat.zero_le _) w
    have HL := Lib.hid hsl
    have HK := Lib.hid hsk
    clear hv hsl hsk
    go_enter Tryz.func13, Tryz.ntmps13
    go_wp2_with fail
    refine (HK.out _).mono ?_
    rintro e w1 ⟨rfl, hb1⟩
    have hW0 : Blk (w.alloc (.cells flt0 26)) w.heap.size 26 flt0 := Blk.new w _ _
    have hWB : Below w.heap.size w (w.alloc (.cells flt0 26)) := (Below.refl _ _).alloc (Nat.le_refl _) _
    have hWs : w.heap.size < (w.alloc (.cells flt0 26)).heap.size := by simp
    have hWv : Vs (w.alloc (.cells flt0 26)) b off := HV.out.below hWB
    have hb1 : Below (w.alloc (.cells flt0 26)).heap.size (w.alloc (.cells flt0 26)) w1 := hb1
    generalize w.alloc (.cells flt0 26) = W0 at *
    have HW0 := Lib.hid hW0
    have HWB := Lib.hid hWB
    have HWV := Lib.hid hWv
    have HB1 := Lib.hid hb1
    have hst := LexRel.start s.data.toList
    generalize nxt s.data.toList 0 = k0 at *
    have HST := Lib.hid hst
    have HK0 : Hid (k0 ≤ s.size) := Lib.hid (by have := hst.2.2; rw [HL.out] at this; exact this)
    clear hW0 hWB hWv hb1 hst
    go_wp2_with fail
    go_loopw [4, 5] (fun v i wr => ∃ (k : Nat) (ts : List Tok), i = .int .i64 k ∧ k ≤ s.size ∧ wr.ownsRow W0.heap.size 77 4 v ts.length (tcells ts) ∧ LexRel s.data.toList k ts ∧ Below W0.heap.size W0 wr) (fun _ i _ => s.size - (intOf i).toNat)
    case atStart => exact ⟨k0, [], rfl, HK0.out, World.ownsRow_nil _ _ _ _, HST.out, HB1.out⟩
    case round =>
      obtain ⟨k, ts, rfl, hk, hown, hrel, hbr⟩ := hrel
      have hzr := hbr.size
      have HO := Lib.hid hown
      have HR := Lib.hid hrel
      have HB := Lib.hid hbr
      have hvr : Vs wr b off := HWV.out.below hbr
      have htl := hrel.2.1
      clear hown hrel hbr
      by_cases hlt : k < s.size
      · have hnx := next_any s HM.out k hlt wr b off hvr
        clear hvr
        cases hwd : wordAt (s.data.toList.drop k) with
        | error e =>
          rw [hwd] at hnx
          have HE : Hid (lexAll s.data.toList = ([], e, k)) := Lib.hid (HR.out.err (by rw [HL.out]; exact hlt) hwd (by rw [HL.out]; omega))
          have he := word_e hwd
          have m1 : ((e : Int) != 0) = true := by rw [bne_iff_ne]; omega
          clear hwd he
          have hnx : Calls Tryz.prog 26 #[.string s, .int .i64 k] wr fun e_1 w' => e_1 = .returned (.tuple #[.agg #[.int .i64 0, .int .i64 0, .string ⟨#[]⟩, .float .f64 0], .int .i64 0, .int .i64 e]) ∧ Below wr.heap.size wr w' := hnx
          go_wp2_with fail
          refine hnx.mono ?_
          rintro e1 w2 ⟨rfl, hb2⟩
          have HB2 := Lib.hid (HB.out.trans (hb2.mono hzr))
          have hz2 := hb2.size
          clear hnx hb2
          obtain ⟨c0, c1, f0, f1⟩ := flt_cells (HW0.out.below HB2.out hWs)
          have hz3 : w.heap.size < w2.heap.size := by omega
          go_wp2_with fail
          refine bodyPost_ret (v := .tuple #[.slice none 0 0, .agg #[.int .i64 e, .int .i64 k]]) (by simp [results, Tryz.results13, go_sem, c0, c1, hz3]) rfl ⟨?_, ?_⟩
          · refine ⟨.slice none 0 0, ?_, ?_⟩
            · rw [HE.out]
            · rw [HE.out]
              exact World.ownsRow_nil _ _ _ _
          · exact (((HWB.out.trans (HB2.out.mono (Nat.le_of_lt hWs))).setCell (Nat.le_refl _) _).setCell (Nat.le_refl _) _).alloc (by simp; omega) _
        | ok x =>
          obtain ⟨kd, t, wt, n⟩ := x
          rw [hwd] at hnx
          obtain ⟨hr2, hn2⟩ := HR.out.step (by rw [HL.out]; exact hlt) hwd
          rw [HL.out] at hn2
          have HR2 := Lib.hid hr2
          have hsk := fun w => skip_any s HM.out (k + n + 1) hn2 w
          have HK2 : Hid (nxt s.data.toList (k + n + 1) ≤ s.size ∧ k < nxt s.data.toList (k + n + 1)) := Lib.hid ⟨by have := nxt_le s.data.toList (k + n + 1) (by rw [HL.out]; omega); rw [HL.out] at this; exact this, by have := nxt_ge s.data.toList (k + n + 1); omega⟩
          generalize nxt s.data.toList (k + n + 1) = k2 at *
          have hnx : Calls Tryz.prog 26 #[.string s, .int .i64 k] wr fun e_1 w' => e_1 = .returned (.tuple #[.agg #[.int .i64 kd, .int .i64 0, .string (S t), .float .f64 wt], .int .i64 (k + n + 1 : Nat), .int .i64 0]) ∧ Below wr.heap.size wr w' := hnx
          have HSK := Lib.hid hsk
          clear hwd hr2 hsk
          go_wp2_with fail
          refine hnx.mono ?_
          rintro e1 w2 ⟨rfl, hb2⟩
          have HB2 := Lib.hid (HB.out.trans (hb2.mono hzr))
          have hz2 := hb2.size
          have HB2' := Lib.hid hb2
          clear hnx hb2
          have ho2 := own_below HO.out HB2'.out
          have HO2 := Lib.hid ho2
          have hz3 : W0.heap.size ≤ w2.heap.size := by omega
          clear ho2
          go_wp2_with (at_builtin; refine wpList_append_own_at _ rfl (.tmp 36) (.tmp 38) 48 rfl W0.heap.size 77 i1 (.agg tok0) 4 40 Tryz.underlying48 ki kz0 kz1 kz2 rfl (by decide) _ ts.length (tcells ts) rfl ((HO2.out.alloc _).alloc _) ⟨w2.heap.size + 1, 0, none⟩ 1 1 (tokC ⟨kd, k, t, wt⟩) rfl rfl (tok_new2 _ _ _ _) (tok_one _) (by unfold maxLen; omega) (by omega) (by simp; omega) ?_; intro v3 w3 hown3 hg3 _ _)
          have HO3 := Lib.hid hown3
          have HB3 := Lib.hid (((HB2.out.alloc hz3 (.cells #[.int .i64 kd, .int .i64 k, .string (S t), .float .f64 wt] 77)).alloc (by simp; omega) (.cells (tokC ⟨kd, k, t, wt⟩).toArray 77)).grown hg3 (by simp; omega) (own_row HO2.out))
          clear hown3 hg3
          refine (HSK.out w3).mono ?_
          rintro e1 w4 ⟨rfl, hb4⟩
          have HO4 := Lib.hid (own_below HO3.out hb4)
          have HB4 := Lib.hid (HB3.out.trans (hb4.mono HB3.out.size))
          clear hb4
          go_wp2_with fail
          refine ⟨⟨k2, ts ++ [⟨kd, k, t, wt⟩], rfl, HK2.out.1, ?_, HR2.out, HB4.out⟩, by simp only [intOf]; have := HK2.out.2; omega⟩
          rw [tcells_snoc, List.length_append]
          exact HO4.out
      · obtain rfl : k = s.size := by omega
        have hdn := HR.out
        rw [← HL.out] at hdn
        have HE : Hid (lexAll s.data.toList = (ts ++ [⟨0, s.size, [], 0⟩], 0, 0)) := Lib.hid (by rw [hdn.done (by rw [HL.out]; omega), HL.out])
        clear hdn hvr
        obtain ⟨c0, c1, f0, f1⟩ := flt_cells (HW0.out.below HB.out hWs)
        go_wp2_with (at_builtin; refine wpList_append_own_at _ rfl (.tmp 41) (.tmp 45) 48 rfl W0.heap.size 77 i1 (.agg tok0) 4 40 Tryz.underlying48 ki kz0 kz1 kz2 rfl (by decide) _ ts.length (tcells ts) rfl (HO.out.alloc _) ⟨wr.heap.size, 0, none⟩ 1 1 (tokC ⟨0, s.size, [], 0⟩) rfl rfl (tok_new _ _ _) (tok_one _) (by unfold maxLen; omega) (by omega) (by simp; omega) ?_; intro v3 w3 hown3 hg3 _ _; have HO3 := Lib.hid hown3; have HB3 := Lib.hid ((HB.out.alloc hzr (.cells (tokC ⟨0, s.size, [], 0⟩).toArray 77)).grown hg3 (by simp; omega) (own_row HO.out)); clear hown3 hg3 c0 c1 f0 f1; obtain ⟨c0, c1, f0, f1⟩ := flt_cells (HW0.out.below HB3.out hWs))
        refine bodyPost_ret (v := .tuple #[v3, .agg #[.int .i64 0, .int .i64 0]]) (by simp [results, Tryz.results13, go_sem, c0, c1]) rfl ⟨?_, ?_⟩
        · refine ⟨v3, ?_, ?_⟩
          · rw [HE.out]
            rfl
          · rw [HE.out, tcells_snoc, List.length_append]
            exact own_base (own_set (own_set HO3.out hWs) hWs) (Nat.le_of_lt hWs)
        · exact ((HWB.out.trans (HB3.out.mono (Nat.le_of_lt hWs))).setCell (Nat.le_refl _) _).setCell (Nat.le_refl _) _
end Go.Proofs.YtdddbkghleblhaaGreatDoor.lx
namespace Go.Proofs.YtdddbkghleblhaaGreatDoor.lx
open Go.ChangeShapes Go.WideShapes Go.ChangeAt Go.RowKit
set_option linter.unusedVariables false
attribute [local go_sem] run_store_float
def isNameB (l : List UInt8) : Bool := decide (1 ≤ l.length) && decide (l.length ≤ 24) && letB (l.getD 0 0) && l.all namB
def isQuoteB (l : List UInt8) : Bool := decide (1 ≤ l.length) && decide (l.length ≤ 16) && l.all quoB
theorem run_all (p : UInt8 → Bool) (l : List UInt8) : decide (runP p l = l.length) = l.all p := by
  rw [Bool.eq_iff_iff, decide_eq_true_iff, List.all_eq_true]
  unfold runP
  induction l with
  | nil => simp
  | cons c l ih =>
    rw [List.takeWhile_cons]
    by_cases h : p c = true
    · rw [if_pos h]
      simp only [List.length_cons, Nat.add_right_cancel_iff, List.mem_cons, forall_eq_or_imp]
      rw [ih]
      simp [h]
    · rw [if_neg h]
      simp [h]
theorem str_ne (s : ByteArray) (h : 0 < s.size) : s.toList.isEmpty = false ∧ (s.toList == []) = false := by
  have hd := bytes_drop s 0 h
  rw [List.drop_zero, list_data] at hd
  rw [hd]
  exact ⟨rfl, rfl⟩
theorem str_nil (s : ByteArray) (h : s.size < 1) : s = ⟨#[]⟩ := str_S (list_nil s h)
set_option maxRecDepth 100000 in
set_option maxHeartbeats 1000000 in
theorem isname_any (s : ByteArray) (hs : s.size ≤ maxLen) (w : World) : Calls Tryz.prog 10 #[.string s] w fun e w' => e = .returned (.bool (isNameB s.data.toList)) ∧ w = w' := by
  have hr := fun w => run_name s hs 0 (Nat.zero_le _) w
  rw [List.drop_zero, Nat.zero_add] at hr
  have hl : s.data.toList.length = s.size := by simp
  have HE : Hid (isNameB s.data.toList = (decide (1 ≤ s.size) && decide (s.size ≤ 24) && letB (s.data.toList.getD 0 0) && decide (runP namB s.data.toList = s.size))) := Lib.hid (by
    rw [← hl, run_all]
    rfl)
  generalize isNameB s.data.toList = z at *
  generalize runP namB s.data.toList = n at *
  unfold maxLen at hs
  clear hl
  by_cases h0 : 0 < s.size
  · obtain ⟨k0, k0'⟩ := str_ne s h0
    have hlt := letter_n s[0].toNat (b_lt _)
    rw [← let_n] at hlt
    have HG : Hid (s.data.toList.getD 0 0 = s[0]) := Lib.hid (by
      have := bytes_drop s 0 h0
      rw [List.drop_zero] at this
      rw [this]
      rfl)
    by_cases h1 : s.size ≤ 24
    · cases h2 : letB s[0]
      · rw [h2] at hlt
        have HZ : Hid (z = false) := Lib.hid (by rw [HE.out, HG.out, h2]; simp)
        clear h2 HE
        go_enter Tryz.func10, Tryz.ntmps10
        go_wp2_with (go_at_call 20; refine (hlt _).mono ?_; rintro e w1 ⟨rfl, rfl⟩)
        go_ret
        exact ⟨ret_bool HZ.out.symm, rfl⟩
      · rw [h2] at hlt
        have HZ : Hid (z = decide (n = s.size)) := Lib.hid (by rw [HE.out, HG.out, h2, decide_eq_true (show 1 ≤ s.size by omega), decide_eq_true h1]; simp)
        clear h2 HE
        go_enter Tryz.func10, Tryz.ntmps10
        go_wp2_with (first | (go_at_call 20; refine (hlt _).mono ?_; rintro e w1 ⟨rfl, rfl⟩) | (go_at_call 21; refine (hr _).mono ?_; rintro e w1 ⟨rfl, rfl⟩))
        go_ret
        refine ⟨ret_bool ?_, rfl⟩
        rw [HZ.out, Bool.eq_iff_iff]
        simp
        omega
    · have HZ : Hid (z = false) := Lib.hid (by rw [HE.out, decide_eq_false h1]; simp)
      clear HE
      go_enter Tryz.func10, Tryz.ntmps10
      go_wp2
      go_ret
      exact ⟨ret_bool HZ.out.symm, rfl⟩
  · have HZ : Hid (z = false) := Lib.hid (by rw [HE.out, decide_eq_false (show ¬ 1 ≤ s.size by omega)]; simp)
    obtain rfl := str_nil s (by omega)
    clear HE
    go_enter Tryz.func10, Tryz.ntmps10
    go_wp2
    go_ret
    exact ⟨ret_bool HZ.out.symm, rfl⟩
/-! words of a text that is known -/
def lexF : Nat → List UInt8 → Nat → List Tok × Option (Nat × Nat)
  | 0, _, a => ([], some (99, a))
  | f + 1, s, a => if a < s.length then
      (match wordAt (s.drop a) with
      | .error e => ([], some (e, a))
      | .ok (k, t, w, n) => (⟨k, a, t, w⟩ :: (lexF f s (nxt s (a + n + 1))).1, (lexF f s (nxt s (a + n + 1))).2))
    else ([⟨0, a, [], 0⟩], none)
theorem lexA_F : ∀ (f : Nat) (s : List UInt8) (a : Nat), s.length - a < f → lexA s a = lexF f s a
  | 0, s, a, h => by omega
  | f + 1, s, a, h => by
    unfold lexF
    by_cases hlt : a < s.length
    · rw [if_pos hlt]
      cases hw : wordAt (s.drop a) with
      | error e => rw [lexA_error s a e hlt hw]
      | ok x =>
        obtain ⟨k, t, w, n⟩ := x
        have hg := nxt_ge s (a + n + 1)
        rw [lexA_ok s a k w n t hlt hw, lexA_F f s _ (by omega)]
    · rw [if_neg hlt, lexA, dif_neg hlt]
def lexG (s : List UInt8) : List Tok × Nat × Nat :=
  match lexF (s.length + 1) s (nxt s 0) with
  | (ts, none) => (ts, 0, 0)
  | (_, some (e, a)) => ([], e, a)
theorem lexAll_G (s : List UInt8) (h : s.length ≤ 65536) : lexAll s = lexG s := by
  unfold lexAll lexG
  rw [if_neg (by omega), lexA_F (s.length + 1) s _ (by omega)]
  rcases lexF (s.length + 1) s (nxt s 0) with ⟨ts, _ | ⟨e, a⟩⟩ <;> rfl
theorem al1 : lexAll [101, 32, 61, 32, 37, 45, 48, 32, 39, 97, 39, 32, 101, 63, 32, 59, 32, 35, 32, 116, 119, 111, 10] = ([⟨1, 0, [101], 0⟩, ⟨4, 2, [61], 0⟩, ⟨3, 4, [45, 48], 9223372036854775808⟩, ⟨2, 8, [97], 0⟩, ⟨1, 12, [101], 0⟩, ⟨4, 13, [63], 0⟩, ⟨4, 15, [59], 0⟩, ⟨0, 23, [], 0⟩], 0, 0) := by
  rw [lexAll_G _ (by decide)]
  kernel_rfl
theorem al2 : lexAll [101, 32, 61, 32, 39, 97] = ([], 3, 4) := by
  rw [lexAll_G _ (by decide)]
  kernel_rfl
theorem eq_tok1 (w : World) : (binOp .eql 77 (.agg #[.int .i64 1, .int .i64 0, .string ⟨#[101]⟩, .float .f64 0]) (.agg #[.int .i64 1, .int .i64 0, .string ⟨#[101]⟩, .float .f64 0])).run Tryz.prog w = .ok (.bool true) w := by kernel_rfl
theorem eq_tok2 (w : World) : (binOp .eql 77 (.agg #[.int .i64 2, .int .i64 8, .string ⟨#[97]⟩, .float .f64 0]) (.agg #[.int .i64 2, .int .i64 8, .string ⟨#[97]⟩, .float .f64 0])).run Tryz.prog w = .ok (.bool true) w := by kernel_rfl
end Go.Proofs.YtdddbkghleblhaaGreatDoor.lx
namespace Go.Proofs.YtdddbkghleblhaaGreatDoor.lx
open Go.ChangeShapes Go.WideShapes Go.ChangeAt Go.RowKit
set_option linter.unusedVariables false
/-! the document's own answers: names and quotes -/
theorem rletter_n (n : Nat) (hn : n < 256) (w : World) : Calls Tryz.prog 47 #[.int .u8 n] w fun e w' => e = .returned (.bool (letN n)) ∧ w = w' := by
  have h : (97 ≤ n ∧ n ≤ 122 ∧ letN n = true) ∨ (65 ≤ n ∧ n ≤ 90 ∧ letN n = true) ∨ (n < 65 ∧ letN n = false) ∨ (90 < n ∧ n < 97 ∧ letN n = false) ∨ (122 < n ∧ letN n = false) := by
    unfold letN
    simp only [decide_eq_true_iff, decide_eq_false_iff_not]
    omega
  rcases h with ⟨h1, h2, e⟩ | ⟨h1, h2, e⟩ | ⟨h1, e⟩ | ⟨h1, h2, e⟩ | ⟨h1, e⟩ <;> rw [e] <;> clear e
  all_goals
    go_enter Tryz.func47, Tryz.ntmps47
    go_wp2
    go_ret
    first | exact ⟨rfl, rfl⟩ | exact ⟨ret_bool (by simp; omega), rfl⟩
theorem rdigit_n (n : Nat) (hn : n < 256) (w : World) : Calls Tryz.prog 50 #[.int .u8 n] w fun e w' => e = .returned (.bool (digN n)) ∧ w = w' := by
  have h : (48 ≤ n ∧ n ≤ 57 ∧ digN n = true) ∨ (n < 48 ∧ digN n = false) ∨ (57 < n ∧ digN n = false) := by
    unfold digN
    simp only [decide_eq_true_iff, decide_eq_false_iff_not]
    omega
  rcases h with ⟨h1, h2, e⟩ | ⟨h1, e⟩ | ⟨h1, e⟩ <;> rw [e] <;> clear e
  all_goals
    go_enter Tryz.func50, Tryz.ntmps50
    go_wp2
    go_ret
    first | exact ⟨rfl, rfl⟩ | exact ⟨ret_bool (by simp; omega), rfl⟩
theorem rquot_n (n : Nat) (hn : n < 256) (w : World) : Calls Tryz.prog 49 #[.int .u8 n] w fun e w' => e = .returned (.bool (quoN n)) ∧ w = w' := by
  have h : (n < 32 ∧ quoN n = false) ∨ (126 < n ∧ quoN n = false) ∨ (n = 39 ∧ quoN n = false) ∨ (32 ≤ n ∧ n ≤ 126 ∧ n ≠ 39 ∧ quoN n = true) := by
    unfold quoN
    simp only [decide_eq_true_iff, decide_eq_false_iff_not]
    omega
  rcases h with ⟨h1, e⟩ | ⟨h1, e⟩ | ⟨rfl, e⟩ | ⟨h1, h2, h3, e⟩ <;> rw [e] <;> clear e
  · go_enter Tryz.func49, Tryz.ntmps49
    go_wp2
    go_ret
    first | exact ⟨rfl, rfl⟩ | exact ⟨ret_bool (by simp; omega), rfl⟩
  · go_enter Tryz.func49, Tryz.ntmps49
    go_wp2
    go_ret
    first | exact ⟨rfl, rfl⟩ | exact ⟨ret_bool (by simp; omega), rfl⟩
  · go_enter Tryz.func49, Tryz.ntmps49
    go_wp2
    go_ret
    first | exact ⟨rfl, rfl⟩ | exact ⟨ret_bool (by simp; omega), rfl⟩
  · have k3 : ((n : Int) != 39) = true := by rw [bne_iff_ne]; omega
    go_enter Tryz.func49, Tryz.ntmps49
    go_wp2
    go_ret
    first | exact ⟨rfl, rfl⟩ | exact ⟨ret_bool (by simp; omega), rfl⟩
theorem rinner_n (n : Nat) (hn : n < 256) (w : World) : Calls Tryz.prog 48 #[.int .u8 n] w fun e w' => e = .returned (.bool (namN n)) ∧ w = w' := by
  have hl := rletter_n n hn w
  have hd := rdigit_n n hn w
  have HE : Hid (namN n = (letN n || digN n || decide (n = 95))) := Lib.hid rfl
  generalize namN n = z at *
  cases h1 : letN n
  · rw [h1] at hl HE
    cases h2 : digN n
    · rw [h2] at hd HE
      by_cases h3 : n = 95
      · have k3 : ((n : Int) == 95) = true := by rw [beq_iff_eq]; omega
        have HZ : Hid (z = true) := Lib.hid (by rw [HE.out]; simp [h3])
        clear h1 h2 h3 HE
        go_enter Tryz.func48, Tryz.ntmps48
        go_wp2_with (first | (go_at_call 47; refine hl.mono ?_; rintro e w1 ⟨rfl, rfl⟩) | (go_at_call 50; refine hd.mono ?_; rintro e w2 ⟨rfl, rfl⟩))
        go_ret
        exact ⟨ret_bool HZ.out.symm, rfl⟩
      · have k3 : ((n : Int) == 95) = false := by rw [beq_eq_false_iff_ne]; omega
        have HZ : Hid (z = false) := Lib.hid (by rw [HE.out]; simp [h3])
        clear h1 h2 h3 HE
        go_enter Tryz.func48, Tryz.ntmps48
        go_wp2_with (first | (go_at_call 47; refine hl.mono ?_; rintro e w1 ⟨rfl, rfl⟩) | (go_at_call 50; refine hd.mono ?_; rintro e w2 ⟨rfl, rfl⟩))
        go_ret
        exact ⟨ret_bool HZ.out.symm, rfl⟩
    · rw [h2] at hd HE
      have HZ : Hid (z = true) := Lib.hid (by rw [HE.out]; simp)
      clear h1 h2 HE
      go_enter Tryz.func48, Tryz.ntmps48
      go_wp2_with (first | (go_at_call 47; refine hl.mono ?_; rintro e w1 ⟨rfl, rfl⟩) | (go_at_call 50; refine hd.mono ?_; rintro e w2 ⟨rfl, rfl⟩))
      go_ret
      exact ⟨ret_bool HZ.out.symm, rfl⟩
  · rw [h1] at hl HE
    have HZ : Hid (z = true) := Lib.hid (by rw [HE.out]; simp)
    clear h1 HE
    go_enter Tryz.func48, Tryz.ntmps48
    go_wp2_with (first | (go_at_call 47; refine hl.mono ?_; rintro e w1 ⟨rfl, rfl⟩) | (go_at_call 50; refine hd.mono ?_; rintro e w2 ⟨rfl, rfl⟩))
    go_ret
    exact ⟨ret_bool HZ.out.symm, rfl⟩
theorem all_false {p : UInt8 → Bool} {s : ByteArray} {k : Nat} (h : k < s.size) (hp : p s[k] = false) : s.data.toList.all p = false := by
  rw [Bool.eq_false_iff]
  intro ha
  have := List.all_eq_true.1 ha s[k] (by simp [ByteArray.getElem_eq_getElem_data])
  rw [hp] at this
  cases this
end Go.Proofs.YtdddbkghleblhaaGreatDoor.lx
namespace Go.Proofs.YtdddbkghleblhaaGreatDoor.lx
open Go.ChangeShapes Go.WideShapes Go.ChangeAt Go.RowKit
set_option linter.unusedVariables false
attribute [local go_sem] run_store_float
theorem run_equalIn_float {P : Program} (w : World) (d : Nat) (t : TypeId) (k k' : FloatKind) (a b : Nat) (h : P.underlying t = some (.float k')) : (Op.equalIn (d + 1) t (.float k a) (.float k b)).run P w = .ok (k.format.order a b == some .eq) w := by
  simp [Op.equalIn, run_underlying h, Op.floatEq]
theorem ford0 : (FloatKind.f64.format.order 0 0 == some Ordering.eq) = true := by decide +kernel
attribute [local go_sem] run_equalIn_float ford0
/-! what a name's text, and a quote's, are -/
theorem skip_stop {c : UInt8} {l : List UInt8} (h1 : c ≠ 35) (h2 : blkB c = false) : runN skipS false (c :: l) = 0 := by
  have e : (skipS false c).1 = false := by
    unfold skipS
    rw [beq_eq_false_iff_ne.2 h1, h2]
    rfl
  unfold runN
  rw [e]
  rfl
theorem let_stop {c : UInt8} (h : letB c = true) : c ≠ 35 ∧ blkB c = false := by
  rw [let_n] at h
  unfold letN at h
  rw [decide_eq_true_iff] at h
  refine ⟨?_, ?_⟩
  · rintro rfl
    revert h
    decide
  · rw [blk_n, decide_eq_false_iff_not]
    omega
theorem takeW_all {p : UInt8 → Bool} {l r : List UInt8} (h : l.all p = true) : (l ++ r).takeWhile p = l ++ r.takeWhile p := by
  rw [List.takeWhile_append_of_pos]
  exact fun a ha => List.all_eq_true.1 h a ha
theorem nxt_end (l : List UInt8) : nxt l l.length = l.length := by
  unfold nxt
  rw [List.drop_length]
  rfl
theorem lex_name (l : List UInt8) (h : isNameB l = true) : lexAll l = ([⟨1, 0, l, 0⟩, ⟨0, l.length, [], 0⟩], 0, 0) := by
  unfold isNameB at h
  simp only [Bool.and_eq_true, decide_eq_true_iff] at h
  obtain ⟨⟨⟨h1, h2⟩, h3⟩, h4⟩ := h
  cases l with
  | nil => simp at h1
  | cons c r =>
    have hc : letB c = true := by simpa using h3
    obtain ⟨s1, s2⟩ := let_stop hc
    have hn0 : nxt (c :: r) 0 = 0 := by
      unfold nxt
      rw [List.drop_zero, skip_stop s1 s2]
    have hr : runP namB r = r.length := by
      have h5 : r.all namB = true := by
        simp only [List.all_cons, Bool.and_eq_true] at h4
        exact h4.2
      have := run_all namB r
      rw [h5] at this
      exact of_decide_eq_true this
    have hw : wordAt ((c :: r).drop 0) = .ok (1, c :: r, 0, r.length) := by
      rw [List.drop_zero, word_let _ _ hc, hr, if_pos (by simpa using h2), List.take_of_length_le (by simp)]
    have hl : (c :: r).length = r.length + 1 := rfl
    unfold lexAll
    rw [if_neg (by omega), hn0, lexA_ok _ 0 1 0 r.length (c :: r) (by omega) hw, Nat.zero_add, ← hl, nxt_end, lexA_end]
theorem lex_quote (l : List UInt8) (h : isQuoteB l = true) : lexAll (39 :: (l ++ [39])) = ([⟨2, 0, l, 0⟩, ⟨0, l.length + 2, [], 0⟩], 0, 0) := by
  unfold isQuoteB at h
  simp only [Bool.and_eq_true, decide_eq_true_iff] at h
  obtain ⟨⟨h1, h2⟩, h4⟩ := h
  have hn0 : nxt (39 :: (l ++ [39])) 0 = 0 := by
    unfold nxt
    rw [List.drop_zero, skip_stop (by decide) (by decide)]
  have hr : runP quoB (l ++ [39]) = l.length := by
    unfold runP
    rw [takeW_all h4, List.takeWhile_cons_of_neg (by decide), List.append_nil]
  have hw : wordAt ((39 :: (l ++ [39])).drop 0) = .ok (2, l, 0, l.length + 1) := by
    rw [List.drop_zero, word_39, hr, if_neg (by
      rw [List.drop_left]
      simp
      rintro rfl
      simp at h1), if_pos h2, List.take_left]
  have hl : (39 :: (l ++ [39]) : List UInt8).length = l.length + 2 := by simp
  have ha : 0 + (l.length + 1) + 1 = (39 :: (l ++ [39]) : List UInt8).length := by omega
  unfold lexAll
  rw [if_neg (by omega), hn0, lexA_ok _ 0 2 0 (l.length + 1) l (by omega) hw, ha, nxt_end, lexA_end, hl]
theorem quoted (s : ByteArray) : ((ByteArray.mk #[39] ++ s) ++ ByteArray.mk #[39]).data.toList = 39 :: (s.data.toList ++ [39]) := by
  simp
end Go.Proofs.YtdddbkghleblhaaGreatDoor.lx
namespace Go.Proofs.YtdddbkghleblhaaGreatDoor.lx
open Go.ChangeShapes Go.WideShapes Go.ChangeAt Go.RowKit
set_option linter.unusedVariables false
/-! two texts with a line's end between -/
theorem runP_cut (p : UInt8 → Bool) (hp : p 10 = false) (x y : List UInt8) : runP p (x ++ 10 :: y) = runP p x := by
  unfold runP
  induction x with
  | nil => simp [hp]
  | cons c x ih =>
    rw [List.cons_append, List.takeWhile_cons, List.takeWhile_cons]
    by_cases h : p c = true
    · rw [if_pos h, if_pos h, List.length_cons, List.length_cons, ih]
    · rw [if_neg h, if_neg h]
theorem head_cut {x y : List UInt8} : (x ++ 10 :: y).head? ≠ some 39 ↔ x.head? ≠ some 39 := by
  cases x with
  | nil => simp
  | cons c x => simp
theorem word_cut (c : UInt8) (r y : List UInt8) : wordAt (c :: (r ++ 10 :: y)) = wordAt (c :: r) := by
  have h1 := runP_cut namB (by decide) r y
  have h2 := runP_cut quoB (by decide) r y
  have h3 := runP_cut wgtB (by decide) r y
  have l1 := runP_le namB r
  have l2 := runP_le quoB r
  have l3 := runP_le wgtB r
  have t1 : (c :: (r ++ 10 :: y)).take (runP namB r + 1) = (c :: r).take (runP namB r + 1) := by
    rw [List.take_succ_cons, List.take_succ_cons, List.take_append_of_le_length l1]
  have t2 : (r ++ 10 :: y).take (runP quoB r) = r.take (runP quoB r) := List.take_append_of_le_length l2
  have t3 : (r ++ 10 :: y).take (runP wgtB r) = r.take (runP wgtB r) := List.take_append_of_le_length l3
  have d2 : (r ++ 10 :: y).drop (runP quoB r) = r.drop (runP quoB r) ++ 10 :: y := List.drop_append_of_le_length l2
  have e2 : (runP quoB r = 0 ∨ ((r ++ 10 :: y).drop (runP quoB r)).head? ≠ some 39) ↔ (runP quoB r = 0 ∨ (r.drop (runP quoB r)).head? ≠ some 39) := by
    rw [d2]
    exact or_congr Iff.rfl head_cut
  rw [word_cons, word_cons, h1, h2, h3, t1, t2, t3]
  simp only [e2]
/-- the state behind a run -/
def runE {σ : Type} (st : σ → UInt8 → Bool × σ) : σ → List UInt8 → σ
  | s, [] => s
  | s, c :: l => runE st (st s c).2 l
theorem runN_app {σ : Type} (st : σ → UInt8 → Bool × σ) : ∀ (x y : List UInt8) (s : σ), runN st s (x ++ y) = if runN st s x = x.length then x.length + runN st (runE st s x) y else runN st s x
  | [], y, s => by simp [runN, runE]
  | c :: x, y, s => by
    have ih := runN_app st x y (st s c).2
    have e1 : runN st s (c :: x ++ y) = if (st s c).1 then runN st (st s c).2 (x ++ y) + 1 else 0 := rfl
    have e2 : runN st s (c :: x) = if (st s c).1 then runN st (st s c).2 x + 1 else 0 := rfl
    rw [e1, e2]
    by_cases h : (st s c).1 = true
    · rw [if_pos h, if_pos h, ih]
      by_cases h2 : runN st (st s c).2 x = x.length
      · rw [if_pos h2, if_pos (by rw [h2]; rfl)]
        show x.length + runN st (runE st (st s c).2 x) y + 1 = (x.length + 1) + runN st (runE st s (c :: x)) y
        have : runE st s (c :: x) = runE st (st s c).2 x := rfl
        rw [this]
        omega
      · rw [if_neg h2, if_neg (by simp only [List.length_cons]; omega)]
    · rw [if_neg h, if_neg h, if_neg (by simp)]
theorem skip_10 (r : Bool) (y : List UInt8) : runN skipS r (10 :: y) = runN skipS false y + 1 := by
  have e : skipS r 10 = (true, false) := by cases r <;> decide
  show (if (skipS r 10).1 then runN skipS (skipS r 10).2 y + 1 else 0) = _
  rw [e]
  rfl
def joinT (a b : List UInt8) : List UInt8 := a ++ 10 :: b
def phi (a b : List UInt8) (k : Nat) : Nat := if k < a.length then k else a.length + 1 + nxt b 0
theorem join_len (a b : List UInt8) : (joinT a b).length = a.length + 1 + b.length := by
  unfold joinT
  simp
  omega
theorem join_left (a b : List UInt8) (k : Nat) (h : k ≤ a.length) : (joinT a b).drop k = a.drop k ++ 10 :: b := List.drop_append_of_le_length h
theorem join_right (a b : List UInt8) (j : Nat) : (joinT a b).drop (a.length + 1 + j) = b.drop j := by
  unfold joinT
  rw [show a ++ 10 :: b = (a ++ [10]) ++ b from by simp, List.drop_append, List.drop_eq_nil_of_le (by simp), List.nil_append]
  congr 1
  simp
theorem nxt_left (a b : List UInt8) (k : Nat) (h : k ≤ a.length) : nxt (joinT a b) k = phi a b (nxt a k) := by
  have hle := runN_le skipS false (a.drop k)
  rw [List.length_drop] at hle
  unfold nxt phi
  rw [join_left a b k h, runN_app, List.length_drop]
  by_cases h2 : runN skipS false (a.drop k) = a.length - k
  · rw [if_pos h2, if_neg (by omega), skip_10]
    unfold nxt
    rw [List.drop_zero]
    omega
  · rw [if_neg h2, if_pos (by omega)]
theorem nxt_right (a b : List UInt8) (j : Nat) : nxt (joinT a b) (a.length + 1 + j) = a.length + 1 + nxt b j := by
  unfold nxt
  rw [join_right]
  omega
def shT (n : Nat) (t : Tok) : Tok := ⟨t.kind, t.at_ + n, t.text, t.wt⟩
theorem lex_right (a b : List UInt8) : ∀ (m j : Nat), b.length - j < m → j ≤ b.length → lexA (joinT a b) (a.length + 1 + j) = ((lexA b j).1.map (shT (a.length + 1)), (lexA b j).2.map fun x => (x.1, x.2 + (a.length + 1)))
  | 0, j, h, _ => by omega
  | m + 1, j, h, hj => by
    by_cases hlt : j < b.length
    · have hw : wordAt ((joinT a b).drop (a.length + 1 + j)) = wordAt (b.drop j) := by rw [join_right]
      have hlt2 : a.length + 1 + j < (joinT a b).length := by rw [join_len]; omega
      cases hx : wordAt (b.drop j) with
      | error e =>
        rw [lexA_error _ _ e hlt2 (hw.trans hx), lexA_error _ _ e hlt hx]
        simp
        omega
      | ok x =>
        obtain ⟨kd, t, w, n⟩ := x
        have hn := word_n hx
        rw [List.length_drop] at hn
        have hg := nxt_ge b (j + n + 1)
        have hle := nxt_le b (j + n + 1) (by omega)
        rw [lexA_ok _ _ kd w n t hlt2 (hw.trans hx), lexA_ok _ _ kd w n t hlt hx, show a.length + 1 + j + n + 1 = a.length + 1 + (j + n + 1) from by omega, nxt_right, lex_right a b m (nxt b (j + n + 1)) (by omega) hle]
        simp [shT]
        omega
    · obtain rfl : j = b.length := by omega
      rw [lexA_end, show a.length + 1 + b.length = (joinT a b).length from (join_len a b).symm, lexA_end, join_len]
      simp [shT]
      omega
theorem lex_ne (s : List UInt8) : ∀ (m k : Nat), s.length - k < m → (lexA s k).2 = none → (lexA s k).1 ≠ []
  | 0, k, h, _ => by omega
  | m + 1, k, h, hn => by
    by_cases hlt : k < s.length
    · cases hx : wordAt (s.drop k) with
      | error e =>
        rw [lexA_error _ _ e hlt hx] at hn
        cases hn
      | ok x =>
        obtain ⟨kd, t, w, n⟩ := x
        rw [lexA_ok _ _ kd w n t hlt hx]
        simp
    · rw [lexA, dif_neg hlt]
      simp
def joinA (a b : List UInt8) (x : List Tok × Option (Nat × Nat)) : List Tok × Option (Nat × Nat) :=
  match x.2 with
  | some f => (x.1, some f)
  | none => (x.1.dropLast ++ (lexA b (nxt b 0)).1.map (shT (a.length + 1)), (lexA b (nxt b 0)).2.map fun x => (x.1, x.2 + (a.length + 1)))
theorem joinA_cons (a b : List UInt8) (t : Tok) (x : List Tok × Option (Nat × Nat)) (h : x.2 = none → x.1 ≠ []) : joinA a b (t :: x.1, x.2) = (t :: (joinA a b x).1, (joinA a b x).2) := by
  obtain ⟨ts, f⟩ := x
  cases f with
  | some f => rfl
  | none =>
    have hne := h rfl
    cases ts with
    | nil => exact absurd rfl hne
    | cons u ts => simp [joinA]
theorem lex_left (a b : List UInt8) : ∀ (m k : Nat), a.length - k < m → k ≤ a.length → lexA (joinT a b) (phi a b k) = joinA a b (lexA a k)
  | 0, k, h, _ => by omega
  | m + 1, k, h, hk => by
    by_cases hlt : k < a.length
    · have hp : phi a b k = k := if_pos hlt
      have hlt2 : k < (joinT a b).length := by rw [join_len]; omega
      have hw : wordAt ((joinT a b).drop k) = wordAt (a.drop k) := by
        rw [join_left a b k hk, List.drop_eq_getElem_cons hlt, List.cons_append, word_cut]
      rw [hp]
      cases hx : wordAt (a.drop k) with
      | error e =>
        rw [lexA_error _ _ e hlt2 (hw.trans hx), lexA_error _ _ e hlt hx]
        rfl
      | ok x =>
        obtain ⟨kd, t, w, n⟩ := x
        have hn := word_n hx
        rw [List.length_drop] at hn
        have hg := nxt_ge a (k + n + 1)
        have hle := nxt_le a (k + n + 1) (by omega)
        rw [lexA_ok _ _ kd w n t hlt2 (hw.trans hx), lexA_ok _ _ kd w n t hlt hx, nxt_left a b (k + n + 1) (by omega), lex_left a b m (nxt a (k + n + 1)) (by omega) hle, joinA_cons a b _ _ (lex_ne a _ _ (Nat.lt_succ_self _))]
    · obtain rfl : k = a.length := by omega
      have hp : phi a b a.length = a.length + 1 + nxt b 0 := if_neg (Nat.lt_irrefl _)
      rw [hp, lexA_end, lex_right a b _ (nxt b 0) (Nat.lt_succ_self _) (nxt_le b 0 (Nat.zero_le _))]
      simp [joinA]
theorem lex_bounds (s : List UInt8) : ∀ (m k : Nat), s.length - k < m → k ≤ s.length → (lexA s k).1.length ≤ s.length - k + 1 ∧ (∀ t ∈ (lexA s k).1, t.at_ ≤ s.length) ∧ ∀ e a, (lexA s k).2 = some (e, a) → 1 ≤ e ∧ a < s.length
  | 0, k, h, _ => by omega
  | m + 1, k, h, hk => by
    by_cases hlt : k < s.length
    · cases hx : wordAt (s.drop k) with
      | error e' =>
        rw [lexA_error _ _ e' hlt hx]
        refine ⟨by simp, fun t ht => by simp at ht, fun e a he => ?_⟩
        cases he
        exact ⟨(word_e hx).1, hlt⟩
      | ok y =>
        obtain ⟨kd, t, w, n⟩ := y
        have hn := word_n hx
        rw [List.length_drop] at hn
        have hg := nxt_ge s (k + n + 1)
        obtain ⟨h1, h2, h3⟩ := lex_bounds s m (nxt s (k + n + 1)) (by omega) (nxt_le s _ (by omega))
        rw [lexA_ok _ _ kd w n t hlt hx]
        refine ⟨by simp only [List.length_cons]; omega, fun t' ht => ?_, h3⟩
        rcases List.mem_cons.1 ht with rfl | ht
        · exact hk
        · exact h2 t' ht
    · rw [lexA, dif_neg hlt]
      refine ⟨by simp, fun t ht => ?_, fun e a he => by cases he⟩
      simp at ht
      subst ht
      exact hk
theorem err_ge (s : List UInt8) {x : List Tok} {e k : Nat} (h : lexA s (nxt s 0) = (x, some (e, k))) : 1 ≤ e ∧ k < s.length := by
  have := (lex_bounds s _ (nxt s 0) (Nat.lt_succ_self _) (nxt_le s 0 (Nat.zero_le _))).2.2 e k
  rw [h] at this
  exact this rfl
theorem ok_ge (s : List UInt8) {x : List Tok} {f : Option (Nat × Nat)} (h : lexA s (nxt s 0) = (x, f)) : x.length ≤ s.length + 1 ∧ ∀ t ∈ x, t.at_ ≤ s.length := by
  have := lex_bounds s _ (nxt s 0) (Nat.lt_succ_self _) (nxt_le s 0 (Nat.zero_le _))
  rw [h] at this
  exact ⟨by have := this.1; simp at this; omega, this.2.1⟩
/-- the words of two texts -/
theorem lex_join (a b : List UInt8) (ha : a.length ≤ 600) (hb : b.length ≤ 600) : (∃ e k, (1 ≤ e ∧ k < a.length) ∧ lexAll a = ([], e, k) ∧ lexAll (joinT a b) = ([], e, k)) ∨ (∃ x e k, (1 ≤ e ∧ k < b.length) ∧ (x ≠ [] ∧ x.length ≤ a.length + 1) ∧ lexAll a = (x, 0, 0) ∧ lexAll b = ([], e, k) ∧ lexAll (joinT a b) = ([], e, k + (a.length + 1))) ∨ (∃ x y, (x ≠ [] ∧ x.length ≤ a.length + 1 ∧ ∀ t ∈ x, t.at_ ≤ a.length) ∧ (y ≠ [] ∧ y.length ≤ b.length + 1 ∧ ∀ t ∈ y, t.at_ ≤ b.length) ∧ lexAll a = (x, 0, 0) ∧ lexAll b = (y, 0, 0) ∧ lexAll (joinT a b) = (x.dropLast ++ y.map (shT (a.length + 1)), 0, 0)) := by
  have hj := join_len a b
  have e0 := nxt_left a b 0 (Nat.zero_le _)
  have e1 := lex_left a b _ (nxt a 0) (Nat.lt_succ_self _) (nxt_le a 0 (Nat.zero_le _))
  have na := lex_ne a _ (nxt a 0) (Nat.lt_succ_self _)
  have nb := lex_ne b _ (nxt b 0) (Nat.lt_succ_self _)
  unfold lexAll
  rw [if_neg (by omega), if_neg (by omega), if_neg (by omega), e0, e1]
  unfold joinA
  rcases hA : lexA a (nxt a 0) with ⟨x, f⟩
  rw [hA] at na
  cases f with
  | some f =>
    obtain ⟨e, k⟩ := f
    exact .inl ⟨e, k, err_ge a hA, rfl, rfl⟩
  | none =>
    rcases hB : lexA b (nxt b 0) with ⟨y, f⟩
    rw [hB] at nb
    cases f with
    | some f =>
      obtain ⟨e, k⟩ := f
      exact .inr (.inl ⟨x, e, k, err_ge b hB, ⟨na rfl, (ok_ge a hA).1⟩, rfl, rfl, rfl⟩)
    | none => exact .inr (.inr ⟨x, y, ⟨na rfl, ok_ge a hA⟩, ⟨nb rfl, ok_ge b hB⟩, rfl, rfl, rfl⟩)
end Go.Proofs.YtdddbkghleblhaaGreatDoor.lx
namespace Go.Proofs.YtdddbkghleblhaaGreatDoor.lx
open Go.ChangeShapes Go.WideShapes Go.ChangeAt Go.RowKit
set_option linter.unusedVariables false
attribute [local go_sem] run_store_float
theorem joined (s t : ByteArray) : ((s ++ ByteArray.mk #[10]) ++ t).data.toList = joinT s.data.toList t.data.toList := by
  unfold joinT
  simp
theorem own_form {w : World} {base size n : Nat} {e : TypeId} {v : Value} {xs : List Value} (h : w.ownsRow base e size v n xs) : ∃ ao cap, v = .slice ao n cap := by
  obtain ⟨hl, ⟨h1, h2⟩ | ⟨g, cap, cur, hv, r⟩⟩ := h
  · exact ⟨none, 0, by rw [h1, h2]⟩
  · exact ⟨_, _, hv⟩
/-- a list of words in memory -/
def ListT (w : World) (v : Value) (ts : List Tok) : Prop := ∃ ao cap, v = .slice ao ts.length cap ∧ (0 < ts.length → ∃ g, ao = some ⟨g, 0, none⟩ ∧ g < w.heap.size ∧ ∀ j u, (tcells ts)[j]? = some u → w.cell? ⟨g, j, none⟩ = some u)
theorem ListT.of_own {w : World} {B : Nat} {v : Value} {ts : List Tok} (h : w.ownsRow B 77 4 v ts.length (tcells ts)) : ListT w v ts := by
  by_cases h0 : 0 < ts.length
  · obtain ⟨g, cap, e, _, hg, hc⟩ := own_open h h0
    exact ⟨_, cap, e, fun _ => ⟨g, rfl, hg, hc⟩⟩
  · obtain ⟨ao, cap, e⟩ := own_form h
    exact ⟨ao, cap, e, fun h => absurd h h0⟩
theorem ListT.below {w w' : World} {v : Value} {ts : List Tok} (h : ListT w v ts) (hb : Below w.heap.size w w') : ListT w' v ts := by
  obtain ⟨ao, cap, e, h⟩ := h
  refine ⟨ao, cap, e, fun h0 => ?_⟩
  obtain ⟨g, e2, hg, hc⟩ := h h0
  exact ⟨g, e2, Nat.lt_of_lt_of_le hg hb.size, fun j u hj => (hb.cell (p := ⟨g, j, none⟩) hg).trans (hc j u hj)⟩
theorem tcells_at : ∀ (ts : List Tok) (k j : Nat), k < ts.length → j < 4 → (tcells ts)[k * 4 + j]? = (tokC (ts.getD k ⟨0, 0, [], 0⟩))[j]?
  | [], k, j, h, _ => by simp at h
  | t :: ts, 0, j, h, hj => by
    have : tcells (t :: ts) = tokC t ++ tcells ts := rfl
    rw [this, Nat.zero_mul, Nat.zero_add, List.getElem?_append_left (by simp [tokC]; omega)]
    rfl
  | t :: ts, k + 1, j, h, hj => by
    have : tcells (t :: ts) = tokC t ++ tcells ts := rfl
    have hl : (tokC t).length = 4 := rfl
    rw [this, List.getElem?_append_right (by omega), show (k + 1) * 4 + j - (tokC t).length = k * 4 + j from by omega, tcells_at ts k j (by simpa using h) hj]
    rfl
theorem getT_mem {ts : List Tok} {k : Nat} (h : k < ts.length) : ts.getD k ⟨0, 0, [], 0⟩ ∈ ts := by
  rw [List.getD_eq_getElem?_getD, List.getElem?_eq_getElem h]
  exact List.getElem_mem h
theorem Vs.alloc {w : World} {b off : Nat} (h : Vs w b off) (o : Obj) : Vs (w.alloc o) b off := h.below ((Below.refl _ _).alloc (Nat.le_refl _) _)
end Go.Proofs.YtdddbkghleblhaaGreatDoor.lx
