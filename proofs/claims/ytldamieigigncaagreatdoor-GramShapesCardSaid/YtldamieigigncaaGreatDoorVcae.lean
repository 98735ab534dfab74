import Derived.Test.YtldamieigigncaaGreatDoorVcad
import Derived.Laws.StructEq
namespace Go.Proofs.YtldamieigigncaaGreatDoor.lx
open Go.ChangeShapes Go.WideShapes Go.ChangeAt Go.RowKit
set_option linter.unusedVariables false
attribute [local go_sem] run_store_float
def tok0 : Array Value := #[.int .i64 0, .int .i64 0, .string ⟨#[]⟩, .float .f64 0]
theorem tok_cells {w : World} {g : Nat} (h : Blk w g 162 tok0) : (w.cell? ⟨g, 0, none⟩ = some (.int .i64 0) ∧ w.cell? ⟨g, 1, none⟩ = some (.int .i64 0) ∧ w.cell? ⟨g, 2, none⟩ = some (.string ⟨#[]⟩) ∧ w.cell? ⟨g, 3, none⟩ = some (.float .f64 0)) ∧ (w.frozen? ⟨g, 0, none⟩ = false ∧ w.frozen? ⟨g, 1, none⟩ = false ∧ w.frozen? ⟨g, 2, none⟩ = false ∧ w.frozen? ⟨g, 3, none⟩ = false) :=
  ⟨⟨h.cell 0, h.cell 1, h.cell 2, h.cell 3⟩, h.frozen 0, h.frozen 1, h.frozen 2, h.frozen 3⟩
set_option maxRecDepth 100000 in
set_option maxHeartbeats 2000000 in
theorem weight_any (s : ByteArray) (hs : s.size ≤ maxLen) (a n : Nat) (ha : a < s.size) (hn : runP wgtB (s.data.toList.drop (a + 1)) = n) (w : World) (b off : Nat) (hv : Vs w b off) : Calls Tryz.prog 116 #[.string s, .int .i64 a] w fun e w' => e = .returned (if readOk ((s.data.toList.drop (a + 1)).take n) = true then .tuple #[TV 3 0 ((s.data.toList.drop (a + 1)).take n) (readF ((s.data.toList.drop (a + 1)).take n)), .int .i64 (a + n + 1 : Nat), .int .i64 0] else .tuple #[TV 0 0 [] 0, .int .i64 0, .int .i64 4]) ∧ Below w.heap.size w w' := by
  have hr := fun w => run_weight s hs (a + 1) (by omega) w
  rw [hn] at hr
  have hle := runP_le wgtB (s.data.toList.drop (a + 1))
  rw [hn, List.length_drop, show s.data.toList.length = s.size by simp] at hle
  have hx := ext_S s (a + 1) (a + 1 + n)
  rw [show a + 1 + n - (a + 1) = n from by omega] at hx
  have hl := ext_list s (a + 1) (a + 1 + n)
  rw [show a + 1 + n - (a + 1) = n from by omega] at hl
  have hrd := fun w1 (h : Vs w1 b off) => read_any (s.extract (a + 1) (a + 1 + n)) (by simp [ByteArray.size_extract]; omega) w1 b off h
  rw [hl] at hrd
  unfold maxLen at hs
  unfold TV
  rw [← hx]
  clear hx hn hl
  generalize readF ((s.data.toList.drop (a + 1)).take n) = f at *
  generalize hok : readOk ((s.data.toList.drop (a + 1)).take n) = ok at *
  have HV := Lib.hid hv
  have HR := Lib.hid hrd
  clear hv hrd hok
  have hv1 : ∀ o, Vs (w.alloc o) b off := fun o => HV.out.below ((Below.refl _ _).alloc (Nat.le_refl _) _)
  have HV1 := Lib.hid hv1
  clear hv1
  cases ok
  · rw [if_neg (by decide)]
    go_enter Tryz.func116, Tryz.ntmps116
    go_wp2_with (go_at_call 38; refine (hr _).mono ?_; rintro e w1 ⟨rfl, rfl⟩)
    refine (HR.out _ (HV1.out _)).mono ?_
    rintro e w1 ⟨rfl, hb⟩
    obtain ⟨⟨c0, c1, c2, c3⟩, f0, f1, f2, f3⟩ := tok_cells (Blk.below (Blk.new w 162 tok0) hb (by simp))
    have hB : Below w.heap.size w w1 := ((Below.refl _ _).alloc (Nat.le_refl _) _).trans (hb.mono (by simp))
    have HB := Lib.hid hB
    clear hb hB hr
    go_wp2_with fail
    refine bodyPost_ret (v := .tuple #[.agg #[.int .i64 0, .int .i64 0, .string ⟨#[]⟩, .float .f64 0], .int .i64 0, .int .i64 4]) (by simp [results, Tryz.results116, go_sem, c0, c1, c2, c3]) rfl ⟨rfl, ?_⟩
    exact (((HB.out.setCell (Nat.le_refl _) _).setCell (Nat.le_refl _) _).setCell (Nat.le_refl _) _).setCell (Nat.le_refl _) _
  · rw [if_pos rfl]
    go_enter Tryz.func116, Tryz.ntmps116
    go_wp2_with (go_at_call 38; refine (hr _).mono ?_; rintro e w1 ⟨rfl, rfl⟩)
    refine (HR.out _ (HV1.out _)).mono ?_
    rintro e w1 ⟨rfl, hb⟩
    obtain ⟨⟨c0, c1, c2, c3⟩, f0, f1, f2, f3⟩ := tok_cells (Blk.below (Blk.new w 162 tok0) hb (by simp))
    have hB : Below w.heap.size w w1 := ((Below.refl _ _).alloc (Nat.le_refl _) _).trans (hb.mono (by simp))
    have HB := Lib.hid hB
    clear hb hB hr
    go_wp2_with fail
    refine bodyPost_ret (v := .tuple #[.agg #[.int .i64 3, .int .i64 0, .string (s.extract (a + 1) (a + 1 + n)), .float .f64 f], .int .i64 (a + n + 1 : Nat), .int .i64 0]) (by simp [results, Tryz.results116, go_sem, c0, c1, c2, c3]; omega) rfl ⟨rfl, ?_⟩
    exact (((HB.out.setCell (Nat.le_refl _) _).setCell (Nat.le_refl _) _).setCell (Nat.le_refl _) _).setCell (Nat.le_refl _) _
def wordV (a : Nat) (x : Except Nat (Nat × List UInt8 × Nat × Nat)) : Value :=
  match x with
  | .ok (k, t, w, n) => .tuple #[TV k 0 t w, .int .i64 (a + n + 1 : Nat), .int .i64 0]
  | .error e => .tuple #[TV 0 0 [] 0, .int .i64 0, .int .i64 e]
theorem wordV_form (a : Nat) (x : Except Nat (Nat × List UInt8 × Nat × Nat)) : ∃ (k : Int) (t : ByteArray) (f : Nat) (e c : Int), wordV a x = .tuple #[.agg #[.int .i64 k, .int .i64 0, .string t, .float .f64 f], .int .i64 e, .int .i64 c] := by
  cases x with
  | error e => exact ⟨_, _, _, _, _, rfl⟩
  | ok x =>
    obtain ⟨k, t, w, n⟩ := x
    exact ⟨_, _, _, _, _, rfl⟩
theorem word_cons (c : UInt8) (r : List UInt8) : wordAt (c :: r) = (if letB c then (if runP namB r + 1 ≤ 24 then .ok (1, (c :: r).take (runP namB r + 1), 0, runP namB r) else .error 1)
    else if c == 39 then
      (if runP quoB r = 0 ∨ (r.drop (runP quoB r)).head? ≠ some 39 then .error 3
      else if runP quoB r ≤ 16 then .ok (2, r.take (runP quoB r), 0, runP quoB r + 1) else .error 1)
    else if c == 37 then (if readOk (r.take (runP wgtB r)) then .ok (3, r.take (runP wgtB r), readF (r.take (runP wgtB r)), runP wgtB r) else .error 4)
    else if sgnB c then .ok (4, [c], 0, 0)
    else .error 2) := rfl
theorem l39 : ¬ letB 39 = true := by decide
theorem l37 : ¬ letB 37 = true := by decide
theorem l37' : ¬ (((37 : UInt8) == 39) = true) := by decide
theorem word_39 (r : List UInt8) : wordAt (39 :: r) = (if runP quoB r = 0 ∨ (r.drop (runP quoB r)).head? ≠ some 39 then .error 3 else if runP quoB r ≤ 16 then .ok (2, r.take (runP quoB r), 0, runP quoB r + 1) else .error 1) := by
  rw [word_cons, if_neg l39, if_pos (by rfl)]
theorem word_37 (r : List UInt8) : wordAt (37 :: r) = (if readOk (r.take (runP wgtB r)) then .ok (3, r.take (runP wgtB r), readF (r.take (runP wgtB r)), runP wgtB r) else .error 4) := by
  rw [word_cons, if_neg l37, if_neg l37', if_pos (by rfl)]
theorem word_let (c : UInt8) (r : List UInt8) (h : letB c = true) : wordAt (c :: r) = (if runP namB r + 1 ≤ 24 then .ok (1, (c :: r).take (runP namB r + 1), 0, runP namB r) else .error 1) := by
  rw [word_cons, if_pos h]
theorem name_w (s : ByteArray) (hs : s.size ≤ maxLen) (a : Nat) (ha : a < s.size) (hc : letB s[a] = true) (w : World) : Calls Tryz.prog 114 #[.string s, .int .i64 a] w fun e w' => e = .returned (wordV a (wordAt (s.data.toList.drop a))) ∧ Below w.heap.size w w' := by
  have hd := bytes_drop s a ha
  have hn : runP namB (s.data.toList.drop a) = runP namB (s.data.toList.drop (a + 1)) + 1 := by
    unfold runP
    rw [hd, List.takeWhile_cons_of_pos (by unfold namB; rw [hc]; rfl)]
    rfl
  refine (name_any s hs a _ (by omega) hn w).mono fun e w' ⟨h1, h2⟩ => ⟨?_, h2⟩
  rw [h1]
  congr 1
  rw [hd]
  rw [word_let _ _ hc]
  generalize runP namB (s.data.toList.drop (a + 1)) = n
  by_cases h1 : n + 1 ≤ 24
  · rw [if_pos h1, if_pos h1]
    rfl
  · rw [if_neg h1, if_neg h1]
    rfl
theorem quote_w (s : ByteArray) (hs : s.size ≤ maxLen) (a : Nat) (ha : a < s.size) (hc : s[a] = 39) (w : World) : Calls Tryz.prog 115 #[.string s, .int .i64 a] w fun e w' => e = .returned (wordV a (wordAt (s.data.toList.drop a))) ∧ Below w.heap.size w w' := by
  have hd := bytes_drop s a ha
  refine (quote_any s hs a _ ha rfl w).mono fun e w' ⟨h1, h2⟩ => ⟨?_, h2⟩
  rw [h1]
  congr 1
  rw [hd, hc]
  rw [word_39]
  generalize runP quoB (s.data.toList.drop (a + 1)) = n
  by_cases h1 : n = 0 ∨ ((s.data.toList.drop (a + 1)).drop n).head? ≠ some 39
  · rw [if_pos h1, if_pos h1]
    rfl
  · rw [if_neg h1, if_neg h1]
    by_cases h2 : n ≤ 16
    · rw [if_pos h2, if_pos h2]
      rfl
    · rw [if_neg h2, if_neg h2]
      rfl
theorem weight_w (s : ByteArray) (hs : s.size ≤ maxLen) (a : Nat) (ha : a < s.size) (hc : s[a] = 37) (w : World) (b off : Nat) (hv : Vs w b off) : Calls Tryz.prog 116 #[.string s, .int .i64 a] w fun e w' => e = .returned (wordV a (wordAt (s.data.toList.drop a))) ∧ Below w.heap.size w w' := by
  have hd := bytes_drop s a ha
  refine (weight_any s hs a _ ha rfl w b off hv).mono fun e w' ⟨h1, h2⟩ => ⟨?_, h2⟩
  rw [h1]
  congr 1
  rw [hd, hc]
  rw [word_37]
  generalize runP wgtB (s.data.toList.drop (a + 1)) = n
  by_cases h1 : readOk ((s.data.toList.drop (a + 1)).take n) = true
  · rw [if_pos h1, if_pos h1]
    rfl
  · rw [if_neg h1, if_neg h1]
    rfl
set_option maxRecDepth 100000 in
set_option maxHeartbeats 2000000 in
theorem next_any (s : ByteArray) (hs : s.size ≤ maxLen) (a : Nat) (ha : a < s.size) (w : World) (b off : Nat) (hv : Vs w b off) : Calls Tryz.prog 87 #[.string s, .int .i64 a] w fun e w' => e = .returned (wordV a (wordAt (s.data.toList.drop a))) ∧ Below w.heap.size w w' := by
  have hlt := letter_n s[a].toNat (b_lt _)
  rw [← let_n] at hlt
  have hnm := name_w s hs a ha
  have hqt := quote_w s hs a ha
  have hwt := weight_w s hs a ha
  have hsg := sign_any s[a]
  have hd := bytes_drop s a ha
  have hx := ext_S s a (a + 1)
  rw [show a + 1 - a = 1 from by omega, hd] at hx
  replace hx : s.extract a (a + 1) = S [s[a]] := hx
  have hwo : ∀ c, s[a] = c → wordAt (s.data.toList.drop a) = wordAt (c :: s.data.toList.drop (a + 1)) := fun c e => by rw [hd, e]
  obtain ⟨k, t, f, e, c, hf⟩ := wordV_form a (wordAt (s.data.toList.drop a))
  have HW := Lib.hid hwo
  have HF := Lib.hid hf
  rw [hf] at hnm hqt hwt ⊢
  have HNM := Lib.hid hnm
  have HQT := Lib.hid hqt
  have HWT := Lib.hid hwt
  have HSG := Lib.hid hsg
  have HX := Lib.hid hx
  have HV := Lib.hid hv
  unfold maxLen at hs
  clear hnm hqt hwt hsg hd hx hwo hf hv
  cases h1 : letB s[a]
  · rw [h1] at hlt
    by_cases h2 : s[a] = 39
    · have k2 : ((s[a].toNat : Int) == 39) = true := by rw [h2]; rfl
      have HQ1 := Lib.hid (HQT.out h2)
      clear h1 h2
      go_enter Tryz.func87, Tryz.ntmps87
      go_wp2_with (go_at_call 98; refine (hlt _).mono ?_; rintro e w1 ⟨rfl, rfl⟩)
      refine (HQ1.out _).mono ?_
      rintro e w1 ⟨rfl, hb⟩
      obtain ⟨⟨c0, c1, c2, c3⟩, f0, f1, f2, f3⟩ := tok_cells (Blk.below (Blk.new w 162 tok0) hb (by simp))
      have hB : Below w.heap.size w w1 := ((Below.refl _ _).alloc (Nat.le_refl _) _).trans (hb.mono (by simp))
      have HB := Lib.hid hB
      clear hb hB
      go_wp2_with fail
      refine bodyPost_ret (v := .tuple #[.agg #[.int .i64 k, .int .i64 0, .string t, .float .f64 f], .int .i64 e, .int .i64 c]) (by simp [results, Tryz.results87, go_sem, c0, c1, c2, c3]) rfl ⟨rfl, ?_⟩
      exact (((HB.out.setCell (Nat.le_refl _) _).setCell (Nat.le_refl _) _).setCell (Nat.le_refl _) _).setCell (Nat.le_refl _) _
    · have k2 : ((s[a].toNat : Int) == 39) = false := by
        rw [beq_eq_false_iff_ne]
        intro e
        exact h2 (UInt8.toNat_inj.1 (by rw [show s[a].toNat = 39 from by omega]; rfl))
      by_cases h3 : s[a] = 37
      · have k3 : ((s[a].toNat : Int) == 37) = true := by rw [h3]; rfl
        have hw1 : Vs (w.alloc (.cells tok0 162)) b off := HV.out.below ((Below.refl _ _).alloc (Nat.le_refl _) _)
        have HW1 := Lib.hid (HWT.out h3 _ b off hw1)
        clear hw1 h1 h2 h3
        go_enter Tryz.func87, Tryz.ntmps87
        go_wp2_with (go_at_call 98; refine (hlt _).mono ?_; rintro e w1 ⟨rfl, rfl⟩)
        refine HW1.out.mono ?_
        rintro e w1 ⟨rfl, hb⟩
        obtain ⟨⟨c0, c1, c2, c3⟩, f0, f1, f2, f3⟩ := tok_cells (Blk.below (Blk.new w 162 tok0) hb (by simp))
        have hB : Below w.heap.size w w1 := ((Below.refl _ _).alloc (Nat.le_refl _) _).trans (hb.mono (by simp))
        have HB := Lib.hid hB
        clear hb hB
        go_wp2_with fail
        refine bodyPost_ret (v := .tuple #[.agg #[.int .i64 k, .int .i64 0, .string t, .float .f64 f], .int .i64 e, .int .i64 c]) (by simp [results, Tryz.results87, go_sem, c0, c1, c2, c3]) rfl ⟨rfl, ?_⟩
        exact (((HB.out.setCell (Nat.le_refl _) _).setCell (Nat.le_refl _) _).setCell (Nat.le_refl _) _).setCell (Nat.le_refl _) _
      · have k3 : ((s[a].toNat : Int) == 37) = false := by
          rw [beq_eq_false_iff_ne]
          intro e
          exact h3 (UInt8.toNat_inj.1 (by rw [show s[a].toNat = 37 from by omega]; rfl))
        have hg := HSG.out
        cases h4 : sgnB s[a]
        · rw [h4] at hg
          have HZ : Hid (wordV a (wordAt (s.data.toList.drop a)) = .tuple #[.agg #[.int .i64 0, .int .i64 0, .string ⟨#[]⟩, .float .f64 0], .int .i64 0, .int .i64 2]) := Lib.hid (by
            rw [HW.out _ rfl]
            rw [word_cons, h1, h4, beq_eq_false_iff_ne.2 h2, beq_eq_false_iff_ne.2 h3]
            rfl)
          rw [← HF.out, HZ.out]
          clear h2 h3 h4 h1
          go_enter Tryz.func87, Tryz.ntmps87
          go_wp2_with (first | (go_at_call 98; refine (hlt _).mono ?_; rintro e w1 ⟨rfl, rfl⟩) | (go_at_call 117; refine (hg _).mono ?_; rintro e w2 ⟨rfl, rfl⟩))
          refine bodyPost_ret (v := .tuple #[.agg #[.int .i64 0, .int .i64 0, .string ⟨#[]⟩, .float .f64 0], .int .i64 0, .int .i64 2]) (by simp [results, Tryz.results87, go_sem]) rfl ⟨rfl, ?_⟩
          go_grown
        · rw [h4] at hg
          have HZ : Hid (wordV a (wordAt (s.data.toList.drop a)) = .tuple #[.agg #[.int .i64 4, .int .i64 0, .string (s.extract a (a + 1)), .float .f64 0], .int .i64 (a + 1 : Nat), .int .i64 0]) := Lib.hid (by
            rw [HW.out _ rfl, HX.out]
            rw [word_cons, h1, h4, beq_eq_false_iff_ne.2 h2, beq_eq_false_iff_ne.2 h3]
            rfl)
          rw [← HF.out, HZ.out]
          clear h2 h3 h4 h1
          go_enter Tryz.func87, Tryz.ntmps87
          go_wp2_with (first | (go_at_call 98; refine (hlt _).mono ?_; rintro e w1 ⟨rfl, rfl⟩) | (go_at_call 117; refine (hg _).mono ?_; rintro e w2 ⟨rfl, rfl⟩))
          refine bodyPost_ret (v := .tuple #[.agg #[.int .i64 4, .int .i64 0, .string (s.extract a (a + 1)), .float .f64 0], .int .i64 (a + 1 : Nat), .int .i64 0]) (by simp [results, Tryz.results87, go_sem]) rfl ⟨rfl, ?_⟩
          go_grown
  · rw [h1] at hlt
    have HQ1 := Lib.hid (HNM.out h1)
    clear h1
    go_enter Tryz.func87, Tryz.ntmps87
    go_wp2_with (go_at_call 98; refine (hlt _).mono ?_; rintro e w1 ⟨rfl, rfl⟩)
    refine (HQ1.out _).mono ?_
    rintro e w1 ⟨rfl, hb⟩
    obtain ⟨⟨c0, c1, c2, c3⟩, f0, f1, f2, f3⟩ := tok_cells (Blk.below (Blk.new w 162 tok0) hb (by simp))
    have hB : Below w.heap.size w w1 := ((Below.refl _ _).alloc (Nat.le_refl _) _).trans (hb.mono (by simp))
    have HB := Lib.hid hB
    clear hb hB
    go_wp2_with fail
    refine bodyPost_ret (v := .tuple #[.agg #[.int .i64 k, .int .i64 0, .string t, .float .f64 f], .int .i64 e, .int .i64 c]) (by simp [results, Tryz.results87, go_sem, c0, c1, c2, c3]) rfl ⟨rfl, ?_⟩
    exact (((HB.out.setCell (Nat.le_refl _) _).setCell (Nat.le_refl _) _).setCell (Nat.le_refl _) _).setCell (Nat.le_refl _) _
end Go.Proofs.YtldamieigigncaaGreatDoor.lx

namespace Go.Proofs.YtldamieigigncaaGreatDoor.lx
open Go.ChangeShapes Go.WideShapes Go.ChangeAt Go.RowKit
set_option linter.unusedVariables false
attribute [local go_sem] run_store_float
theorem info_tok : (Tryz.prog.info? 162).map (fun i => (i.zero, i.size, i.bytes)) = some (some (.agg tok0), 4, 40) := by kernel_rfl
def tokC (t : Tok) : List Value := [.int .i64 t.kind, .int .i64 t.at_, .string (S t.text), .float .f64 t.wt]
def tcells (ts : List Tok) : List Value := ts.flatMap tokC
theorem tcells_snoc (ts : List Tok) (t : Tok) : tcells (ts ++ [t]) = tcells ts ++ tokC t := by simp [tcells]
theorem tok_new (w : World) (t : TypeId) (x : Tok) : ∀ j u, (tokC x)[j]? = some u → (w.alloc (.cells (tokC x).toArray t)).cell? ((⟨w.heap.size, 0, none⟩ : Addr).add j) = some u := fun j u h => by
  rw [add0, (Blk.new w t (tokC x).toArray).cell j]
  simpa using h
theorem tok_new2 (w : World) (o : Obj) (t : TypeId) (x : Tok) : ∀ j u, (tokC x)[j]? = some u → ((w.alloc o).alloc (.cells (tokC x).toArray t)).cell? ((⟨w.heap.size + 1, 0, none⟩ : Addr).add j) = some u := by
  have h := tok_new (w.alloc o) t x
  rwa [World.size_alloc] at h
theorem own_set {w : World} {base size n g i : Nat} {e : TypeId} {v u : Value} {xs : List Value} (h : w.ownsRow base e size v n xs) (hg : g < base) : (w.setCell ⟨g, i, none⟩ u).ownsRow base e size v n xs := by
  obtain ⟨hl, h | ⟨g', cap, cur, hv, hB, hh, r⟩⟩ := h
  · exact ⟨hl, .inl h⟩
  · exact ⟨hl, .inr ⟨g', cap, cur, hv, hB, (RowKit.Below.heap_setCell w ⟨g, i, none⟩ u g' (by show g' ≠ g; omega)).trans hh, r⟩⟩
theorem tok_one (x : Tok) : ∀ z ∈ tokC x, z.oneCell' = true := by
  intro z hz
  simp [tokC] at hz
  rcases hz with rfl | rfl | rfl | rfl <;> rfl
theorem word_n {l : List UInt8} {k w n : Nat} {t : List UInt8} (h : wordAt l = .ok (k, t, w, n)) : n + 1 ≤ l.length := by
  cases l with
  | nil => cases h
  | cons c r =>
    rw [word_cons] at h
    have h1 := runP_le namB r
    have h2 := runP_le quoB r
    have h3 := runP_le wgtB r
    split at h
    · split at h
      · cases h; simp; omega
      · cases h
    · split at h
      · split at h
        · cases h
        · rename_i hq
          split at h
          · cases h
            have hq2 : (r.drop (runP quoB r)).head? = some 39 := by
              have := not_or.1 hq
              simpa using this.2
            have : runP quoB r < r.length := by
              rcases Nat.lt_or_ge (runP quoB r) r.length with h | h
              · exact h
              · rw [List.drop_eq_nil_of_le h] at hq2
                cases hq2
            simp; omega
          · cases h
      · split at h
        · split at h
          · cases h; simp; omega
          · cases h
        · split at h
          · cases h; simp
          · cases h
theorem word_e {l : List UInt8} {e : Nat} (h : wordAt l = .error e) : 1 ≤ e ∧ e ≤ 4 := by
  cases l with
  | nil => cases h; decide
  | cons c r =>
    rw [word_cons] at h
    repeat' (first | (cases h; done) | (cases h; decide) | split at h)
def LexRel (s : List UInt8) (k : Nat) (ts : List Tok) : Prop := lexA s (nxt s 0) = (ts ++ (lexA s k).1, (lexA s k).2) ∧ ts.length ≤ k ∧ k ≤ s.length
theorem LexRel.start (s : List UInt8) : LexRel s (nxt s 0) [] := ⟨by simp, by simp, nxt_le s 0 (Nat.zero_le _)⟩
theorem nxt_ge (s : List UInt8) (a : Nat) : a ≤ nxt s a := by unfold nxt; omega
theorem LexRel.step {s : List UInt8} {k : Nat} {ts : List Tok} (h : LexRel s k ts) (hk : k < s.length) {kd w n : Nat} {t : List UInt8} (hw : wordAt (s.drop k) = .ok (kd, t, w, n)) : LexRel s (nxt s (k + n + 1)) (ts ++ [⟨kd, k, t, w⟩]) ∧ k + n + 1 ≤ s.length := by
  obtain ⟨h1, h2, h3⟩ := h
  have hn := word_n hw
  rw [List.length_drop] at hn
  have hg := nxt_ge s (k + n + 1)
  refine ⟨⟨?_, by simp; omega, nxt_le s _ (by omega)⟩, by omega⟩
  rw [h1, lexA_ok s k kd w n t hk hw]
  simp
theorem LexRel.err {s : List UInt8} {k : Nat} {ts : List Tok} (h : LexRel s k ts) (hk : k < s.length) {e : Nat} (hw : wordAt (s.drop k) = .error e) (hs : s.length ≤ 65536) : lexAll s = ([], e, k) := by
  unfold lexAll
  rw [if_neg (by omega), h.1, lexA_error s k e hk hw]
theorem LexRel.done {s : List UInt8} {ts : List Tok} (h : LexRel s s.length ts) (hs : s.length ≤ 65536) : lexAll s = (ts ++ [⟨0, s.length, [], 0⟩], 0, 0) := by
  unfold lexAll
  rw [if_neg (by omega), h.1, lexA_end]
def flt0 : Array Value := #[.int .i64 0, .int .i64 0]
theorem flt_cells {w : World} {g : Nat} (h : Blk w g 29 flt0) : w.cell? ⟨g, 0, none⟩ = some (.int .i64 0) ∧ w.cell? ⟨g, 1, none⟩ = some (.int .i64 0) ∧ w.frozen? ⟨g, 0, none⟩ = false ∧ w.frozen? ⟨g, 1, none⟩ = false := ⟨h.cell 0, h.cell 1, h.frozen 0, h.frozen 1⟩
def AllV (B : Nat) (s : List UInt8) (e : Ending) (w : World) : Prop := ∃ v, e = .returned (.tuple #[v, .agg #[.int .i64 (lexAll s).2.1, .int .i64 (lexAll s).2.2]]) ∧ w.ownsRow B 162 4 v (lexAll s).1.length (tcells (lexAll s).1)
set_option maxRecDepth 100000 in
set_option maxHeartbeats 2000000 in
theorem all_any (s : ByteArray) (hs : s.size ≤ maxLen) (w : World) (b off : Nat) (hv : Vs w b off) : Calls Tryz.prog 58 #[.string s] w fun e w' => AllV w.heap.size s.data.toList e w' ∧ Below w.heap.size w w' := by
  have hsl : s.data.toList.length = s.size := by simp
  have HM := Lib.hid hs
  unfold maxLen at hs
  have HV := Lib.hid hv
  by_cases hbig : 65536 < s.size
  · have e : ∀ w', AllV w.heap.size s.data.toList (.returned (.tuple #[.slice none 0 0, .agg #[.int .i64 1, .int .i64 0]])) w' := fun w' => by
      have : lexAll s.data.toList = ([], 1, 0) := by
        unfold lexAll
        rw [if_pos (by omega)]
      unfold AllV
      rw [this]
      exact ⟨_, rfl, World.ownsRow_nil _ _ _ _⟩
    have HE := Lib.hid e
    clear e hv hsl
    go_enter Tryz.func58, Tryz.ntmps58
    go_wp2_with fail
    refine bodyPost_ret (v := .tuple #[.slice none 0 0, .agg #[.int .i64 1, .int .i64 0]]) (by simp [results, Tryz.results58, go_sem]) rfl ⟨HE.out _, ?_⟩
    go_grown
  · obtain ⟨i1, ki, kz0, kz1, kz2⟩ := info_parts info_tok
    have hsk := fun w => skip_any s HM.out 0 (Nat.zero_le _) w
    have HL := Lib.hid hsl
    have HK := Lib.hid hsk
    clear hv hsl hsk
    go_enter Tryz.func58, Tryz.ntmps58
    go_wp2_with fail
    refine (HK.out _).mono ?_
    rintro e w1 ⟨rfl, hb1⟩
    have hW0 : Blk (w.alloc (.cells flt0 29)) w.heap.size 29 flt0 := Blk.new w _ _
    have hWB : Below w.heap.size w (w.alloc (.cells flt0 29)) := (Below.refl _ _).alloc (Nat.le_refl _) _
    have hWs : w.heap.size < (w.alloc (.cells flt0 29)).heap.size := by simp
    have hWv : Vs (w.alloc (.cells flt0 29)) b off := HV.out.below hWB
    have hb1 : Below (w.alloc (.cells flt0 29)).heap.size (w.alloc (.cells flt0 29)) w1 := hb1
    generalize w.alloc (.cells flt0 29) = W0 at *
    have HW0 := Lib.hid hW0
    have HWB := Lib.hid hWB
    have HWV := Lib.hid hWv
    have HB1 := Lib.hid hb1
    have hst := LexRel.start s.data.toList
    generalize nxt s.data.toList 0 = k0 at *
    have HST := Lib.hid hst
    have HK0 : Hid (k0 ≤ s.size) := Lib.hid (by have := hst.2.2; rw [HL.out] at this; exact this)
    clear hW0 hWB hWv hb1 hst
    go_wp2_with fail
    go_loopw [4, 5] (fun v i wr => ∃ (k : Nat) (ts : List Tok), i = .int .i64 k ∧ k ≤ s.size ∧ wr.ownsRow W0.heap.size 162 4 v ts.length (tcells ts) ∧ LexRel s.data.toList k ts ∧ Below W0.heap.size W0 wr) (fun _ i _ => s.size - (intOf i).toNat)
    case atStart => exact ⟨k0, [], rfl, HK0.out, World.ownsRow_nil _ _ _ _, HST.out, HB1.out⟩
    case round =>
      obtain ⟨k, ts, rfl, hk, hown, hrel, hbr⟩ := hrel
      have hzr := hbr.size
      have HO := Lib.hid hown
      have HR := Lib.hid hrel
      have HB := Lib.hid hbr
      have hvr : Vs wr b off := HWV.out.below hbr
      have htl := hrel.2.1
      clear hown hrel hbr
      by_cases hlt : k < s.size
      · have hnx := next_any s HM.out k hlt wr b off hvr
        clear hvr
        cases hwd : wordAt (s.data.toList.drop k) with
        | error e =>
          rw [hwd] at hnx
          have HE : Hid (lexAll s.data.toList = ([], e, k)) := Lib.hid (HR.out.err (by rw [HL.out]; exact hlt) hwd (by rw [HL.out]; omega))
          have he := word_e hwd
          have m1 : ((e : Int) != 0) = true := by rw [bne_iff_ne]; omega
          clear hwd he
          have hnx : Calls Tryz.prog 87 #[.string s, .int .i64 k] wr fun e_1 w' => e_1 = .returned (.tuple #[.agg #[.int .i64 0, .int .i64 0, .string ⟨#[]⟩, .float .f64 0], .int .i64 0, .int .i64 e]) ∧ Below wr.heap.size wr w' := hnx
          go_wp2_with fail
          refine hnx.mono ?_
          rintro e1 w2 ⟨rfl, hb2⟩
          have HB2 := Lib.hid (HB.out.trans (hb2.mono hzr))
          have hz2 := hb2.size
          clear hnx hb2
          obtain ⟨c0, c1, f0, f1⟩ := flt_cells (HW0.out.below HB2.out hWs)
          have hz3 : w.heap.size < w2.heap.size := by omega
          go_wp2_with fail
          refine bodyPost_ret (v := .tuple #[.slice none 0 0, .agg #[.int .i64 e, .int .i64 k]]) (by simp [results, Tryz.results58, go_sem, c0, c1, hz3]) rfl ⟨?_, ?_⟩
          · refine ⟨.slice none 0 0, ?_, ?_⟩
            · rw [HE.out]
            · rw [HE.out]
              exact World.ownsRow_nil _ _ _ _
          · exact (((HWB.out.trans (HB2.out.mono (Nat.le_of_lt hWs))).setCell (Nat.le_refl _) _).setCell (Nat.le_refl _) _).alloc (by simp; omega) _
        | ok x =>
          obtain ⟨kd, t, wt, n⟩ := x
          rw [hwd] at hnx
          obtain ⟨hr2, hn2⟩ := HR.out.step (by rw [HL.out]; exact hlt) hwd
          rw [HL.out] at hn2
          have HR2 := Lib.hid hr2
          have hsk := fun w => skip_any s HM.out (k + n + 1) hn2 w
          have HK2 : Hid (nxt s.data.toList (k + n + 1) ≤ s.size ∧ k < nxt s.data.toList (k + n + 1)) := Lib.hid ⟨by have := nxt_le s.data.toList (k + n + 1) (by rw [HL.out]; omega); rw [HL.out] at this; exact this, by have := nxt_ge s.data.toList (k + n + 1); omega⟩
          generalize nxt s.data.toList (k + n + 1) = k2 at *
          have hnx : Calls Tryz.prog 87 #[.string s, .int .i64 k] wr fun e_1 w' => e_1 = .returned (.tuple #[.agg #[.int .i64 kd, .int .i64 0, .string (S t), .float .f64 wt], .int .i64 (k + n + 1 : Nat), .int .i64 0]) ∧ Below wr.heap.size wr w' := hnx
          have HSK := Lib.hid hsk
          clear hwd hr2 hsk
          go_wp2_with fail
          refine hnx.mono ?_
          rintro e1 w2 ⟨rfl, hb2⟩
          have HB2 := Lib.hid (HB.out.trans (hb2.mono hzr))
          have hz2 := hb2.size
          have HB2' := Lib.hid hb2
          clear hnx hb2
          have ho2 := own_below HO.out HB2'.out
          have HO2 := Lib.hid ho2
          have hz3 : W0.heap.size ≤ w2.heap.size := by omega
          clear ho2
          go_wp2_with (at_builtin; refine wpList_append_own_at _ rfl (.tmp 36) (.tmp 38) 111 rfl W0.heap.size 162 i1 (.agg tok0) 4 40 Tryz.underlying111 ki kz0 kz1 kz2 rfl (by decide) _ ts.length (tcells ts) rfl ((HO2.out.alloc _).alloc _) ⟨w2.heap.size + 1, 0, none⟩ 1 1 (tokC ⟨kd, k, t, wt⟩) rfl rfl (tok_new2 _ _ _ _) (tok_one _) (by unfold maxLen; omega) (by omega) (by simp; omega) ?_; intro v3 w3 hown3 hg3 _ _)
          have HO3 := Lib.hid hown3
          have HB3 := Lib.hid (((HB2.out.alloc hz3 (.cells #[.int .i64 kd, .int .i64 k, .string (S t), .float .f64 wt] 162)).alloc (by simp; omega) (.cells (tokC ⟨kd, k, t, wt⟩).toArray 162)).grown hg3 (by simp; omega) (own_row HO2.out))
          clear hown3 hg3
          refine (HSK.out w3).mono ?_
          rintro e1 w4 ⟨rfl, hb4⟩
          have HO4 := Lib.hid (own_below HO3.out hb4)
          have HB4 := Lib.hid (HB3.out.trans (hb4.mono HB3.out.size))
          clear hb4
          go_wp2_with fail
          refine ⟨⟨k2, ts ++ [⟨kd, k, t, wt⟩], rfl, HK2.out.1, ?_, HR2.out, HB4.out⟩, by simp only [intOf]; have := HK2.out.2; omega⟩
          rw [tcells_snoc, List.length_append]
          exact HO4.out
      · obtain rfl : k = s.size := by omega
        have hdn := HR.out
        rw [← HL.out] at hdn
        have HE : Hid (lexAll s.data.toList = (ts ++ [⟨0, s.size, [], 0⟩], 0, 0)) := Lib.hid (by rw [hdn.done (by rw [HL.out]; omega), HL.out])
        clear hdn hvr
        obtain ⟨c0, c1, f0, f1⟩ := flt_cells (HW0.out.below HB.out hWs)
        go_wp2_with (at_builtin; refine wpList_append_own_at _ rfl (.tmp 41) (.tmp 45) 111 rfl W0.heap.size 162 i1 (.agg tok0) 4 40 Tryz.underlying111 ki kz0 kz1 kz2 rfl (by decide) _ ts.length (tcells ts) rfl (HO.out.alloc _) ⟨wr.heap.size, 0, none⟩ 1 1 (tokC ⟨0, s.size, [], 0⟩) rfl rfl (tok_new _ _ _) (tok_one _) (by unfold maxLen; omega) (by omega) (by simp; omega) ?_; intro v3 w3 hown3 hg3 _ _; have HO3 := Lib.hid hown3; have HB3 := Lib.hid ((HB.out.alloc hzr (.cells (tokC ⟨0, s.size, [], 0⟩).toArray 162)).grown hg3 (by simp; omega) (own_row HO.out)); clear hown3 hg3 c0 c1 f0 f1; obtain ⟨c0, c1, f0, f1⟩ := flt_cells (HW0.out.below HB3.out hWs))
        refine bodyPost_ret (v := .tuple #[v3, .agg #[.int .i64 0, .int .i64 0]]) (by simp [results, Tryz.results58, go_sem, c0, c1]) rfl ⟨?_, ?_⟩
        · refine ⟨v3, ?_, ?_⟩
          · rw [HE.out]
            rfl
          · rw [HE.out, tcells_snoc, List.length_append]
            exact own_base (own_set (own_set HO3.out hWs) hWs) (Nat.le_of_lt hWs)
        · exact ((HWB.out.trans (HB3.out.mono (Nat.le_of_lt hWs))).setCell (Nat.le_refl _) _).setCell (Nat.le_refl _) _
end Go.Proofs.YtldamieigigncaaGreatDoor.lx

namespace Go.Proofs.YtldamieigigncaaGreatDoor.lx
open Go.ChangeShapes Go.WideShapes Go.ChangeAt Go.RowKit
set_option linter.unusedVariables false
attribute [local go_sem] run_store_float
def isNameB (l : List UInt8) : Bool := decide (1 ≤ l.length) && decide (l.length ≤ 24) && letB (l.getD 0 0) && l.all namB
def isQuoteB (l : List UInt8) : Bool := decide (1 ≤ l.length) && decide (l.length ≤ 16) && l.all quoB
theorem run_all (p : UInt8 → Bool) (l : List UInt8) : decide (runP p l = l.length) = l.all p := by
  rw [Bool.eq_iff_iff, decide_eq_true_iff, List.all_eq_true]
  unfold runP
  induction l with
  | nil => simp
  | cons c l ih =>
    rw [List.takeWhile_cons]
    by_cases h : p c = true
    · rw [if_pos h]
      simp only [List.length_cons, Nat.add_right_cancel_iff, List.mem_cons, forall_eq_or_imp]
      rw [ih]
      simp [h]
    · rw [if_neg h]
      simp [h]
theorem str_ne (s : ByteArray) (h : 0 < s.size) : s.toList.isEmpty = false ∧ (s.toList == []) = false := by
  have hd := bytes_drop s 0 h
  rw [List.drop_zero, list_data] at hd
  rw [hd]
  exact ⟨rfl, rfl⟩
theorem str_nil (s : ByteArray) (h : s.size < 1) : s = ⟨#[]⟩ := str_S (list_nil s h)
set_option maxRecDepth 100000 in
set_option maxHeartbeats 1000000 in
theorem isname_any (s : ByteArray) (hs : s.size ≤ maxLen) (w : World) : Calls Tryz.prog 73 #[.string s] w fun e w' => e = .returned (.bool (isNameB s.data.toList)) ∧ w = w' := by
  have hr := fun w => run_name s hs 0 (Nat.zero_le _) w
  rw [List.drop_zero, Nat.zero_add] at hr
  have hl : s.data.toList.length = s.size := by simp
  have HE : Hid (isNameB s.data.toList = (decide (1 ≤ s.size) && decide (s.size ≤ 24) && letB (s.data.toList.getD 0 0) && decide (runP namB s.data.toList = s.size))) := Lib.hid (by
    rw [← hl, run_all]
    rfl)
  generalize isNameB s.data.toList = z at *
  generalize runP namB s.data.toList = n at *
  unfold maxLen at hs
  clear hl
  by_cases h0 : 0 < s.size
  · obtain ⟨k0, k0'⟩ := str_ne s h0
    have hlt := letter_n s[0].toNat (b_lt _)
    rw [← let_n] at hlt
    have HG : Hid (s.data.toList.getD 0 0 = s[0]) := Lib.hid (by
      have := bytes_drop s 0 h0
      rw [List.drop_zero] at this
      rw [this]
      rfl)
    by_cases h1 : s.size ≤ 24
    · cases h2 : letB s[0]
      · rw [h2] at hlt
        have HZ : Hid (z = false) := Lib.hid (by rw [HE.out, HG.out, h2]; simp)
        clear h2 HE
        go_enter Tryz.func73, Tryz.ntmps73
        go_wp2_with (go_at_call 98; refine (hlt _).mono ?_; rintro e w1 ⟨rfl, rfl⟩)
        go_ret
        exact ⟨ret_bool HZ.out.symm, rfl⟩
      · rw [h2] at hlt
        have HZ : Hid (z = decide (n = s.size)) := Lib.hid (by rw [HE.out, HG.out, h2, decide_eq_true (show 1 ≤ s.size by omega), decide_eq_true h1]; simp)
        clear h2 HE
        go_enter Tryz.func73, Tryz.ntmps73
        go_wp2_with (first | (go_at_call 98; refine (hlt _).mono ?_; rintro e w1 ⟨rfl, rfl⟩) | (go_at_call 38; refine (hr _).mono ?_; rintro e w1 ⟨rfl, rfl⟩))
        go_ret
        refine ⟨ret_bool ?_, rfl⟩
        rw [HZ.out, Bool.eq_iff_iff]
        simp
        omega
    · have HZ : Hid (z = false) := Lib.hid (by rw [HE.out, decide_eq_false h1]; simp)
      clear HE
      go_enter Tryz.func73, Tryz.ntmps73
      go_wp2
      go_ret
      exact ⟨ret_bool HZ.out.symm, rfl⟩
  · have HZ : Hid (z = false) := Lib.hid (by rw [HE.out, decide_eq_false (show ¬ 1 ≤ s.size by omega)]; simp)
    obtain rfl := str_nil s (by omega)
    clear HE
    go_enter Tryz.func73, Tryz.ntmps73
    go_wp2
    go_ret
    exact ⟨ret_bool HZ.out.symm, rfl⟩
set_option maxRecDepth 100000 in
set_option maxHeartbeats 1000000 in
theorem isquote_any (s : ByteArray) (hs : s.size ≤ maxLen) (w : World) : Calls Tryz.prog 12 #[.string s] w fun e w' => e = .returned (.bool (isQuoteB s.data.toList)) ∧ w = w' := by
  have hr := fun w => run_quote s hs 0 (Nat.zero_le _) w
  rw [List.drop_zero, Nat.zero_add] at hr
  have hl : s.data.toList.length = s.size := by simp
  have HE : Hid (isQuoteB s.data.toList = (decide (1 ≤ s.size) && decide (s.size ≤ 16) && decide (runP quoB s.data.toList = s.size))) := Lib.hid (by
    rw [← hl, run_all]
    rfl)
  generalize isQuoteB s.data.toList = z at *
  generalize runP quoB s.data.toList = n at *
  unfold maxLen at hs
  clear hl
  by_cases h0 : 0 < s.size
  · obtain ⟨k0, k0'⟩ := str_ne s h0
    by_cases h1 : s.size ≤ 16
    · have HZ : Hid (z = decide (n = s.size)) := Lib.hid (by rw [HE.out, decide_eq_true (show 1 ≤ s.size by omega), decide_eq_true h1]; simp)
      clear HE
      go_enter Tryz.func12, Tryz.ntmps12
      go_wp2_with (go_at_call 38; refine (hr _).mono ?_; rintro e w1 ⟨rfl, rfl⟩)
      go_ret
      refine ⟨ret_bool ?_, rfl⟩
      rw [HZ.out, Bool.eq_iff_iff]
      simp
      omega
    · have HZ : Hid (z = false) := Lib.hid (by rw [HE.out, decide_eq_false h1]; simp)
      clear HE
      go_enter Tryz.func12, Tryz.ntmps12
      go_wp2
      go_ret
      exact ⟨ret_bool HZ.out.symm, rfl⟩
  · have HZ : Hid (z = false) := Lib.hid (by rw [HE.out, decide_eq_false (show ¬ 1 ≤ s.size by omega)]; simp)
    obtain rfl := str_nil s (by omega)
    clear HE
    go_enter Tryz.func12, Tryz.ntmps12
    go_wp2
    go_ret
    exact ⟨ret_bool HZ.out.symm, rfl⟩
def lexF : Nat → List UInt8 → Nat → List Tok × Option (Nat × Nat)
  | 0, _, a => ([], some (99, a))
  | f + 1, s, a => if a < s.length then
      (match wordAt (s.drop a) with
      | .error e => ([], some (e, a))
      | .ok (k, t, w, n) => (⟨k, a, t, w⟩ :: (lexF f s (nxt s (a + n + 1))).1, (lexF f s (nxt s (a + n + 1))).2))
    else ([⟨0, a, [], 0⟩], none)
theorem lexA_F : ∀ (f : Nat) (s : List UInt8) (a : Nat), s.length - a < f → lexA s a = lexF f s a
  | 0, s, a, h => by omega
  | f + 1, s, a, h => by
    unfold lexF
    by_cases hlt : a < s.length
    · rw [if_pos hlt]
      cases hw : wordAt (s.drop a) with
      | error e => rw [lexA_error s a e hlt hw]
      | ok x =>
        obtain ⟨k, t, w, n⟩ := x
        have hg := nxt_ge s (a + n + 1)
        rw [lexA_ok s a k w n t hlt hw, lexA_F f s _ (by omega)]
    · rw [if_neg hlt, lexA, dif_neg hlt]
def lexG (s : List UInt8) : List Tok × Nat × Nat :=
  match lexF (s.length + 1) s (nxt s 0) with
  | (ts, none) => (ts, 0, 0)
  | (_, some (e, a)) => ([], e, a)
theorem lexAll_G (s : List UInt8) (h : s.length ≤ 65536) : lexAll s = lexG s := by
  unfold lexAll lexG
  rw [if_neg (by omega), lexA_F (s.length + 1) s _ (by omega)]
  rcases lexF (s.length + 1) s (nxt s 0) with ⟨ts, _ | ⟨e, a⟩⟩ <;> rfl
end Go.Proofs.YtldamieigigncaaGreatDoor.lx

namespace Go.Proofs.YtldamieigigncaaGreatDoor.lx
open Go.ChangeShapes Go.WideShapes Go.ChangeAt Go.RowKit
set_option linter.unusedVariables false
end Go.Proofs.YtldamieigigncaaGreatDoor.lx

namespace Go.Proofs.YtldamieigigncaaGreatDoor.lx
open Go.ChangeShapes Go.WideShapes Go.ChangeAt Go.RowKit
set_option linter.unusedVariables false
attribute [local go_sem] run_store_float
theorem run_equalIn_float {P : Program} (w : World) (d : Nat) (t : TypeId) (k k' : FloatKind) (a b : Nat) (h : P.underlying t = some (.float k')) : (Op.equalIn (d + 1) t (.float k a) (.float k b)).run P w = .ok (k.format.order a b == some .eq) w := by
  simp [Op.equalIn, run_underlying h, Op.floatEq]
theorem ford0 : (FloatKind.f64.format.order 0 0 == some Ordering.eq) = true := by decide +kernel
attribute [local go_sem] run_equalIn_float ford0
end Go.Proofs.YtldamieigigncaaGreatDoor.lx

namespace Go.Proofs.YtldamieigigncaaGreatDoor.lx
open Go.ChangeShapes Go.WideShapes Go.ChangeAt Go.RowKit
set_option linter.unusedVariables false
theorem lex_bounds (s : List UInt8) : ∀ (m k : Nat), s.length - k < m → k ≤ s.length → (lexA s k).1.length ≤ s.length - k + 1 ∧ (∀ t ∈ (lexA s k).1, t.at_ ≤ s.length) ∧ ∀ e a, (lexA s k).2 = some (e, a) → 1 ≤ e ∧ a < s.length
  | 0, k, h, _ => by omega
  | m + 1, k, h, hk => by
    by_cases hlt : k < s.length
    · cases hx : wordAt (s.drop k) with
      | error e' =>
        rw [lexA_error _ _ e' hlt hx]
        refine ⟨by simp, fun t ht => by simp at ht, fun e a he => ?_⟩
        cases he
        exact ⟨(word_e hx).1, hlt⟩
      | ok y =>
        obtain ⟨kd, t, w, n⟩ := y
        have hn := word_n hx
        rw [List.length_drop] at hn
        have hg := nxt_ge s (k + n + 1)
        obtain ⟨h1, h2, h3⟩ := lex_bounds s m (nxt s (k + n + 1)) (by omega) (nxt_le s _ (by omega))
        rw [lexA_ok _ _ kd w n t hlt hx]
        refine ⟨by simp only [List.length_cons]; omega, fun t' ht => ?_, h3⟩
        rcases List.mem_cons.1 ht with rfl | ht
        · exact hk
        · exact h2 t' ht
    · rw [lexA, dif_neg hlt]
      refine ⟨by simp, fun t ht => ?_, fun e a he => by cases he⟩
      simp at ht
      subst ht
      exact hk
theorem err_ge (s : List UInt8) {x : List Tok} {e k : Nat} (h : lexA s (nxt s 0) = (x, some (e, k))) : 1 ≤ e ∧ k < s.length := by
  have := (lex_bounds s _ (nxt s 0) (Nat.lt_succ_self _) (nxt_le s 0 (Nat.zero_le _))).2.2 e k
  rw [h] at this
  exact this rfl
theorem ok_ge (s : List UInt8) {x : List Tok} {f : Option (Nat × Nat)} (h : lexA s (nxt s 0) = (x, f)) : x.length ≤ s.length + 1 ∧ ∀ t ∈ x, t.at_ ≤ s.length := by
  have := lex_bounds s _ (nxt s 0) (Nat.lt_succ_self _) (nxt_le s 0 (Nat.zero_le _))
  rw [h] at this
  exact ⟨by have := this.1; simp at this; omega, this.2.1⟩
end Go.Proofs.YtldamieigigncaaGreatDoor.lx

namespace Go.Proofs.YtldamieigigncaaGreatDoor.lx
open Go.ChangeShapes Go.WideShapes Go.ChangeAt Go.RowKit
set_option linter.unusedVariables false
attribute [local go_sem] run_store_float
theorem own_form {w : World} {base size n : Nat} {e : TypeId} {v : Value} {xs : List Value} (h : w.ownsRow base e size v n xs) : ∃ ao cap, v = .slice ao n cap := by
  obtain ⟨hl, ⟨h1, h2⟩ | ⟨g, cap, cur, hv, r⟩⟩ := h
  · exact ⟨none, 0, by rw [h1, h2]⟩
  · exact ⟨_, _, hv⟩
def ListT (w : World) (v : Value) (ts : List Tok) : Prop := ∃ ao cap, v = .slice ao ts.length cap ∧ (0 < ts.length → ∃ g, ao = some ⟨g, 0, none⟩ ∧ g < w.heap.size ∧ ∀ j u, (tcells ts)[j]? = some u → w.cell? ⟨g, j, none⟩ = some u)
theorem ListT.below {w w' : World} {v : Value} {ts : List Tok} (h : ListT w v ts) (hb : Below w.heap.size w w') : ListT w' v ts := by
  obtain ⟨ao, cap, e, h⟩ := h
  refine ⟨ao, cap, e, fun h0 => ?_⟩
  obtain ⟨g, e2, hg, hc⟩ := h h0
  exact ⟨g, e2, Nat.lt_of_lt_of_le hg hb.size, fun j u hj => (hb.cell (p := ⟨g, j, none⟩) hg).trans (hc j u hj)⟩
theorem Vs.alloc {w : World} {b off : Nat} (h : Vs w b off) (o : Obj) : Vs (w.alloc o) b off := h.below ((Below.refl _ _).alloc (Nat.le_refl _) _)
end Go.Proofs.YtldamieigigncaaGreatDoor.lx

