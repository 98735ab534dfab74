import Derived.Test.YtldamieigigncaaGreatDoorVaae
import Derived.Laws.StructEq
namespace Go.Proofs.YtldamieigigncaaGreatDoor.lx
open Go.ChangeShapes Go.WideShapes Go.ChangeAt Go.RowKit
set_option linter.unusedVariables false
/-! the document's own answers: names and quotes -/
theorem rletter_n (n : Nat) (hn : n < 256) (w : World) : Calls Tryz.prog 127 #[.int .u8 n] w fun e w' => e = .returned (.bool (letN n)) ∧ w = w' := by
  have h : (97 ≤ n ∧ n ≤ 122 ∧ letN n = true) ∨ (65 ≤ n ∧ n ≤ 90 ∧ letN n = true) ∨ (n < 65 ∧ letN n = false) ∨ (90 < n ∧ n < 97 ∧ letN n = false) ∨ (122 < n ∧ letN n = false) := by
    unfold letN
    simp only [decide_eq_true_iff, decide_eq_false_iff_not]
    omega
  rcases h with ⟨h1, h2, e⟩ | ⟨h1, h2, e⟩ | ⟨h1, e⟩ | ⟨h1, h2, e⟩ | ⟨h1, e⟩ <;> rw [e] <;> clear e
  all_goals
    go_enter Tryz.func127, Tryz.ntmps127
    go_wp2
    go_ret
    first | exact ⟨rfl, rfl⟩ | exact ⟨ret_bool (by simp; omega), rfl⟩
theorem rdigit_n (n : Nat) (hn : n < 256) (w : World) : Calls Tryz.prog 130 #[.int .u8 n] w fun e w' => e = .returned (.bool (digN n)) ∧ w = w' := by
  have h : (48 ≤ n ∧ n ≤ 57 ∧ digN n = true) ∨ (n < 48 ∧ digN n = false) ∨ (57 < n ∧ digN n = false) := by
    unfold digN
    simp only [decide_eq_true_iff, decide_eq_false_iff_not]
    omega
  rcases h with ⟨h1, h2, e⟩ | ⟨h1, e⟩ | ⟨h1, e⟩ <;> rw [e] <;> clear e
  all_goals
    go_enter Tryz.func130, Tryz.ntmps130
    go_wp2
    go_ret
    first | exact ⟨rfl, rfl⟩ | exact ⟨ret_bool (by simp; omega), rfl⟩
theorem rquot_n (n : Nat) (hn : n < 256) (w : World) : Calls Tryz.prog 129 #[.int .u8 n] w fun e w' => e = .returned (.bool (quoN n)) ∧ w = w' := by
  have h : (n < 32 ∧ quoN n = false) ∨ (126 < n ∧ quoN n = false) ∨ (n = 39 ∧ quoN n = false) ∨ (32 ≤ n ∧ n ≤ 126 ∧ n ≠ 39 ∧ quoN n = true) := by
    unfold quoN
    simp only [decide_eq_true_iff, decide_eq_false_iff_not]
    omega
  rcases h with ⟨h1, e⟩ | ⟨h1, e⟩ | ⟨rfl, e⟩ | ⟨h1, h2, h3, e⟩ <;> rw [e] <;> clear e
  · go_enter Tryz.func129, Tryz.ntmps129
    go_wp2
    go_ret
    first | exact ⟨rfl, rfl⟩ | exact ⟨ret_bool (by simp; omega), rfl⟩
  · go_enter Tryz.func129, Tryz.ntmps129
    go_wp2
    go_ret
    first | exact ⟨rfl, rfl⟩ | exact ⟨ret_bool (by simp; omega), rfl⟩
  · go_enter Tryz.func129, Tryz.ntmps129
    go_wp2
    go_ret
    first | exact ⟨rfl, rfl⟩ | exact ⟨ret_bool (by simp; omega), rfl⟩
  · have k3 : ((n : Int) != 39) = true := by rw [bne_iff_ne]; omega
    go_enter Tryz.func129, Tryz.ntmps129
    go_wp2
    go_ret
    first | exact ⟨rfl, rfl⟩ | exact ⟨ret_bool (by simp; omega), rfl⟩
theorem rinner_n (n : Nat) (hn : n < 256) (w : World) : Calls Tryz.prog 128 #[.int .u8 n] w fun e w' => e = .returned (.bool (namN n)) ∧ w = w' := by
  have hl := rletter_n n hn w
  have hd := rdigit_n n hn w
  have HE : Hid (namN n = (letN n || digN n || decide (n = 95))) := Lib.hid rfl
  generalize namN n = z at *
  cases h1 : letN n
  · rw [h1] at hl HE
    cases h2 : digN n
    · rw [h2] at hd HE
      by_cases h3 : n = 95
      · have k3 : ((n : Int) == 95) = true := by rw [beq_iff_eq]; omega
        have HZ : Hid (z = true) := Lib.hid (by rw [HE.out]; simp [h3])
        clear h1 h2 h3 HE
        go_enter Tryz.func128, Tryz.ntmps128
        go_wp2_with (first | (go_at_call 127; refine hl.mono ?_; rintro e w1 ⟨rfl, rfl⟩) | (go_at_call 130; refine hd.mono ?_; rintro e w2 ⟨rfl, rfl⟩))
        go_ret
        exact ⟨ret_bool HZ.out.symm, rfl⟩
      · have k3 : ((n : Int) == 95) = false := by rw [beq_eq_false_iff_ne]; omega
        have HZ : Hid (z = false) := Lib.hid (by rw [HE.out]; simp [h3])
        clear h1 h2 h3 HE
        go_enter Tryz.func128, Tryz.ntmps128
        go_wp2_with (first | (go_at_call 127; refine hl.mono ?_; rintro e w1 ⟨rfl, rfl⟩) | (go_at_call 130; refine hd.mono ?_; rintro e w2 ⟨rfl, rfl⟩))
        go_ret
        exact ⟨ret_bool HZ.out.symm, rfl⟩
    · rw [h2] at hd HE
      have HZ : Hid (z = true) := Lib.hid (by rw [HE.out]; simp)
      clear h1 h2 HE
      go_enter Tryz.func128, Tryz.ntmps128
      go_wp2_with (first | (go_at_call 127; refine hl.mono ?_; rintro e w1 ⟨rfl, rfl⟩) | (go_at_call 130; refine hd.mono ?_; rintro e w2 ⟨rfl, rfl⟩))
      go_ret
      exact ⟨ret_bool HZ.out.symm, rfl⟩
  · rw [h1] at hl HE
    have HZ : Hid (z = true) := Lib.hid (by rw [HE.out]; simp)
    clear h1 HE
    go_enter Tryz.func128, Tryz.ntmps128
    go_wp2_with (first | (go_at_call 127; refine hl.mono ?_; rintro e w1 ⟨rfl, rfl⟩) | (go_at_call 130; refine hd.mono ?_; rintro e w2 ⟨rfl, rfl⟩))
    go_ret
    exact ⟨ret_bool HZ.out.symm, rfl⟩
theorem all_false {p : UInt8 → Bool} {s : ByteArray} {k : Nat} (h : k < s.size) (hp : p s[k] = false) : s.data.toList.all p = false := by
  rw [Bool.eq_false_iff]
  intro ha
  have := List.all_eq_true.1 ha s[k] (by simp [ByteArray.getElem_eq_getElem_data])
  rw [hp] at this
  cases this
end Go.Proofs.YtldamieigigncaaGreatDoor.lx
namespace Go.Proofs.YtldamieigigncaaGreatDoor.lx
open Go.ChangeShapes Go.WideShapes Go.ChangeAt Go.RowKit
set_option linter.unusedVariables false
attribute [local go_sem] run_store_float
theorem run_equalIn_float {P : Program} (w : World) (d : Nat) (t : TypeId) (k k' : FloatKind) (a b : Nat) (h : P.underlying t = some (.float k')) : (Op.equalIn (d + 1) t (.float k a) (.float k b)).run P w = .ok (k.format.order a b == some .eq) w := by
  simp [Op.equalIn, run_underlying h, Op.floatEq]
theorem ford0 : (FloatKind.f64.format.order 0 0 == some Ordering.eq) = true := by decide +kernel
attribute [local go_sem] run_equalIn_float ford0
/-! what a name's text, and a quote's, are -/
theorem skip_stop {c : UInt8} {l : List UInt8} (h1 : c ≠ 35) (h2 : blkB c = false) : runN skipS false (c :: l) = 0 := by
  have e : (skipS false c).1 = false := by
    unfold skipS
    rw [beq_eq_false_iff_ne.2 h1, h2]
    rfl
  unfold runN
  rw [e]
  rfl
theorem let_stop {c : UInt8} (h : letB c = true) : c ≠ 35 ∧ blkB c = false := by
  rw [let_n] at h
  unfold letN at h
  rw [decide_eq_true_iff] at h
  refine ⟨?_, ?_⟩
  · rintro rfl
    revert h
    decide
  · rw [blk_n, decide_eq_false_iff_not]
    omega
theorem takeW_all {p : UInt8 → Bool} {l r : List UInt8} (h : l.all p = true) : (l ++ r).takeWhile p = l ++ r.takeWhile p := by
  rw [List.takeWhile_append_of_pos]
  exact fun a ha => List.all_eq_true.1 h a ha
theorem nxt_end (l : List UInt8) : nxt l l.length = l.length := by
  unfold nxt
  rw [List.drop_length]
  rfl
theorem lex_name (l : List UInt8) (h : isNameB l = true) : lexAll l = ([⟨1, 0, l, 0⟩, ⟨0, l.length, [], 0⟩], 0, 0) := by
  unfold isNameB at h
  simp only [Bool.and_eq_true, decide_eq_true_iff] at h
  obtain ⟨⟨⟨h1, h2⟩, h3⟩, h4⟩ := h
  cases l with
  | nil => simp at h1
  | cons c r =>
    have hc : letB c = true := by simpa using h3
    obtain ⟨s1, s2⟩ := let_stop hc
    have hn0 : nxt (c :: r) 0 = 0 := by
      unfold nxt
      rw [List.drop_zero, skip_stop s1 s2]
    have hr : runP namB r = r.length := by
      have h5 : r.all namB = true := by
        simp only [List.all_cons, Bool.and_eq_true] at h4
        exact h4.2
      have := run_all namB r
      rw [h5] at this
      exact of_decide_eq_true this
    have hw : wordAt ((c :: r).drop 0) = .ok (1, c :: r, 0, r.length) := by
      rw [List.drop_zero, word_let _ _ hc, hr, if_pos (by simpa using h2), List.take_of_length_le (by simp)]
    have hl : (c :: r).length = r.length + 1 := rfl
    unfold lexAll
    rw [if_neg (by omega), hn0, lexA_ok _ 0 1 0 r.length (c :: r) (by omega) hw, Nat.zero_add, ← hl, nxt_end, lexA_end]
theorem lex_quote (l : List UInt8) (h : isQuoteB l = true) : lexAll (39 :: (l ++ [39])) = ([⟨2, 0, l, 0⟩, ⟨0, l.length + 2, [], 0⟩], 0, 0) := by
  unfold isQuoteB at h
  simp only [Bool.and_eq_true, decide_eq_true_iff] at h
  obtain ⟨⟨h1, h2⟩, h4⟩ := h
  have hn0 : nxt (39 :: (l ++ [39])) 0 = 0 := by
    unfold nxt
    rw [List.drop_zero, skip_stop (by decide) (by decide)]
  have hr : runP quoB (l ++ [39]) = l.length := by
    unfold runP
    rw [takeW_all h4, List.takeWhile_cons_of_neg (by decide), List.append_nil]
  have hw : wordAt ((39 :: (l ++ [39])).drop 0) = .ok (2, l, 0, l.length + 1) := by
    rw [List.drop_zero, word_39, hr, if_neg (by
      rw [List.drop_left]
      simp
      rintro rfl
      simp at h1), if_pos h2, List.take_left]
  have hl : (39 :: (l ++ [39]) : List UInt8).length = l.length + 2 := by simp
  have ha : 0 + (l.length + 1) + 1 = (39 :: (l ++ [39]) : List UInt8).length := by omega
  unfold lexAll
  rw [if_neg (by omega), hn0, lexA_ok _ 0 2 0 (l.length + 1) l (by omega) hw, ha, nxt_end, lexA_end, hl]
theorem quoted (s : ByteArray) : ((ByteArray.mk #[39] ++ s) ++ ByteArray.mk #[39]).data.toList = 39 :: (s.data.toList ++ [39]) := by
  simp
end Go.Proofs.YtldamieigigncaaGreatDoor.lx
namespace Go.Proofs.YtldamieigigncaaGreatDoor.lx
open Go.ChangeShapes Go.WideShapes Go.ChangeAt Go.RowKit
set_option linter.unusedVariables false
/-! two texts with a line's end between -/
theorem runP_cut (p : UInt8 → Bool) (hp : p 10 = false) (x y : List UInt8) : runP p (x ++ 10 :: y) = runP p x := by
  unfold runP
  induction x with
  | nil => simp [hp]
  | cons c x ih =>
    rw [List.cons_append, List.takeWhile_cons, List.takeWhile_cons]
    by_cases h : p c = true
    · rw [if_pos h, if_pos h, List.length_cons, List.length_cons, ih]
    · rw [if_neg h, if_neg h]
theorem head_cut {x y : List UInt8} : (x ++ 10 :: y).head? ≠ some 39 ↔ x.head? ≠ some 39 := by
  cases x with
  | nil => simp
  | cons c x => simp
theorem word_cut (c : UInt8) (r y : List UInt8) : wordAt (c :: (r ++ 10 :: y)) = wordAt (c :: r) := by
  have h1 := runP_cut namB (by decide) r y
  have h2 := runP_cut quoB (by decide) r y
  have h3 := runP_cut wgtB (by decide) r y
  have l1 := runP_le namB r
  have l2 := runP_le quoB r
  have l3 := runP_le wgtB r
  have t1 : (c :: (r ++ 10 :: y)).take (runP namB r + 1) = (c :: r).take (runP namB r + 1) := by
    rw [List.take_succ_cons, List.take_succ_cons, List.take_append_of_le_length l1]
  have t2 : (r ++ 10 :: y).take (runP quoB r) = r.take (runP quoB r) := List.take_append_of_le_length l2
  have t3 : (r ++ 10 :: y).take (runP wgtB r) = r.take (runP wgtB r) := List.take_append_of_le_length l3
  have d2 : (r ++ 10 :: y).drop (runP quoB r) = r.drop (runP quoB r) ++ 10 :: y := List.drop_append_of_le_length l2
  have e2 : (runP quoB r = 0 ∨ ((r ++ 10 :: y).drop (runP quoB r)).head? ≠ some 39) ↔ (runP quoB r = 0 ∨ (r.drop (runP quoB r)).head? ≠ some 39) := by
    rw [d2]
    exact or_congr Iff.rfl head_cut
  rw [word_cons, word_cons, h1, h2, h3, t1, t2, t3]
  simp only [e2]
/-- the state behind a run -/
def runE {σ : Type} (st : σ → UInt8 → Bool × σ) : σ → List UInt8 → σ
  | s, [] => s
  | s, c :: l => runE st (st s c).2 l
theorem runN_app {σ : Type} (st : σ → UInt8 → Bool × σ) : ∀ (x y : List UInt8) (s : σ), runN st s (x ++ y) = if runN st s x = x.length then x.length + runN st (runE st s x) y else runN st s x
  | [], y, s => by simp [runN, runE]
  | c :: x, y, s => by
    have ih := runN_app st x y (st s c).2
    have e1 : runN st s (c :: x ++ y) = if (st s c).1 then runN st (st s c).2 (x ++ y) + 1 else 0 := rfl
    have e2 : runN st s (c :: x) = if (st s c).1 then runN st (st s c).2 x + 1 else 0 := rfl
    rw [e1, e2]
    by_cases h : (st s c).1 = true
    · rw [if_pos h, if_pos h, ih]
      by_cases h2 : runN st (st s c).2 x = x.length
      · rw [if_pos h2, if_pos (by rw [h2]; rfl)]
        show x.length + runN st (runE st (st s c).2 x) y + 1 = (x.length + 1) + runN st (runE st s (c :: x)) y
        have : runE st s (c :: x) = runE st (st s c).2 x := rfl
        rw [this]
        omega
      · rw [if_neg h2, if_neg (by simp only [List.length_cons]; omega)]
    · rw [if_neg h, if_neg h, if_neg (by simp)]
theorem skip_10 (r : Bool) (y : List UInt8) : runN skipS r (10 :: y) = runN skipS false y + 1 := by
  have e : skipS r 10 = (true, false) := by cases r <;> decide
  show (if (skipS r 10).1 then runN skipS (skipS r 10).2 y + 1 else 0) = _
  rw [e]
  rfl
def joinT (a b : List UInt8) : List UInt8 := a ++ 10 :: b
def phi (a b : List UInt8) (k : Nat) : Nat := if k < a.length then k else a.length + 1 + nxt b 0
theorem join_len (a b : List UInt8) : (joinT a b).length = a.length + 1 + b.length := by
  unfold joinT
  simp
  omega
theorem join_left (a b : List UInt8) (k : Nat) (h : k ≤ a.length) : (joinT a b).drop k = a.drop k ++ 10 :: b := List.drop_append_of_le_length h
theorem join_right (a b : List UInt8) (j : Nat) : (joinT a b).drop (a.length + 1 + j) = b.drop j := by
  unfold joinT
  rw [show a ++ 10 :: b = (a ++ [10]) ++ b from by simp, List.drop_append, List.drop_eq_nil_of_le (by simp), List.nil_append]
  congr 1
  simp
theorem nxt_left (a b : List UInt8) (k : Nat) (h : k ≤ a.length) : nxt (joinT a b) k = phi a b (nxt a k) := by
  have hle := runN_le skipS false (a.drop k)
  rw [List.length_drop] at hle
  unfold nxt phi
  rw [join_left a b k h, runN_app, List.length_drop]
  by_cases h2 : runN skipS false (a.drop k) = a.length - k
  · rw [if_pos h2, if_neg (by omega), skip_10]
    unfold nxt
    rw [List.drop_zero]
    omega
  · rw [if_neg h2, if_pos (by omega)]
theorem nxt_right (a b : List UInt8) (j : Nat) : nxt (joinT a b) (a.length + 1 + j) = a.length + 1 + nxt b j := by
  unfold nxt
  rw [join_right]
  omega
def shT (n : Nat) (t : Tok) : Tok := ⟨t.kind, t.at_ + n, t.text, t.wt⟩
theorem lex_right (a b : List UInt8) : ∀ (m j : Nat), b.length - j < m → j ≤ b.length → lexA (joinT a b) (a.length + 1 + j) = ((lexA b j).1.map (shT (a.length + 1)), (lexA b j).2.map fun x => (x.1, x.2 + (a.length + 1)))
  | 0, j, h, _ => by omega
  | m + 1, j, h, hj => by
    by_cases hlt : j < b.length
    · have hw : wordAt ((joinT a b).drop (a.length + 1 + j)) = wordAt (b.drop j) := by rw [join_right]
      have hlt2 : a.length + 1 + j < (joinT a b).length := by rw [join_len]; omega
      cases hx : wordAt (b.drop j) with
      | error e =>
        rw [lexA_error _ _ e hlt2 (hw.trans hx), lexA_error _ _ e hlt hx]
        simp
        omega
      | ok x =>
        obtain ⟨kd, t, w, n⟩ := x
        have hn := word_n hx
        rw [List.length_drop] at hn
        have hg := nxt_ge b (j + n + 1)
        have hle := nxt_le b (j + n + 1) (by omega)
        rw [lexA_ok _ _ kd w n t hlt2 (hw.trans hx), lexA_ok _ _ kd w n t hlt hx, show a.length + 1 + j + n + 1 = a.length + 1 + (j + n + 1) from by omega, nxt_right, lex_right a b m (nxt b (j + n + 1)) (by omega) hle]
        simp [shT]
        omega
    · obtain rfl : j = b.length := by omega
      rw [lexA_end, show a.length + 1 + b.length = (joinT a b).length from (join_len a b).symm, lexA_end, join_len]
      simp [shT]
      omega
theorem lex_ne (s : List UInt8) : ∀ (m k : Nat), s.length - k < m → (lexA s k).2 = none → (lexA s k).1 ≠ []
  | 0, k, h, _ => by omega
  | m + 1, k, h, hn => by
    by_cases hlt : k < s.length
    · cases hx : wordAt (s.drop k) with
      | error e =>
        rw [lexA_error _ _ e hlt hx] at hn
        cases hn
      | ok x =>
        obtain ⟨kd, t, w, n⟩ := x
        rw [lexA_ok _ _ kd w n t hlt hx]
        simp
    · rw [lexA, dif_neg hlt]
      simp
def joinA (a b : List UInt8) (x : List Tok × Option (Nat × Nat)) : List Tok × Option (Nat × Nat) :=
  match x.2 with
  | some f => (x.1, some f)
  | none => (x.1.dropLast ++ (lexA b (nxt b 0)).1.map (shT (a.length + 1)), (lexA b (nxt b 0)).2.map fun x => (x.1, x.2 + (a.length + 1)))
theorem joinA_cons (a b : List UInt8) (t : Tok) (x : List Tok × Option (Nat × Nat)) (h : x.2 = none → x.1 ≠ []) : joinA a b (t :: x.1, x.2) = (t :: (joinA a b x).1, (joinA a b x).2) := by
  obtain ⟨ts, f⟩ := x
  cases f with
  | some f => rfl
  | none =>
    have hne := h rfl
    cases ts with
    | nil => exact absurd rfl hne
    | cons u ts => simp [joinA]
theorem lex_left (a b : List UInt8) : ∀ (m k : Nat), a.length - k < m → k ≤ a.length → lexA (joinT a b) (phi a b k) = joinA a b (lexA a k)
  | 0, k, h, _ => by omega
  | m + 1, k, h, hk => by
    by_cases hlt : k < a.length
    · have hp : phi a b k = k := if_pos hlt
      have hlt2 : k < (joinT a b).length := by rw [join_len]; omega
      have hw : wordAt ((joinT a b).drop k) = wordAt (a.drop k) := by
        rw [join_left a b k hk, List.drop_eq_getElem_cons hlt, List.cons_append, word_cut]
      rw [hp]
      cases hx : wordAt (a.drop k) with
      | error e =>
        rw [lexA_error _ _ e hlt2 (hw.trans hx), lexA_error _ _ e hlt hx]
        rfl
      | ok x =>
        obtain ⟨kd, t, w, n⟩ := x
        have hn := word_n hx
        rw [List.length_drop] at hn
        have hg := nxt_ge a (k + n + 1)
        have hle := nxt_le a (k + n + 1) (by omega)
        rw [lexA_ok _ _ kd w n t hlt2 (hw.trans hx), lexA_ok _ _ kd w n t hlt hx, nxt_left a b (k + n + 1) (by omega), lex_left a b m (nxt a (k + n + 1)) (by omega) hle, joinA_cons a b _ _ (lex_ne a _ _ (Nat.lt_succ_self _))]
    · obtain rfl : k = a.length := by omega
      have hp : phi a b a.length = a.length + 1 + nxt b 0 := if_neg (Nat.lt_irrefl _)
      rw [hp, lexA_end, lex_right a b _ (nxt b 0) (Nat.lt_succ_self _) (nxt_le b 0 (Nat.zero_le _))]
      simp [joinA]
theorem lex_bounds (s : List UInt8) : ∀ (m k : Nat), s.length - k < m → k ≤ s.length → (lexA s k).1.length ≤ s.length - k + 1 ∧ (∀ t ∈ (lexA s k).1, t.at_ ≤ s.length) ∧ ∀ e a, (lexA s k).2 = some (e, a) → 1 ≤ e ∧ a < s.length
  | 0, k, h, _ => by omega
  | m + 1, k, h, hk => by
    by_cases hlt : k < s.length
    · cases hx : wordAt (s.drop k) with
      | error e' =>
        rw [lexA_error _ _ e' hlt hx]
        refine ⟨by simp, fun t ht => by simp at ht, fun e a he => ?_⟩
        cases he
        exact ⟨(word_e hx).1, hlt⟩
      | ok y =>
        obtain ⟨kd, t, w, n⟩ := y
        have hn := word_n hx
        rw [List.length_drop] at hn
        have hg := nxt_ge s (k + n + 1)
        obtain ⟨h1, h2, h3⟩ := lex_bounds s m (nxt s (k + n + 1)) (by omega) (nxt_le s _ (by omega))
        rw [lexA_ok _ _ kd w n t hlt hx]
        refine ⟨by simp only [List.length_cons]; omega, fun t' ht => ?_, h3⟩
        rcases List.mem_cons.1 ht with rfl | ht
        · exact hk
        · exact h2 t' ht
    · rw [lexA, dif_neg hlt]
      refine ⟨by simp, fun t ht => ?_, fun e a he => by cases he⟩
      simp at ht
      subst ht
      exact hk
theorem err_ge (s : List UInt8) {x : List Tok} {e k : Nat} (h : lexA s (nxt s 0) = (x, some (e, k))) : 1 ≤ e ∧ k < s.length := by
  have := (lex_bounds s _ (nxt s 0) (Nat.lt_succ_self _) (nxt_le s 0 (Nat.zero_le _))).2.2 e k
  rw [h] at this
  exact this rfl
theorem ok_ge (s : List UInt8) {x : List Tok} {f : Option (Nat × Nat)} (h : lexA s (nxt s 0) = (x, f)) : x.length ≤ s.length + 1 ∧ ∀ t ∈ x, t.at_ ≤ s.length := by
  have := lex_bounds s _ (nxt s 0) (Nat.lt_succ_self _) (nxt_le s 0 (Nat.zero_le _))
  rw [h] at this
  exact ⟨by have := this.1; simp at this; omega, this.2.1⟩
/-- the words of two texts -/
theorem lex_join (a b : List UInt8) (ha : a.length ≤ 600) (hb : b.length ≤ 600) : (∃ e k, (1 ≤ e ∧ k < a.length) ∧ lexAll a = ([], e, k) ∧ lexAll (joinT a b) = ([], e, k)) ∨ (∃ x e k, (1 ≤ e ∧ k < b.length) ∧ (x ≠ [] ∧ x.length ≤ a.length + 1) ∧ lexAll a = (x, 0, 0) ∧ lexAll b = ([], e, k) ∧ lexAll (joinT a b) = ([], e, k + (a.length + 1))) ∨ (∃ x y, (x ≠ [] ∧ x.length ≤ a.length + 1 ∧ ∀ t ∈ x, t.at_ ≤ a.length) ∧ (y ≠ [] ∧ y.length ≤ b.length + 1 ∧ ∀ t ∈ y, t.at_ ≤ b.length) ∧ lexAll a = (x, 0, 0) ∧ lexAll b = (y, 0, 0) ∧ lexAll (joinT a b) = (x.dropLast ++ y.map (shT (a.length + 1)), 0, 0)) := by
  have hj := join_len a b
  have e0 := nxt_left a b 0 (Nat.zero_le _)
  have e1 := lex_left a b _ (nxt a 0) (Nat.lt_succ_self _) (nxt_le a 0 (Nat.zero_le _))
  have na := lex_ne a _ (nxt a 0) (Nat.lt_succ_self _)
  have nb := lex_ne b _ (nxt b 0) (Nat.lt_succ_self _)
  unfold lexAll
  rw [if_neg (by omega), if_neg (by omega), if_neg (by omega), e0, e1]
  unfold joinA
  rcases hA : lexA a (nxt a 0) with ⟨x, f⟩
  rw [hA] at na
  cases f with
  | some f =>
    obtain ⟨e, k⟩ := f
    exact .inl ⟨e, k, err_ge a hA, rfl, rfl⟩
  | none =>
    rcases hB : lexA b (nxt b 0) with ⟨y, f⟩
    rw [hB] at nb
    cases f with
    | some f =>
      obtain ⟨e, k⟩ := f
      exact .inr (.inl ⟨x, e, k, err_ge b hB, ⟨na rfl, (ok_ge a hA).1⟩, rfl, rfl, rfl⟩)
    | none => exact .inr (.inr ⟨x, y, ⟨na rfl, ok_ge a hA⟩, ⟨nb rfl, ok_ge b hB⟩, rfl, rfl, rfl⟩)
end Go.Proofs.YtldamieigigncaaGreatDoor.lx
namespace Go.Proofs.YtldamieigigncaaGreatDoor.lx
open Go.ChangeShapes Go.WideShapes Go.ChangeAt Go.RowKit
set_option linter.unusedVariables false
attribute [local go_sem] run_store_float
theorem joined (s t : ByteArray) : ((s ++ ByteArray.mk #[10]) ++ t).data.toList = joinT s.data.toList t.data.toList := by
  unfold joinT
  simp
theorem own_form {w : World} {base size n : Nat} {e : TypeId} {v : Value} {xs : List Value} (h : w.ownsRow base e size v n xs) : ∃ ao cap, v = .slice ao n cap := by
  obtain ⟨hl, ⟨h1, h2⟩ | ⟨g, cap, cur, hv, r⟩⟩ := h
  · exact ⟨none, 0, by rw [h1, h2]⟩
  · exact ⟨_, _, hv⟩
/-- a list of words in memory -/
def ListT (w : World) (v : Value) (ts : List Tok) : Prop := ∃ ao cap, v = .slice ao ts.length cap ∧ (0 < ts.length → ∃ g, ao = some ⟨g, 0, none⟩ ∧ g < w.heap.size ∧ ∀ j u, (tcells ts)[j]? = some u → w.cell? ⟨g, j, none⟩ = some u)
theorem ListT.of_own {w : World} {B : Nat} {v : Value} {ts : List Tok} (h : w.ownsRow B 162 4 v ts.length (tcells ts)) : ListT w v ts := by
  by_cases h0 : 0 < ts.length
  · obtain ⟨g, cap, e, _, hg, hc⟩ := own_open h h0
    exact ⟨_, cap, e, fun _ => ⟨g, rfl, hg, hc⟩⟩
  · obtain ⟨ao, cap, e⟩ := own_form h
    exact ⟨ao, cap, e, fun h => absurd h h0⟩
theorem ListT.below {w w' : World} {v : Value} {ts : List Tok} (h : ListT w v ts) (hb : Below w.heap.size w w') : ListT w' v ts := by
  obtain ⟨ao, cap, e, h⟩ := h
  refine ⟨ao, cap, e, fun h0 => ?_⟩
  obtain ⟨g, e2, hg, hc⟩ := h h0
  exact ⟨g, e2, Nat.lt_of_lt_of_le hg hb.size, fun j u hj => (hb.cell (p := ⟨g, j, none⟩) hg).trans (hc j u hj)⟩
theorem tcells_at : ∀ (ts : List Tok) (k j : Nat), k < ts.length → j < 4 → (tcells ts)[k * 4 + j]? = (tokC (ts.getD k ⟨0, 0, [], 0⟩))[j]?
  | [], k, j, h, _ => by simp at h
  | t :: ts, 0, j, h, hj => by
    have : tcells (t :: ts) = tokC t ++ tcells ts := rfl
    rw [this, Nat.zero_mul, Nat.zero_add, List.getElem?_append_left (by simp [tokC]; omega)]
    rfl
  | t :: ts, k + 1, j, h, hj => by
    have : tcells (t :: ts) = tokC t ++ tcells ts := rfl
    have hl : (tokC t).length = 4 := rfl
    rw [this, List.getElem?_append_right (by omega), show (k + 1) * 4 + j - (tokC t).length = k * 4 + j from by omega, tcells_at ts k j (by simpa using h) hj]
    rfl
theorem getT_mem {ts : List Tok} {k : Nat} (h : k < ts.length) : ts.getD k ⟨0, 0, [], 0⟩ ∈ ts := by
  rw [List.getD_eq_getElem?_getD, List.getElem?_eq_getElem h]
  exact List.getElem_mem h
theorem Vs.alloc {w : World} {b off : Nat} (h : Vs w b off) (o : Obj) : Vs (w.alloc o) b off := h.below ((Below.refl _ _).alloc (Nat.le_refl _) _)
end Go.Proofs.YtldamieigigncaaGreatDoor.lx
namespace Go.Proofs.YtldamieigigncaaGreatDoor.lx
open Go.ChangeShapes Go.WideShapes Go.ChangeAt Go.RowKit
set_option linter.unusedVariables false
/-! definitions: what the document says -/
inductive Itm where
  | mk (at_ kind : Nat) (text : List UInt8) (alts : List (Nat × Nat × List Itm)) (op : Nat)
def Itm.at_ : Itm → Nat | .mk a _ _ _ _ => a
def Itm.kind : Itm → Nat | .mk _ k _ _ _ => k
def Itm.text : Itm → List UInt8 | .mk _ _ t _ _ => t
def Itm.alts : Itm → List (Nat × Nat × List Itm) | .mk _ _ _ a _ => a
def Itm.op : Itm → Nat | .mk _ _ _ _ o => o
abbrev Altn := Nat × Nat × List Itm
abbrev Dfn := Nat × List UInt8 × List Altn
abbrev Res (α : Type) := Except (Nat × Nat) (α × List Tok)
def hd (ts : List Tok) : Tok := ts.headD ⟨0, 0, [], 0⟩
def sgOf (t : Tok) : Nat := if t.kind = 4 then (t.text.headD 0).toNat else 0
def sg (ts : List Tok) : Nat := sgOf (hd ts)
def atIt (t : Tok) : Bool := t.kind == 1 || t.kind == 2 || sgOf t == 40
def isOp (n : Nat) : Bool := n == 63 || n == 42 || n == 43
def opOf (ts : List Tok) : Nat := if isOp (sg ts) then sg ts else 0
def opTl (ts : List Tok) : List Tok := if isOp (sg ts) then ts.tail else ts
def pItem (sub : List Tok → Res (List Altn)) (ts : List Tok) : Res Itm :=
  if (hd ts).kind = 1 then .ok (.mk (hd ts).at_ 0 (hd ts).text [] (opOf ts.tail), opTl ts.tail)
  else if (hd ts).kind = 2 then .ok (.mk (hd ts).at_ 1 (hd ts).text [] (opOf ts.tail), opTl ts.tail)
  else match sub ts with
  | .error e => .error e
  | .ok (bs, r) => .ok (.mk (hd ts).at_ 2 [] bs (opOf r), opTl r)
def pItems (sub : List Tok → Res (List Altn)) : Nat → List Tok → Res (List Itm)
  | 0, _ => .error (99, 0)
  | f + 1, ts => if atIt (hd ts) then
      (match pItem sub ts with
      | .error e => .error e
      | .ok (i, r) => match pItems sub f r with
        | .error e => .error e
        | .ok (is, r2) => .ok (i :: is, r2))
    else .ok ([], ts)
def wtOf (t : Tok) : Nat := if t.kind = 3 then t.wt else 0
def wtTl (ts : List Tok) : List Tok := if (hd ts).kind = 3 then ts.tail else ts
def pAlt (sub : List Tok → Res (List Altn)) (ts : List Tok) : Res Altn :=
  match pItems sub (wtTl ts).length (wtTl ts) with
  | .error e => .error e
  | .ok (is, r) => .ok (((hd ts).at_, wtOf (hd ts), is), r)
def pMore (sub : List Tok → Res (List Altn)) : Nat → List Tok → Res (List Altn)
  | 0, _ => .error (99, 0)
  | f + 1, ts => if sg ts = 124 then
      (match pAlt sub ts.tail with
      | .error e => .error e
      | .ok (a, r) => match pMore sub f r with
        | .error e => .error e
        | .ok (bs, r2) => .ok (a :: bs, r2))
    else .ok ([], ts)
def pAlts (sub : List Tok → Res (List Altn)) (ts : List Tok) : Res (List Altn) :=
  match pAlt sub ts with
  | .error e => .error e
  | .ok (a, r) => match pMore sub r.length r with
    | .error e => .error e
    | .ok (bs, r2) => .ok (a :: bs, r2)
def pShut (c : Nat) (x : Res (List Altn)) : Res (List Altn) :=
  match x with
  | .error e => .error e
  | .ok (bs, r) => if sg r = c then .ok (bs, r.tail) else .error (5, (hd r).at_)
/-- alternatives, so many brackets more deep at most -/
def pA : Nat → List Tok → Res (List Altn)
  | 0, ts => pAlts (fun r => .error (6, (hd r).at_)) ts
  | d + 1, ts => pAlts (fun r => pShut 41 (pA d r.tail)) ts
def pSub : Nat → List Tok → Res (List Altn)
  | 0, r => .error (6, (hd r).at_)
  | d + 1, r => pShut 41 (pA d r.tail)
theorem pA_sub (d : Nat) (ts : List Tok) : pA d ts = pAlts (pSub d) ts := by cases d <;> rfl
def pDef (ts : List Tok) : Res Dfn :=
  if (hd ts).kind = 1 then
    (if sg ts.tail = 61 then
      (match pShut 59 (pA 16 ts.tail.tail) with
      | .error e => .error e
      | .ok (bs, r) => .ok (((hd ts).at_, (hd ts).text, bs), r))
    else .error (5, (hd ts.tail).at_))
  else .error (5, (hd ts).at_)
def pText : Nat → List Tok → Except (Nat × Nat) (List Dfn)
  | 0, _ => .error (99, 0)
  | f + 1, ts => match pDef ts with
    | .error e => .error e
    | .ok (d, r) => if (hd r).kind = 0 then .ok [d] else match pText f r with
      | .error e => .error e
      | .ok ds => .ok (d :: ds)
/-- a text's definitions, or what is wrong, and where -/
def readAll (s : List UInt8) : List Dfn × Nat × Nat :=
  if (lexAll s).2.1 = 0 then
    (match pText (lexAll s).1.length (lexAll s).1 with
    | .error e => ([], e)
    | .ok ds => (ds, 0, 0))
  else ([], (lexAll s).2)
/-! words in their order -/
def Good : List Tok → Prop
  | [] => False
  | [t] => t.kind = 0
  | t :: u :: r => (1 ≤ t.kind ∧ t.kind ≤ 4 ∧ (t.kind = 4 → ∃ c : UInt8, t.text = [c] ∧ 0 < c.toNat)) ∧ Good (u :: r)
theorem Good.ne {ts : List Tok} (h : Good ts) : ∃ t r, ts = t :: r := by
  cases ts with
  | nil => exact h.elim
  | cons t r => exact ⟨t, r, rfl⟩
theorem Good.tail {t : Tok} {r : List Tok} (h : Good (t :: r)) (hk : t.kind ≠ 0) : Good r := by
  cases r with
  | nil => exact absurd h hk
  | cons u r => exact h.2
theorem Good.kind {t : Tok} {r : List Tok} (h : Good (t :: r)) : t.kind ≤ 4 := by
  cases r with
  | nil => have : t.kind = 0 := h; omega
  | cons u r => exact h.1.2.1
theorem Good.sign {t : Tok} {r : List Tok} (h : Good (t :: r)) (hk : t.kind = 4) : ∃ c : UInt8, t.text = [c] ∧ 0 < c.toNat := by
  cases r with
  | nil => have : t.kind = 0 := h; omega
  | cons u r => exact h.1.2.2 hk
theorem Good.pos {ts : List Tok} (h : Good ts) : 0 < ts.length := by
  obtain ⟨t, r, rfl⟩ := h.ne
  simp
theorem word_sign {l : List UInt8} {w n : Nat} {t : List UInt8} (h : wordAt l = .ok (4, t, w, n)) : ∃ c : UInt8, t = [c] ∧ 0 < c.toNat := by
  cases l with
  | nil => cases h
  | cons c r =>
    rw [word_cons] at h
    have hs : sgnB c = true → 0 < c.toNat := fun hb => by
      rcases Nat.eq_zero_or_pos c.toNat with h0 | h0
      · obtain rfl : c = 0 := UInt8.toNat_inj.1 (by simpa using h0)
        exact absurd hb (by decide)
      · exact h0
    repeat' split at h
    all_goals first | (cases h; done) | (cases h; exact ⟨_, rfl, hs (by assumption)⟩)
theorem word_kind {l : List UInt8} {k w n : Nat} {t : List UInt8} (h : wordAt l = .ok (k, t, w, n)) : 1 ≤ k ∧ k ≤ 4 := by
  cases l with
  | nil => cases h
  | cons c r =>
    rw [word_cons] at h
    repeat' split at h
    all_goals first | (cases h; done) | (cases h; decide)
theorem lex_good (s : List UInt8) : ∀ (m k : Nat), s.length - k < m → k ≤ s.length → ∀ ts, lexA s k = (ts, none) → Good ts
  | 0, k, h, _, _, _ => by omega
  | m + 1, k, h, hk, ts, hts => by
    by_cases hlt : k < s.length
    · cases hx : wordAt (s.drop k) with
      | error e =>
        rw [lexA_error _ _ e hlt hx] at hts
        cases hts
      | ok x =>
        obtain ⟨kd, t, w, n⟩ := x
        have hn := word_n hx
        rw [List.length_drop] at hn
        have hg := nxt_ge s (k + n + 1)
        have hle := nxt_le s (k + n + 1) (by omega)
        have hkd := word_kind hx
        rw [lexA_ok _ _ kd w n t hlt hx] at hts
        rcases hy : lexA s (nxt s (k + n + 1)) with ⟨us, f⟩
        rw [hy] at hts
        obtain rfl : f = none := congrArg Prod.snd hts
        obtain rfl : ⟨kd, k, t, w⟩ :: us = ts := congrArg Prod.fst hts
        have ih := lex_good s m _ (by omega) hle _ hy
        obtain ⟨u, r, rfl⟩ := ih.ne
        refine ⟨⟨hkd.1, hkd.2, fun h4 => ?_⟩, ih⟩
        have h4 : kd = 4 := h4
        subst h4
        exact word_sign hx
    · rw [lexA, dif_neg hlt] at hts
      obtain rfl : _ = ts := congrArg Prod.fst hts
      rfl
theorem all_good (s : List UInt8) (h : (lexAll s).2.1 = 0) : Good (lexAll s).1 ∧ (lexAll s).2.2 = 0 := by
  unfold lexAll at h ⊢
  by_cases hb : 65536 < s.length
  · rw [if_pos hb] at h
    exact absurd h (by decide)
  · rw [if_neg hb] at h ⊢
    rcases hA : lexA s (nxt s 0) with ⟨x, f⟩
    rw [hA] at h
    cases f with
    | some f =>
      obtain ⟨e, k⟩ := f
      have := err_ge s hA
      have h : e = 0 := h
      omega
    | none => exact ⟨lex_good s _ _ (Nat.lt_succ_self _) (nxt_le s 0 (Nat.zero_le _)) _ hA, rfl⟩
end Go.Proofs.YtldamieigigncaaGreatDoor.lx
