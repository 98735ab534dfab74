import Derived.Test.YtjddjdpgnoebnaaGreatDoorLxl
namespace Go.Proofs.YtjddjdpgnoebnaaGreatDoor.lx
open Go.ChangeShapes Go.WideShapes Go.ChangeAt Go.RowKit
set_option linter.unusedVariables false
attribute [local go_sem] run_store_float
def isNameB (l : List UInt8) : Bool := decide (1 ≤ l.length) && decide (l.length ≤ 24) && letB (l.getD 0 0) && l.all namB
def isQuoteB (l : List UInt8) : Bool := decide (1 ≤ l.length) && decide (l.length ≤ 16) && l.all quoB
theorem run_all (p : UInt8 → Bool) (l : List UInt8) : decide (runP p l = l.length) = l.all p := by
  rw [Bool.eq_iff_iff, decide_eq_true_iff, List.all_eq_true]
  unfold runP
  induction l with
  | nil => simp
  | cons c l ih =>
    rw [List.takeWhile_cons]
    by_cases h : p c = true
    · rw [if_pos h]
      simp only [List.length_cons, Nat.add_right_cancel_iff, List.mem_cons, forall_eq_or_imp]
      rw [ih]
      simp [h]
    · rw [if_neg h]
      simp [h]
theorem str_ne (s : ByteArray) (h : 0 < s.size) : s.toList.isEmpty = false ∧ (s.toList == []) = false := by
  have hd := bytes_drop s 0 h
  rw [List.drop_zero, list_data] at hd
  rw [hd]
  exact ⟨rfl, rfl⟩
theorem str_nil (s : ByteArray) (h : s.size < 1) : s = ⟨#[]⟩ := str_S (list_nil s h)
set_option maxRecDepth 100000 in
set_option maxHeartbeats 1000000 in
theorem isname_any (s : ByteArray) (hs : s.size ≤ maxLen) (w : World) : Calls Tryz.prog 14 #[.string s] w fun e w' => e = .returned (.bool (isNameB s.data.toList)) ∧ w = w' := by
  have hr := fun w => run_name s hs 0 (Nat.zero_le _) w
  rw [List.drop_zero, Nat.zero_add] at hr
  have hl : s.data.toList.length = s.size := by simp
  have HE : Hid (isNameB s.data.toList = (decide (1 ≤ s.size) && decide (s.size ≤ 24) && letB (s.data.toList.getD 0 0) && decide (runP namB s.data.toList = s.size))) := Lib.hid (by
    rw [← hl, run_all]
    rfl)
  generalize isNameB s.data.toList = z at *
  generalize runP namB s.data.toList = n at *
  unfold maxLen at hs
  clear hl
  by_cases h0 : 0 < s.size
  · obtain ⟨k0, k0'⟩ := str_ne s h0
    have hlt := letter_n s[0].toNat (b_lt _)
    rw [← let_n] at hlt
    have HG : Hid (s.data.toList.getD 0 0 = s[0]) := Lib.hid (by
      have := bytes_drop s 0 h0
      rw [List.drop_zero] at this
      rw [this]
      rfl)
    by_cases h1 : s.size ≤ 24
    · cases h2 : letB s[0]
      · rw [h2] at hlt
        have HZ : Hid (z = false) := Lib.hid (by rw [HE.out, HG.out, h2]; simp)
        clear h2 HE
        go_enter Tryz.func14, Tryz.ntmps14
        go_wp2_with (go_at_call 30; refine (hlt _).mono ?_; rintro e w1 ⟨rfl, rfl⟩)
        go_ret
        exact ⟨ret_bool HZ.out.symm, rfl⟩
      · rw [h2] at hlt
        have HZ : Hid (z = decide (n = s.size)) := Lib.hid (by rw [HE.out, HG.out, h2, decide_eq_true (show 1 ≤ s.size by omega), decide_eq_true h1]; simp)
        clear h2 HE
        go_enter Tryz.func14, Tryz.ntmps14
        go_wp2_with (first | (go_at_call 30; refine (hlt _).mono ?_; rintro e w1 ⟨rfl, rfl⟩) | (go_at_call 31; refine (hr _).mono ?_; rintro e w1 ⟨rfl, rfl⟩))
        go_ret
        refine ⟨ret_bool ?_, rfl⟩
        rw [HZ.out, Bool.eq_iff_iff]
        simp
        omega
    · have HZ : Hid (z = false) := Lib.hid (by rw [HE.out, decide_eq_false h1]; simp)
      clear HE
      go_enter Tryz.func14, Tryz.ntmps14
      go_wp2
      go_ret
      exact ⟨ret_bool HZ.out.symm, rfl⟩
  · have HZ : Hid (z = false) := Lib.hid (by rw [HE.out, decide_eq_false (show ¬ 1 ≤ s.size by omega)]; simp)
    obtain rfl := str_nil s (by omega)
    clear HE
    go_enter Tryz.func14, Tryz.ntmps14
    go_wp2
    go_ret
    exact ⟨ret_bool HZ.out.symm, rfl⟩
set_option maxRecDepth 100000 in
set_option maxHeartbeats 1000000 in
theorem isquote_any (s : ByteArray) (hs : s.size ≤ maxLen) (w : World) : Calls Tryz.prog 16 #[.string s] w fun e w' => e = .returned (.bool (isQuoteB s.data.toList)) ∧ w = w' := by
  have hr := fun w => run_quote s hs 0 (Nat.zero_le _) w
  rw [List.drop_zero, Nat.zero_add] at hr
  have hl : s.data.toList.length = s.size := by simp
  have HE : Hid (isQuoteB s.data.toList = (decide (1 ≤ s.size) && decide (s.size ≤ 16) && decide (runP quoB s.data.toList = s.size))) := Lib.hid (by
    rw [← hl, run_all]
    rfl)
  generalize isQuoteB s.data.toList = z at *
  generalize runP quoB s.data.toList = n at *
  unfold maxLen at hs
  clear hl
  by_cases h0 : 0 < s.size
  · obtain ⟨k0, k0'⟩ := str_ne s h0
    by_cases h1 : s.size ≤ 16
    · have HZ : Hid (z = decide (n = s.size)) := Lib.hid (by rw [HE.out, decide_eq_true (show 1 ≤ s.size by omega), decide_eq_true h1]; simp)
      clear HE
      go_enter Tryz.func16, Tryz.ntmps16
      go_wp2_with (go_at_call 31; refine (hr _).mono ?_; rintro e w1 ⟨rfl, rfl⟩)
      go_ret
      refine ⟨ret_bool ?_, rfl⟩
      rw [HZ.out, Bool.eq_iff_iff]
      simp
      omega
    · have HZ : Hid (z = false) := Lib.hid (by rw [HE.out, decide_eq_false h1]; simp)
      clear HE
      go_enter Tryz.func16, Tryz.ntmps16
      go_wp2
      go_ret
      exact ⟨ret_bool HZ.out.symm, rfl⟩
  · have HZ : Hid (z = false) := Lib.hid (by rw [HE.out, decide_eq_false (show ¬ 1 ≤ s.size by omega)]; simp)
    obtain rfl := str_nil s (by omega)
    clear HE
    go_enter Tryz.func16, Tryz.ntmps16
    go_wp2
    go_ret
    exact ⟨ret_bool HZ.out.symm, rfl⟩
/-! words of a text that is known -/
def lexF : Nat → List UInt8 → Nat → List Tok × Option (Nat × Nat)
  | 0, _, a => ([], some (99, a))
  | f + 1, s, a => if a < s.length then
      (match wordAt (s.drop a) with
      | .error e => ([], some (e, a))
      | .ok (k, t, w, n) => (⟨k, a, t, w⟩ :: (lexF f s (nxt s (a + n + 1))).1, (lexF f s (nxt s (a + n + 1))).2))
    else ([⟨0, a, [], 0⟩], none)
theorem lexA_F : ∀ (f : Nat) (s : List UInt8) (a : Nat), s.length - a < f → lexA s a = lexF f s a
  | 0, s, a, h => by omega
  | f + 1, s, a, h => by
    unfold lexF
    by_cases hlt : a < s.length
    · rw [if_pos hlt]
      cases hw : wordAt (s.drop a) with
      | error e => rw [lexA_error s a e hlt hw]
      | ok x =>
        obtain ⟨k, t, w, n⟩ := x
        have hg := nxt_ge s (a + n + 1)
        rw [lexA_ok s a k w n t hlt hw, lexA_F f s _ (by omega)]
    · rw [if_neg hlt, lexA, dif_neg hlt]
def lexG (s : List UInt8) : List Tok × Nat × Nat :=
  match lexF (s.length + 1) s (nxt s 0) with
  | (ts, none) => (ts, 0, 0)
  | (_, some (e, a)) => ([], e, a)
theorem lexAll_G (s : List UInt8) (h : s.length ≤ 65536) : lexAll s = lexG s := by
  unfold lexAll lexG
  rw [if_neg (by omega), lexA_F (s.length + 1) s _ (by omega)]
  rcases lexF (s.length + 1) s (nxt s 0) with ⟨ts, _ | ⟨e, a⟩⟩ <;> rfl
theorem al1 : lexAll [101, 32, 61, 32, 37, 45, 48, 32, 39, 97, 39, 32, 101, 63, 32, 59, 32, 35, 32, 116, 119, 111, 10] = ([⟨1, 0, [101], 0⟩, ⟨4, 2, [61], 0⟩, ⟨3, 4, [45, 48], 9223372036854775808⟩, ⟨2, 8, [97], 0⟩, ⟨1, 12, [101], 0⟩, ⟨4, 13, [63], 0⟩, ⟨4, 15, [59], 0⟩, ⟨0, 23, [], 0⟩], 0, 0) := by
  rw [lexAll_G _ (by decide)]
  kernel_rfl
theorem al2 : lexAll [101, 32, 61, 32, 39, 97] = ([], 3, 4) := by
  rw [lexAll_G _ (by decide)]
  kernel_rfl
theorem own_open {w : World} {base size n : Nat} {e : TypeId} {v : Value} {xs : List Value} (h : w.ownsRow base e size v n xs) (hn : 0 < n) : ∃ g cap, v = .slice (some ⟨g, 0, none⟩) n cap ∧ base ≤ g ∧ g < w.heap.size ∧ ∀ j u, xs[j]? = some u → w.cell? ⟨g, j, none⟩ = some u := by
  have h' := h
  obtain ⟨hl, h | ⟨g, cap, cur, hv, hB, hh, r⟩⟩ := h
  · omega
  · refine ⟨g, cap, hv, hB, ?_, fun j u hj => ?_⟩
    · rcases Nat.lt_or_ge g w.heap.size with h | h
      · exact h
      · rw [Array.getElem?_eq_none h] at hh; cases hh
    · have := h'.cells (show v.ownBlock = some g by rw [hv]; rfl) j u hj
      rwa [add0] at this
theorem eq_tok1 (w : World) : (binOp .eql 36 (.agg #[.int .i64 1, .int .i64 0, .string ⟨#[101]⟩, .float .f64 0]) (.agg #[.int .i64 1, .int .i64 0, .string ⟨#[101]⟩, .float .f64 0])).run Tryz.prog w = .ok (.bool true) w := by kernel_rfl
theorem eq_tok2 (w : World) : (binOp .eql 36 (.agg #[.int .i64 2, .int .i64 8, .string ⟨#[97]⟩, .float .f64 0]) (.agg #[.int .i64 2, .int .i64 8, .string ⟨#[97]⟩, .float .f64 0])).run Tryz.prog w = .ok (.bool true) w := by kernel_rfl
set_option maxRecDepth 100000 in
set_option maxHeartbeats 2000000 in
theorem alive_any (w : World) (b off : Nat) (hv : Vs w b off) : Calls Tryz.prog 10 #[] w fun e w' => e = .returned (.bool true) ∧ Below w.heap.size w w' := by
  have a1 := all_any ⟨#[101, 32, 61, 32, 37, 45, 48, 32, 39, 97, 39, 32, 101, 63, 32, 59, 32, 35, 32, 116, 119, 111, 10]⟩ (by decide) w b off hv
  have a2 := fun w h => all_any ⟨#[101, 32, 61, 32, 39, 97]⟩ (by decide) w b off h
  have n1 := fun w => isname_any ⟨#[97, 95, 49]⟩ (by decide) w
  have n2 := fun w => isname_any ⟨#[49, 97]⟩ (by decide) w
  have q1 := fun w => isquote_any ⟨#[43, 32]⟩ (by decide) w
  have q2 := fun w => isquote_any ⟨#[]⟩ (by decide) w
  rw [show isNameB (ByteArray.mk #[97, 95, 49]).data.toList = true from by kernel_rfl] at n1
  rw [show isNameB (ByteArray.mk #[49, 97]).data.toList = false from by kernel_rfl] at n2
  rw [show isQuoteB (ByteArray.mk #[43, 32]).data.toList = true from by kernel_rfl] at q1
  rw [show isQuoteB (ByteArray.mk #[]).data.toList = false from by kernel_rfl] at q2
  have HV := Lib.hid hv
  have HA2 := Lib.hid a2
  have g1 := eq_tok1
  have g2 := eq_tok2
  clear hv a2
  go_enter Tryz.func10, Tryz.ntmps10
  go_wp2_with fail
  refine a1.mono ?_
  rintro e w1 ⟨hall, hb1⟩
  unfold AllV at hall
  rw [al1] at hall
  obtain ⟨v, rfl, hown⟩ := hall
  obtain ⟨g, cap, rfl, hgB, hgl, hc⟩ := own_open hown (by decide)
  have HC := Lib.hid hc
  have HB1 := Lib.hid hb1
  clear hc hown a1
  have hb2 : ∀ o, Vs (w1.alloc o) b off := fun o => (HV.out.below hb1).below ((Below.refl _ _).alloc (Nat.le_refl _) _)
  have HB2 := Lib.hid hb2
  clear hb1 hb2
  go_wp2_with fail
  refine (HA2.out _ (HB2.out _)).mono ?_
  rintro e w2 ⟨hall, hb2⟩
  unfold AllV at hall
  rw [al2] at hall
  obtain ⟨v2, rfl, hown⟩ := hall
  have hk : ∀ j u, (tcells [⟨1, 0, [101], 0⟩, ⟨4, 2, [61], 0⟩, ⟨3, 4, [45, 48], 9223372036854775808⟩, ⟨2, 8, [97], 0⟩, ⟨1, 12, [101], 0⟩, ⟨4, 13, [63], 0⟩, ⟨4, 15, [59], 0⟩, ⟨0, 23, [], 0⟩])[j]? = some u → w2.cell? ⟨g, j, none⟩ = some u := fun j u h => (hb2.cell (p := ⟨g, j, none⟩) (by simp; omega)).trans ((((Below.refl w1.heap.size w1).alloc (Nat.le_refl _) _).cell (p := ⟨g, j, none⟩) hgl).trans (HC.out j u h))
  have c0 : w2.cell? ⟨g, 0, none⟩ = some (.int .i64 1) := hk 0 _ rfl
  have c1 : w2.cell? ⟨g, 1, none⟩ = some (.int .i64 0) := hk 1 _ rfl
  have c2 : w2.cell? ⟨g, 2, none⟩ = some (.string ⟨#[101]⟩) := hk 2 _ rfl
  have c3 := hk 3 _ rfl
  have d0 : w2.cell? ⟨g, 12, none⟩ = some (.int .i64 2) := hk 12 _ rfl
  have d1 : w2.cell? ⟨g, 13, none⟩ = some (.int .i64 8) := hk 13 _ rfl
  have d2 : w2.cell? ⟨g, 14, none⟩ = some (.string ⟨#[97]⟩) := hk 14 _ rfl
  have d3 := hk 15 _ rfl
  have e0 : w2.cell? ⟨g, 28, none⟩ = some (.int .i64 0) := hk 28 _ rfl
  have e1 : w2.cell? ⟨g, 29, none⟩ = some (.int .i64 23) := hk 29 _ rfl
  have hF : Blk w2 w1.heap.size 26 flt0 := Blk.below (Blk.new w1 26 flt0) hb2 (by simp)
  obtain ⟨f0, f1, f2, f3⟩ := flt_cells hF
  have HB3 := Lib.hid ((HB1.out.alloc HB1.out.size _).trans (hb2.mono (by have := HB1.out.size; simp; omega)))
  have hgz : g < w2.heap.size := by have := hb2.size; simp at this; omega
  have hgz2 : w1.heap.size < w2.heap.size := by have := hb2.size; simp at this; omega
  clear hk hown hb2 hF
  go_wp2_with fail
  refine (n1 _).mono ?_
  rintro e w3 ⟨rfl, rfl⟩
  go_wp2_with fail
  refine (n2 _).mono ?_
  rintro e w3 ⟨rfl, rfl⟩
  go_wp2_with fail
  refine (q1 _).mono ?_
  rintro e w3 ⟨rfl, rfl⟩
  go_wp2_with fail
  refine (q2 _).mono ?_
  rintro e w3 ⟨rfl, rfl⟩
  go_wp2_with fail
  go_ret
  exact ⟨rfl, HB3.out.alloc HB3.out.size _⟩
end Go.Proofs.YtjddjdpgnoebnaaGreatDoor.lx
