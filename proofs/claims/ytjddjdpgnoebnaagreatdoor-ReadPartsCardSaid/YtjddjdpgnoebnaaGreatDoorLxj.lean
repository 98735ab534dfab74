import Derived.Test.YtjddjdpgnoebnaaGreatDoorLxi
import Derived.Deep.RegionHeld3
namespace Go.Proofs.YtjddjdpgnoebnaaGreatDoor.lx
open Go.ChangeShapes Go.WideShapes Go.ChangeAt Go.RowKit
set_option linter.unusedVariables false
theorem run_store_float (P : Program) (w : World) (a : Addr) (m : Mode) (k : FloatKind) (b : Nat) : (store a (.float k b) m).run P w = stored P w a (.float k b) m := run_store P w a _ m rfl
attribute [local go_sem] run_store_float
def S (l : List UInt8) : ByteArray := ⟨l.toArray⟩
theorem str_S {t : ByteArray} {l : List UInt8} (h : t.data.toList = l) : t = S l := by
  subst h
  rfl
theorem ext_S (s : ByteArray) (i j : Nat) : s.extract i j = S ((s.data.toList.drop i).take (j - i)) := str_S (ext_list s i j)
theorem S_list (l : List UInt8) : (S l).data.toList = l := rfl
theorem S_nil : S [] = ⟨#[]⟩ := rfl
/-- a word as the program has it -/
def TV (k a : Int) (t : List UInt8) (w : Nat) : Value := .agg #[.int .i64 k, .int .i64 a, .string (S t), .float .f64 w]
set_option maxRecDepth 100000 in
set_option maxHeartbeats 1000000 in
theorem skip_any (s : ByteArray) (hs : s.size ≤ maxLen) (a : Nat) (ha : a ≤ s.size) (w : World) : Calls Tryz.prog 26 #[.string s, .int .i64 a] w fun e w' => e = .returned (.int .i64 (nxt s.data.toList a : Nat)) ∧ Below w.heap.size w w' := by
  have hr := run_any skipS (fun r w' => Blk w' w.heap.size 4 #[.bool r] ∧ Below w.heap.size w w') 44 #[.pointer (some ⟨w.heap.size, 0, none⟩)] goes_skip s hs
    (fun r c w2 ⟨hb, hd⟩ => by
      refine (skip1_n r c.toNat (b_lt c) w2 w.heap.size hb).mono fun e w3 ⟨h1, h2⟩ => ?_
      have e1 : (c == 35 || (r && c != 10)) = (decide (c.toNat = 35) || (r && decide (c.toNat ≠ 10))) := by
        rw [beq_n]
        congr 2
        rw [Bool.eq_iff_iff]
        simp [← UInt8.toNat_inj]
      have e2 : blkB c = decide (c.toNat = 32 ∨ c.toNat = 9 ∨ c.toNat = 13 ∨ c.toNat = 10) := blk_n c
      unfold skipS
      rw [e1, e2]
      refine ⟨h1, ?_, ?_⟩
      · rw [h2]
        have := hb.set_ 0 (.bool (decide (c.toNat = 35) || (r && decide (c.toNat ≠ 10))))
        simpa using this
      · rw [h2]
        exact hd.setCell (Nat.le_refl _) _) false a ha (w.alloc (.cells #[.bool false] 4)) ⟨Blk.new w _ _, (Below.refl _ _).alloc (Nat.le_refl _) _⟩
  unfold nxt
  generalize a + runN skipS false (s.data.toList.drop a) = z at *
  have HR := Lib.hid hr
  clear hr
  go_enter Tryz.func26, Tryz.ntmps26
  go_wp2_with (go_at_call 31; refine HR.out.mono ?_; rintro e w1 ⟨rfl, x, hb, hd⟩; have HB := Lib.hid hb; have HD := Lib.hid hd; clear hb hd)
  go_ret
  exact ⟨rfl, HD.out⟩
theorem sgn_all : ∀ n, n < 256 → decide (0 ≤ firstIdx ⟨#[61, 59, 124, 40, 41, 63, 42, 43]⟩ n.toUInt8) = sgnB n.toUInt8 := by decide +kernel
attribute [local go_sem] x_index
set_option maxRecDepth 100000 in
set_option maxHeartbeats 1000000 in
theorem sign_any (c : UInt8) (w : World) : Calls Tryz.prog 49 #[.int .u8 c.toNat] w fun e w' => e = .returned (.bool (sgnB c)) ∧ w = w' := by
  have h := sgn_all c.toNat (b_lt c)
  have e : c.toNat.toUInt8 = c := by simp
  rw [e] at h
  rw [← h]
  clear h
  go_enter Tryz.func49, Tryz.ntmps49
  go_wp2
  go_ret
  exact ⟨rfl, rfl⟩
theorem drop_cons (s : ByteArray) (a : Nat) (h : a < s.size) : ∃ r, s.data.toList.drop a = s[a] :: r ∧ r = s.data.toList.drop (a + 1) ∧ r.length = s.size - a - 1 := ⟨_, bytes_drop s a h, rfl, by simp; omega⟩
set_option maxRecDepth 100000 in
set_option maxHeartbeats 1000000 in
theorem name_any (s : ByteArray) (hs : s.size ≤ maxLen) (a n : Nat) (ha : a ≤ s.size) (hn : runP namB (s.data.toList.drop a) = n) (w : World) : Calls Tryz.prog 46 #[.string s, .int .i64 a] w fun e w' => e = .returned (if n ≤ 24 then .tuple #[TV 1 0 ((s.data.toList.drop a).take n) 0, .int .i64 (a + n : Nat), .int .i64 0] else .tuple #[TV 0 0 [] 0, .int .i64 0, .int .i64 1]) ∧ Below w.heap.size w w' := by
  have hr := fun w => run_name s hs a ha w
  rw [hn] at hr
  have hle := runP_le namB (s.data.toList.drop a)
  rw [hn, List.length_drop, show s.data.toList.length = s.size by simp] at hle
  have hx := ext_S s a (a + n)
  rw [show a + n - a = n from by omega] at hx
  unfold maxLen at hs
  unfold TV
  rw [← hx]
  clear hx hn
  by_cases h : n ≤ 24
  · rw [if_pos h]
    go_enter Tryz.func46, Tryz.ntmps46
    go_wp2_with (go_at_call 31; refine (hr _).mono ?_; rintro e w1 ⟨rfl, rfl⟩)
    refine bodyPost_ret (v := .tuple #[.agg #[.int .i64 1, .int .i64 0, .string (s.extract a (a + n)), .float .f64 0], .int .i64 (a + n : Nat), .int .i64 0]) (by simp [results, Tryz.results46, go_sem]) rfl ⟨rfl, ?_⟩
    go_grown
  · rw [if_neg h]
    go_enter Tryz.func46, Tryz.ntmps46
    go_wp2_with (go_at_call 31; refine (hr _).mono ?_; rintro e w1 ⟨rfl, rfl⟩)
    refine bodyPost_ret (v := .tuple #[.agg #[.int .i64 0, .int .i64 0, .string ⟨#[]⟩, .float .f64 0], .int .i64 0, .int .i64 1]) (by simp [results, Tryz.results46, go_sem]) rfl ⟨rfl, ?_⟩
    go_grown
theorem quoteR (x : Nat) : Ending.returned (.tuple #[TV 0 0 [] 0, .int .i64 0, .int .i64 x]) = .returned (.tuple #[.agg #[.int .i64 0, .int .i64 0, .string ⟨#[]⟩, .float .f64 0], .int .i64 0, .int .i64 x]) := rfl
set_option maxRecDepth 100000 in
set_option maxHeartbeats 2000000 in
theorem quote_any (s : ByteArray) (hs : s.size ≤ maxLen) (a n : Nat) (ha : a < s.size) (hn : runP quoB (s.data.toList.drop (a + 1)) = n) (w : World) : Calls Tryz.prog 47 #[.string s, .int .i64 a] w fun e w' => e = .returned (if n = 0 ∨ ((s.data.toList.drop (a + 1)).drop n).head? ≠ some 39 then .tuple #[TV 0 0 [] 0, .int .i64 0, .int .i64 3] else if n ≤ 16 then .tuple #[TV 2 0 ((s.data.toList.drop (a + 1)).take n) 0, .int .i64 (a + (n + 1) + 1 : Nat), .int .i64 0] else .tuple #[TV 0 0 [] 0, .int .i64 0, .int .i64 1]) ∧ Below w.heap.size w w' := by
  have hr := fun w => run_quote s hs (a + 1) (by omega) w
  rw [hn] at hr
  have hle := runP_le quoB (s.data.toList.drop (a + 1))
  rw [hn, List.length_drop, show s.data.toList.length = s.size by simp] at hle
  have hx := ext_S s (a + 1) (a + 1 + n)
  rw [show a + 1 + n - (a + 1) = n from by omega] at hx
  have hd : ((s.data.toList.drop (a + 1)).drop n) = s.data.toList.drop (a + 1 + n) := by rw [List.drop_drop]
  rw [hd]
  unfold maxLen at hs
  unfold TV
  rw [← hx]
  clear hx hn hd
  by_cases h0 : n = 0
  · subst h0
    rw [if_pos (.inl rfl)]
    go_enter Tryz.func47, Tryz.ntmps47
    go_wp2_with (go_at_call 31; refine (hr _).mono ?_; rintro e w1 ⟨rfl, rfl⟩)
    refine bodyPost_ret (v := .tuple #[.agg #[.int .i64 0, .int .i64 0, .string ⟨#[]⟩, .float .f64 0], .int .i64 0, .int .i64 3]) (by simp [results, Tryz.results47, go_sem]) rfl ⟨rfl, ?_⟩
    go_grown
  · have m1 : ((a : Int) + 1 + n == (a : Int) + 1) = false := by rw [beq_eq_false_iff_ne]; omega
    by_cases h1 : a + 1 + n = s.size
    · have m2 : ((a : Int) + 1 + n == (s.size : Int)) = true := by rw [beq_iff_eq]; omega
      rw [if_pos (.inr (by rw [List.drop_eq_nil_of_le (by simp; omega)]; simp))]
      clear h0 h1
      go_enter Tryz.func47, Tryz.ntmps47
      go_wp2_with (go_at_call 31; refine (hr _).mono ?_; rintro e w1 ⟨rfl, rfl⟩)
      refine bodyPost_ret (v := .tuple #[.agg #[.int .i64 0, .int .i64 0, .string ⟨#[]⟩, .float .f64 0], .int .i64 0, .int .i64 3]) (by simp [results, Tryz.results47, go_sem]) rfl ⟨rfl, ?_⟩
      go_grown
    · have m2 : ((a : Int) + 1 + n == (s.size : Int)) = false := by rw [beq_eq_false_iff_ne]; omega
      have hlt : a + 1 + n < s.size := by omega
      have hd := bytes_drop s (a + 1 + n) hlt
      by_cases h2 : s[a + 1 + n] = 39
      · have m3 : ((s[a + 1 + n].toNat : Int) != 39) = false := by rw [h2]; decide
        rw [if_neg (by
          rw [hd, h2]
          simp [h0])]
        by_cases h3 : n ≤ 16
        · rw [if_pos h3]
          clear h0 h1 h2 hd
          go_enter Tryz.func47, Tryz.ntmps47
          go_wp2_with (go_at_call 31; refine (hr _).mono ?_; rintro e w1 ⟨rfl, rfl⟩)
          refine bodyPost_ret (v := .tuple #[.agg #[.int .i64 2, .int .i64 0, .string (s.extract (a + 1) (a + 1 + n)), .float .f64 0], .int .i64 (a + (n + 1) + 1 : Nat), .int .i64 0]) (by simp [results, Tryz.results47, go_sem]; omega) rfl ⟨rfl, ?_⟩
          go_grown
        · rw [if_neg h3]
          clear h0 h1 h2 hd
          go_enter Tryz.func47, Tryz.ntmps47
          go_wp2_with (go_at_call 31; refine (hr _).mono ?_; rintro e w1 ⟨rfl, rfl⟩)
          refine bodyPost_ret (v := .tuple #[.agg #[.int .i64 0, .int .i64 0, .string ⟨#[]⟩, .float .f64 0], .int .i64 0, .int .i64 1]) (by simp [results, Tryz.results47, go_sem]) rfl ⟨rfl, ?_⟩
          go_grown
      · have m3 : ((s[a + 1 + n].toNat : Int) != 39) = true := by
          rw [bne_iff_ne]
          intro e
          exact h2 (UInt8.toNat_inj.1 (by rw [show s[a + 1 + n].toNat = 39 from by omega]; rfl))
        rw [if_pos (.inr (by
          rw [hd]
          intro e
          exact h2 (Option.some.inj e)))]
        clear h0 h1 h2 hd
        go_enter Tryz.func47, Tryz.ntmps47
        go_wp2_with (go_at_call 31; refine (hr _).mono ?_; rintro e w1 ⟨rfl, rfl⟩)
        refine bodyPost_ret (v := .tuple #[.agg #[.int .i64 0, .int .i64 0, .string ⟨#[]⟩, .float .f64 0], .int .i64 0, .int .i64 3]) (by simp [results, Tryz.results47, go_sem]) rfl ⟨rfl, ?_⟩
        go_grown
end Go.Proofs.YtjddjdpgnoebnaaGreatDoor.lx
