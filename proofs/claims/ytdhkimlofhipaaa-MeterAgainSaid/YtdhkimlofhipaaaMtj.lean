import Derived.Test.YtdhkimlofhipaaaMti
namespace Go.Proofs.Ytdhkimlofhipaaa.mt
open Go.ChangeShapes Go.WideShapes Go.ChangeAt Go.RowKit
set_option linter.unusedVariables false
theorem ret_bool {a b : Bool} (h : a = b) : Ending.returned (.bool a) = .returned (.bool b) := by rw [h]
theorem goes_t1 : Goes 23 := fun _ _ => by kernel_rfl
theorem goes_t2 : Goes 24 := fun _ _ => by kernel_rfl
set_option maxRecDepth 100000 in
set_option maxHeartbeats 400000 in
theorem tries_long (n : Int) (w : World) (a0 : Option Addr) (cap len : Nat) (hlen : 40 < len) (hmax : len ≤ maxLen) : Calls Try.prog 6 #[.int .i64 n, .slice a0 len cap] w fun e w' => e = .returned (.bool true) ∧ Below w.heap.size w w' := by
  unfold maxLen at hmax
  go_enter Try.func6, Try.ntmps6
  go_wp2_with fail
  refine (alive_any _).mono ?_
  rintro e w1 ⟨rfl, hb⟩
  have b1 : Blk w1 w.heap.size 22 #[.slice a0 len cap] := (Blk.new' rfl).below hb (Nat.le_refl _)
  have c1 := b1.cell 0
  go_wp2_with fail
  go_ret
  exact ⟨rfl, ((Below.refl _ _).alloc (Nat.le_refl _) _).trans (hb.mono (by simp))⟩
set_option maxRecDepth 100000 in
set_option maxHeartbeats 800000 in
theorem tries_ok (n : Int) (w : World) (a0 : Option Addr) (cap : Nat) (xs : List Int) (hl : ListAt w.heap.size w a0 xs) (hlen : xs.length ≤ 40) (hok : sm xs xs.length ≤ heldI n) : Calls Try.prog 6 #[.int .i64 n, .slice a0 xs.length cap] w fun e w' => e = .returned (.bool true) ∧ Below w.heap.size w w' := by
  have hmf := mf
  have hh := heldI_bd n
  go_enter Try.func6, Try.ntmps6
  go_wp2_with fail
  refine (alive_any _).mono ?_
  rintro e w1 ⟨rfl, hb⟩
  have b1 : Blk w1 w.heap.size 22 #[.slice a0 xs.length cap] := (Blk.new' rfl).below hb (Nat.le_refl _)
  have hB1 : Below w.heap.size w w1 := ((Below.refl _ _).alloc (Nat.le_refl _) _).trans (hb.mono (by simp))
  have c1 := b1.cell 0
  have hl1 := hl.kept (Kp.of_below hB1) (fun i hi => hi)
  have HH := Lib.hid hb
  clear hb
  go_wp2_with fail
  have hlt := b1.lt
  have hz : (w1.alloc (.cells #[.int .i64 0] 3)).heap.size = w1.heap.size + 1 := by simp
  have k1 : Kp No w1 (w1.alloc (.cells #[.int .i64 0] 3)) := kp_new _ _
  have b2 : Blk (w1.alloc (.cells #[.int .i64 0] 3)) w1.heap.size 3 #[.int .i64 0] := Blk.new' rfl
  generalize w1.alloc (.cells #[.int .i64 0] 3) = W at *
  have b3 := k1.blk b1 id
  have hl2 := hl1.kept k1 (fun i hi => hi.elim)
  have hB2 := below_kp hB1 k1 (Nat.le_refl _) (fun i _ h => h)
  have HZ := Lib.hid hz
  clear hz
  have HT := try_done W n (heldI n - sm xs xs.length) (0 + sm xs xs.length) 23 #[.pointer (some ⟨w.heap.size, 0, none⟩), .pointer (some ⟨w1.heap.size, 0, none⟩)] (.tuple #[]) (fun i => i = w1.heap.size) (fun w' => Blk w' w1.heap.size 3 #[.int .i64 xs.length]) goes_t1 (fun i hi => by have := b2.lt; omega) (fun W' hm hbw hzw => (tries1_ok W' w.heap.size w.heap.size w1.heap.size (W.heap.size + 1) cap a0 xs _ _ (b3.below hbw (Nat.le_refl _)) (b2.below hbw (Nat.le_refl _)) hm (hl2.kept (Kp.of_below hbw) (fun i hi => by have := hB2.size; omega)) (by have := hB2.size; have := hB1.size; omega) (by have := b2.lt; omega) hlen hok).mono fun e w' ⟨he, h1, h2, h3⟩ => ⟨he, h1, h3.mono (fun i hi => hi.elim (fun h => .inl h) (fun h => .inr h)), h2⟩)
  rw [Int.zero_add] at HT
  refine HT.mono ?_
  rintro e w2 ⟨rfl, d2, hk2⟩
  clear HT
  have v2 := hk2.blk b3 (by omega)
  have hl3 := hl2.kept hk2 (fun i hi => by have := hB1.size; omega)
  have hB3 := below_kp hB2 hk2 (Nat.le_refl _) (fun i hi h => by have := hB1.size; omega)
  have hlt2 := v2.lt
  have hlt3 := d2.lt
  have HL2 := Lib.hid hl2
  clear hl2 hl1 hB1 hB2 k1 b1 b2 b3
  go_wp2_with fail
  refine (new_any _ _).mono ?_
  rintro e w3 ⟨rfl, rfl⟩
  go_wp2_with fail
  refine (left_any _ _ _ _ (((mt_new (w := w2) (n := n) rfl)).alloc _)).mono ?_
  rintro e w3 ⟨rfl, rfl⟩
  go_wp2_with fail
  generalize hWq : ((w2.alloc (.cells #[.int .i64 (heldI n), .int .i64 0] 39)).alloc (.cells #[.pointer (some ⟨w2.heap.size, 0, none⟩)] 24)).alloc (.cells #[.int .i64 0] 3) = W2
  have q2 : MtAt W2 w2.heap.size (heldI n) 0 := by rw [← hWq]; exact (((mt_new (n := n) rfl)).alloc _).alloc _
  have q3 : Blk W2 (w2.heap.size + 1) 24 #[.pointer (some ⟨w2.heap.size, 0, none⟩)] := by rw [← hWq]; exact (Blk.new' (by simp)).alloc _
  have q4 : Blk W2 (w2.heap.size + 1 + 1) 3 #[.int .i64 0] := by rw [← hWq]; exact Blk.new' (by simp)
  have kq : Kp No w2 W2 := by rw [← hWq]; exact ((kp_new _ _).trans (kp_new _ _)).trans (kp_new _ _)
  have hzq : W2.heap.size = w2.heap.size + 1 + 1 + 1 := by rw [← hWq]; simp
  have q5 := kq.blk v2 id
  have q6 := kq.blk d2 id
  have hl4 := hl3.kept kq (fun i hi => hi.elim)
  have hB4 := below_kp hB3 kq (Nat.le_refl _) (fun i _ h => h)
  have HZ2 := Lib.hid hzq
  have HL3 := Lib.hid hl3
  clear hWq hzq v2 kq hB3 hl3 d2
  refine (run_done' W2 w2.heap.size 24 _ (.tuple #[]) (fun w' => MtAt w' w2.heap.size (heldI n - sm xs xs.length) (0 + sm xs xs.length) ∧ Blk w' (w2.heap.size + 1 + 1) 3 #[.int .i64 xs.length]) (fun i => i = w2.heap.size ∨ i = w2.heap.size + 1 + 1) goes_t2 (fun W' k => (tries2_ok W' w.heap.size w.heap.size (w2.heap.size + 1) (w2.heap.size + 1 + 1) w2.heap.size cap a0 xs _ _ (k.blk q5 id) (k.blk q3 id) (k.blk q4 id) (q2.kept k id) (hl4.kept k (fun i hi => hi.elim)) (by omega) (by omega) hlen hok).mono fun e w' ⟨he, h1, h2, h3⟩ => ⟨he, ⟨h1, h2⟩, h3⟩)).mono ?_
  rintro e w5 ⟨rfl, ⟨m5, d5⟩, hk5⟩
  rw [Int.zero_add] at m5
  have y2 := hk5.blk q3 (by omega)
  have y5 := hk5.blk q5 (by omega)
  have y6 := hk5.blk q6 (by omega)
  have hB5 := below_kp hB4 hk5 (Nat.le_refl _) (by have := hB4.size; omega)
  have c2 := y2.cell 0
  have c5 := y5.cell 0
  have c6 := y6.cell 0
  have c7 := d5.cell 0
  have HL4 := Lib.hid hl4
  have HK := Lib.hid hk5
  clear hk5 hl4 q2 q3 q4 q5 q6 hB4
  go_wp2_with fail
  refine (spent_any _ _ _ _ m5).mono ?_
  rintro e w3 ⟨rfl, rfl⟩
  go_wp2_with fail
  refine (left_any _ _ _ _ m5).mono ?_
  rintro e w3 ⟨rfl, rfl⟩
  go_wp2_with fail
  go_ret
  exact ⟨rfl, hB5⟩
set_option maxRecDepth 100000 in
set_option maxHeartbeats 800000 in
theorem tries_stop (n : Int) (w : World) (a0 : Option Addr) (cap k : Nat) (xs : List Int) (hl : ListAt w.heap.size w a0 xs) (hlen : xs.length ≤ 40) (hn : k < xs.length) (hok : sm xs k ≤ heldI n) (hno : heldI n < sm xs (k + 1)) : Calls Try.prog 6 #[.int .i64 n, .slice a0 xs.length cap] w fun e w' => e = .returned (.bool true) ∧ Below w.heap.size w w' := by
  have hmf := mf
  have hh := heldI_bd n
  go_enter Try.func6, Try.ntmps6
  go_wp2_with fail
  refine (alive_any _).mono ?_
  rintro e w1 ⟨rfl, hb⟩
  have b1 : Blk w1 w.heap.size 22 #[.slice a0 xs.length cap] := (Blk.new' rfl).below hb (Nat.le_refl _)
  have hB1 : Below w.heap.size w w1 := ((Below.refl _ _).alloc (Nat.le_refl _) _).trans (hb.mono (by simp))
  have c1 := b1.cell 0
  have hl1 := hl.kept (Kp.of_below hB1) (fun i hi => hi)
  have HH := Lib.hid hb
  clear hb
  go_wp2_with fail
  have hlt := b1.lt
  have hz : (w1.alloc (.cells #[.int .i64 0] 3)).heap.size = w1.heap.size + 1 := by simp
  have k1 : Kp No w1 (w1.alloc (.cells #[.int .i64 0] 3)) := kp_new _ _
  have b2 : Blk (w1.alloc (.cells #[.int .i64 0] 3)) w1.heap.size 3 #[.int .i64 0] := Blk.new' rfl
  generalize w1.alloc (.cells #[.int .i64 0] 3) = W at *
  have b3 := k1.blk b1 id
  have hl2 := hl1.kept k1 (fun i hi => hi.elim)
  have hB2 := below_kp hB1 k1 (Nat.le_refl _) (fun i _ h => h)
  have HZ := Lib.hid hz
  clear hz
  have HT := try_full W n 0 (0 + heldI n) 23 #[.pointer (some ⟨w.heap.size, 0, none⟩), .pointer (some ⟨w1.heap.size, 0, none⟩)] (fun i => i = w1.heap.size) (fun w' => Blk w' w1.heap.size 3 #[.int .i64 k]) goes_t1 (fun i hi => by have := b2.lt; omega) (fun W' hm hbw hzw => (tries1_full W' w.heap.size w.heap.size w1.heap.size (W.heap.size + 1) cap a0 xs _ _ k (b3.below hbw (Nat.le_refl _)) (b2.below hbw (Nat.le_refl _)) hm (hl2.kept (Kp.of_below hbw) (fun i hi => by have := hB2.size; omega)) (by have := hB2.size; have := hB1.size; omega) (by have := b2.lt; omega) hlen hn hok hno).mono fun e w' ⟨he, h1, h2, h3⟩ => ⟨he, h1, h3.mono (fun i hi => hi.elim (fun h => .inl h) (fun h => .inr h)), h2⟩)
  rw [Int.zero_add] at HT
  refine HT.mono ?_
  rintro e w2 ⟨rfl, hk2, w1', hd, hbb⟩
  clear HT
  have d2 := (Kp.of_below hbb).blk hd (by have := hd.lt; omega)
  clear hbb hd
  have v2 := hk2.blk b3 (by omega)
  have hl3 := hl2.kept hk2 (fun i hi => by have := hB1.size; omega)
  have hB3 := below_kp hB2 hk2 (Nat.le_refl _) (fun i hi h => by have := hB1.size; omega)
  have hlt2 := v2.lt
  have hlt3 := d2.lt
  have HL2 := Lib.hid hl2
  clear hl2 hl1 hB1 hB2 k1 b1 b2 b3
  go_wp2_with fail
  refine (new_any _ _).mono ?_
  rintro e w3 ⟨rfl, rfl⟩
  go_wp2_with fail
  refine (left_any _ _ _ _ (((mt_new (w := w2) (n := n) rfl)).alloc _)).mono ?_
  rintro e w3 ⟨rfl, rfl⟩
  go_wp2_with fail
  generalize hWq : ((w2.alloc (.cells #[.int .i64 (heldI n), .int .i64 0] 39)).alloc (.cells #[.pointer (some ⟨w2.heap.size, 0, none⟩)] 24)).alloc (.cells #[.int .i64 0] 3) = W2
  have q2 : MtAt W2 w2.heap.size (heldI n) 0 := by rw [← hWq]; exact (((mt_new (n := n) rfl)).alloc _).alloc _
  have q3 : Blk W2 (w2.heap.size + 1) 24 #[.pointer (some ⟨w2.heap.size, 0, none⟩)] := by rw [← hWq]; exact (Blk.new' (by simp)).alloc _
  have q4 : Blk W2 (w2.heap.size + 1 + 1) 3 #[.int .i64 0] := by rw [← hWq]; exact Blk.new' (by simp)
  have kq : Kp No w2 W2 := by rw [← hWq]; exact ((kp_new _ _).trans (kp_new _ _)).trans (kp_new _ _)
  have hzq : W2.heap.size = w2.heap.size + 1 + 1 + 1 := by rw [← hWq]; simp
  have q5 := kq.blk v2 id
  have q6 := kq.blk d2 id
  have hl4 := hl3.kept kq (fun i hi => hi.elim)
  have hB4 := below_kp hB3 kq (Nat.le_refl _) (fun i _ h => h)
  have HZ2 := Lib.hid hzq
  have HL3 := Lib.hid hl3
  clear hWq hzq v2 kq hB3 hl3 d2
  refine (run_full' W2 w2.heap.size 24 _ (fun w' => MtAt w' w2.heap.size 0 (0 + heldI n) ∧ Blk w' (w2.heap.size + 1 + 1) 3 #[.int .i64 k]) (fun i => i = w2.heap.size ∨ i = w2.heap.size + 1 + 1) goes_t2 (by rw [HZ2.out]; omega) (fun W' kk => (tries2_full W' w.heap.size w.heap.size (w2.heap.size + 1) (w2.heap.size + 1 + 1) w2.heap.size cap a0 xs _ _ k (kk.blk q5 id) (kk.blk q3 id) (kk.blk q4 id) (q2.kept kk id) (hl4.kept kk (fun i hi => hi.elim)) (by omega) (by omega) hlen hn hok hno).mono fun e w' ⟨he, h1, h2, h3⟩ => ⟨he, ⟨h1, h2⟩, h3⟩)).mono ?_
  rintro e w5 ⟨rfl, hk5, w5', ⟨h1, h2⟩, hbb⟩
  have m5 := h1.kept (Kp.of_below hbb) (by have := h1.1.lt; omega)
  have d5 := (Kp.of_below hbb).blk h2 (by have := h2.lt; omega)
  rw [Int.zero_add] at m5
  clear hbb h1 h2
  have y2 := hk5.blk q3 (by omega)
  have y5 := hk5.blk q5 (by omega)
  have y6 := hk5.blk q6 (by omega)
  have hB5 := below_kp hB4 hk5 (Nat.le_refl _) (by have := hB4.size; omega)
  have c2 := y2.cell 0
  have c5 := y5.cell 0
  have c6 := y6.cell 0
  have c7 := d5.cell 0
  have HL4 := Lib.hid hl4
  have HK := Lib.hid hk5
  clear hk5 hl4 q2 q3 q4 q5 q6 hB4
  go_wp2_with fail
  refine (spent_any _ _ _ _ m5).mono ?_
  rintro e w3 ⟨rfl, rfl⟩
  go_wp2_with fail
  refine (left_any _ _ _ _ m5).mono ?_
  rintro e w3 ⟨rfl, rfl⟩
  go_wp2_with fail
  go_ret
  exact ⟨ret_bool (by simp; omega), hB5⟩
theorem tries_any (n : Int) (w : World) (a0 : Option Addr) (cap : Nat) (xs : List Int) (hl : ListAt w.heap.size w a0 xs) (hmax : xs.length ≤ maxLen) : Calls Try.prog 6 #[.int .i64 n, .slice a0 xs.length cap] w fun e w' => e = .returned (.bool true) ∧ Below w.heap.size w w' := by
  by_cases hlen : xs.length ≤ 40
  · rcases sm_stop xs (heldI n) (heldI_bd n).1 with h | ⟨k, h1, h2, h3⟩
    · exact tries_ok n w a0 cap xs hl hlen h
    · exact tries_stop n w a0 cap k xs hl hlen h1 h2 h3
  · exact tries_long n w a0 cap xs.length (by omega) hmax
end Go.Proofs.Ytdhkimlofhipaaa.mt
