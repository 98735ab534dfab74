import Derived.Test.YtdhkimlofhipaaaMth
namespace Go.Proofs.Ytdhkimlofhipaaa.mt
open Go.ChangeShapes Go.WideShapes Go.ChangeAt Go.RowKit
set_option linter.unusedVariables false
theorem goes_s1 : Goes 13 := fun _ _ => by kernel_rfl
theorem Blk.below {w w' : World} {g B : Nat} {t : TypeId} {cs : Array Value} (h : Blk w g t cs) (hb : Below B w w') (hB : w.heap.size ≤ B) : Blk w' g t cs := (hb.block g (Nat.lt_of_lt_of_le h.lt hB)).trans h
theorem below_kp {S : Nat → Prop} {a b c : World} {B : Nat} (h : Below B a b) (k : Kp S b c) (hB : B ≤ a.heap.size) (hS : ∀ i, i < B → ¬ S i) : Below B a c :=
  ⟨k.os.trans h.os, k.tape.trans h.tape, k.output.trans h.output, Nat.le_trans h.size k.size, fun i hi => (k.block i (by have := h.size; omega) (hS i hi)).trans (h.block i hi)⟩
set_option maxRecDepth 100000 in
set_option maxHeartbeats 400000 in
theorem spends_long (n : Int) (w : World) (a0 : Option Addr) (cap len : Nat) (hlen : 60 < len) (hmax : len ≤ maxLen) : Calls Try.prog 3 #[.int .i64 n, .slice a0 len cap] w fun e w' => e = .returned (.bool true) ∧ Below w.heap.size w w' := by
  unfold maxLen at hmax
  go_enter Try.func3, Try.ntmps3
  go_wp2_with fail
  refine (alive_any _).mono ?_
  rintro e w1 ⟨rfl, hb⟩
  have b1 : Blk w1 w.heap.size 22 #[.slice a0 len cap] := (Blk.new' rfl).below hb (Nat.le_refl _)
  have c1 := b1.cell 0
  go_wp2_with fail
  go_ret
  exact ⟨rfl, ((Below.refl _ _).alloc (Nat.le_refl _) _).trans (hb.mono (by simp))⟩
set_option maxRecDepth 100000 in
set_option maxHeartbeats 800000 in
theorem spends_ok (n : Int) (w : World) (a0 : Option Addr) (cap : Nat) (xs : List Int) (hl : ListAt w.heap.size w a0 xs) (hlen : xs.length ≤ 60) (hok : sm xs xs.length ≤ heldI n) : Calls Try.prog 3 #[.int .i64 n, .slice a0 xs.length cap] w fun e w' => e = .returned (.bool true) ∧ Below w.heap.size w w' := by
  have hmf := mf
  have hh := heldI_bd n
  go_enter Try.func3, Try.ntmps3
  go_wp2_with fail
  refine (alive_any _).mono ?_
  rintro e w1 ⟨rfl, hb⟩
  have b1 : Blk w1 w.heap.size 22 #[.slice a0 xs.length cap] := (Blk.new' rfl).below hb (Nat.le_refl _)
  have hB1 : Below w.heap.size w w1 := ((Below.refl _ _).alloc (Nat.le_refl _) _).trans (hb.mono (by simp))
  have c1 := b1.cell 0
  have hl1 := hl.kept (Kp.of_below hB1) (fun i hi => hi)
  have HH := Lib.hid hb
  clear hb
  go_wp2_with fail
  refine (new_any _ _).mono ?_
  rintro e w2 ⟨rfl, rfl⟩
  go_wp2_with fail
  refine (left_any _ _ _ _ (((mt_new (w := w1) (n := n) rfl)).alloc _)).mono ?_
  rintro e w3 ⟨rfl, rfl⟩
  go_wp2_with fail
  refine (held_any _ _).mono ?_
  rintro e w3 ⟨rfl, rfl⟩
  go_wp2_with fail
  refine (spent_any _ _ _ _ (((mt_new (w := w1) (n := n) rfl)).alloc _)).mono ?_
  rintro e w3 ⟨rfl, rfl⟩
  go_wp2_with fail
  generalize hW : ((w1.alloc (.cells #[.int .i64 (heldI n), .int .i64 0] 39)).alloc (.cells #[.pointer (some ⟨w1.heap.size, 0, none⟩)] 24)).alloc (.cells #[.int .i64 0] 3) = W
  have b2 : MtAt W w1.heap.size (heldI n) 0 := by rw [← hW]; exact (((mt_new (n := n) rfl)).alloc _).alloc _
  have b3 : Blk W (w1.heap.size + 1) 24 #[.pointer (some ⟨w1.heap.size, 0, none⟩)] := by rw [← hW]; exact (Blk.new' (by simp)).alloc _
  have b4 : Blk W (w1.heap.size + 1 + 1) 3 #[.int .i64 0] := by rw [← hW]; exact Blk.new' (by simp)
  have k1 : Kp No w1 W := by rw [← hW]; exact ((kp_new _ _).trans (kp_new _ _)).trans (kp_new _ _)
  have hz : W.heap.size = w1.heap.size + 1 + 1 + 1 := by rw [← hW]; simp
  have b5 := k1.blk b1 id
  have hl2 := hl1.kept k1 (fun i hi => hi.elim)
  have hlt := b1.lt
  have hB2 := below_kp hB1 k1 (Nat.le_refl _) (fun i _ h => h)
  have HZ := Lib.hid hz
  have HL := Lib.hid hl
  have HL1 := Lib.hid hl1
  clear hW hz b1 c1 k1 hB1 hl hl1
  refine (run_done' W w1.heap.size 13 _ (.tuple #[]) (fun w' => MtAt w' w1.heap.size (heldI n - sm xs xs.length) (0 + sm xs xs.length) ∧ Blk w' (w1.heap.size + 1 + 1) 3 #[.int .i64 xs.length]) (fun i => i = w1.heap.size ∨ i = w1.heap.size + 1 + 1) goes_s1 (fun W' k => (spends1_ok W' w.heap.size w.heap.size (w1.heap.size + 1) (w1.heap.size + 1 + 1) w1.heap.size cap a0 xs _ _ (k.blk b5 id) (k.blk b3 id) (k.blk b4 id) (b2.kept k id) (hl2.kept k (fun i hi => hi.elim)) (by omega) (by omega) hlen hok).mono fun e w' ⟨he, h1, h2, h3⟩ => ⟨he, ⟨h1, h2⟩, h3⟩)).mono ?_
  rintro e w2 ⟨rfl, ⟨m2, d2⟩, hk⟩
  rw [Int.zero_add] at m2
  have v2 := hk.blk b3 (by omega)
  have v5 := hk.blk b5 (by omega)
  have hl3 := hl2.kept hk (fun i hi => by omega)
  have hB3 := below_kp hB2 hk (Nat.le_refl _) (by omega)
  have c2 := v2.cell 0
  have c5 := v5.cell 0
  have c6 := d2.cell 0
  have HL2 := Lib.hid hl2
  have HK := Lib.hid hk
  clear hk hl2 b2 b3 b4 b5 hB2
  go_wp2_with fail
  have HR := fun nn => (rrun_ok (w2.drewN nn) w.heap.size cap a0 xs (heldI n) hl3 hh.1 hh.2 hlen hok)
  go_quiet ((first | (go_at_call 10; exact Calls.quiet_of_same ((held_any _ _).mono fun _ _ h => ⟨h.1, h.2.symm⟩)) | (go_at_call 15; exact Calls.quiet_of_same ((HR _).mono fun _ _ h => ⟨h.1, h.2.symm⟩))))
  clear HR
  go_wp2_with fail
  refine (left_any _ _ _ _ (show MtAt (w2.drewN nq) _ _ _ from m2)).mono ?_
  rintro e w3 ⟨rfl, rfl⟩
  go_wp2_with fail
  refine (spent_any _ _ _ _ (show MtAt (w2.drewN nq) _ _ _ from m2)).mono ?_
  rintro e w3 ⟨rfl, rfl⟩
  go_wp2_with fail
  go_ret
  exact ⟨rfl, below_drewN hB3 _⟩
set_option maxRecDepth 100000 in
set_option maxHeartbeats 800000 in
theorem spends_stop (n : Int) (w : World) (a0 : Option Addr) (cap k : Nat) (xs : List Int) (hl : ListAt w.heap.size w a0 xs) (hlen : xs.length ≤ 60) (hn : k < xs.length) (hok : sm xs k ≤ heldI n) (hno : heldI n < sm xs (k + 1)) : Calls Try.prog 3 #[.int .i64 n, .slice a0 xs.length cap] w fun e w' => e = .returned (.bool true) ∧ Below w.heap.size w w' := by
  have hmf := mf
  have hh := heldI_bd n
  go_enter Try.func3, Try.ntmps3
  go_wp2_with fail
  refine (alive_any _).mono ?_
  rintro e w1 ⟨rfl, hb⟩
  have b1 : Blk w1 w.heap.size 22 #[.slice a0 xs.length cap] := (Blk.new' rfl).below hb (Nat.le_refl _)
  have hB1 : Below w.heap.size w w1 := ((Below.refl _ _).alloc (Nat.le_refl _) _).trans (hb.mono (by simp))
  have c1 := b1.cell 0
  have hl1 := hl.kept (Kp.of_below hB1) (fun i hi => hi)
  have HH := Lib.hid hb
  clear hb
  go_wp2_with fail
  refine (new_any _ _).mono ?_
  rintro e w2 ⟨rfl, rfl⟩
  go_wp2_with fail
  refine (left_any _ _ _ _ (((mt_new (w := w1) (n := n) rfl)).alloc _)).mono ?_
  rintro e w3 ⟨rfl, rfl⟩
  go_wp2_with fail
  refine (held_any _ _).mono ?_
  rintro e w3 ⟨rfl, rfl⟩
  go_wp2_with fail
  refine (spent_any _ _ _ _ (((mt_new (w := w1) (n := n) rfl)).alloc _)).mono ?_
  rintro e w3 ⟨rfl, rfl⟩
  go_wp2_with fail
  generalize hW : ((w1.alloc (.cells #[.int .i64 (heldI n), .int .i64 0] 39)).alloc (.cells #[.pointer (some ⟨w1.heap.size, 0, none⟩)] 24)).alloc (.cells #[.int .i64 0] 3) = W
  have b2 : MtAt W w1.heap.size (heldI n) 0 := by rw [← hW]; exact (((mt_new (n := n) rfl)).alloc _).alloc _
  have b3 : Blk W (w1.heap.size + 1) 24 #[.pointer (some ⟨w1.heap.size, 0, none⟩)] := by rw [← hW]; exact (Blk.new' (by simp)).alloc _
  have b4 : Blk W (w1.heap.size + 1 + 1) 3 #[.int .i64 0] := by rw [← hW]; exact Blk.new' (by simp)
  have k1 : Kp No w1 W := by rw [← hW]; exact ((kp_new _ _).trans (kp_new _ _)).trans (kp_new _ _)
  have hz : W.heap.size = w1.heap.size + 1 + 1 + 1 := by rw [← hW]; simp
  have b5 := k1.blk b1 id
  have hl2 := hl1.kept k1 (fun i hi => hi.elim)
  have hlt := b1.lt
  have hB2 := below_kp hB1 k1 (Nat.le_refl _) (fun i _ h => h)
  have HZ := Lib.hid hz
  have HL := Lib.hid hl
  have HL1 := Lib.hid hl1
  clear hW hz b1 c1 k1 hB1 hl hl1
  refine (run_full' W w1.heap.size 13 _ (fun w' => MtAt w' w1.heap.size 0 (0 + heldI n) ∧ Blk w' (w1.heap.size + 1 + 1) 3 #[.int .i64 k]) (fun i => i = w1.heap.size ∨ i = w1.heap.size + 1 + 1) goes_s1 (by rw [HZ.out]; omega) (fun W' kk => (spends1_full W' w.heap.size w.heap.size (w1.heap.size + 1) (w1.heap.size + 1 + 1) w1.heap.size cap a0 xs _ _ k (kk.blk b5 id) (kk.blk b3 id) (kk.blk b4 id) (b2.kept kk id) (hl2.kept kk (fun i hi => hi.elim)) (by omega) (by omega) hlen hn hok hno).mono fun e w' ⟨he, h1, h2, h3⟩ => ⟨he, ⟨h1, h2⟩, h3⟩)).mono ?_
  rintro e w2 ⟨rfl, hk, w1', ⟨h1, h2⟩, hbb⟩
  have m2 := h1.kept (Kp.of_below hbb) (by have := h1.1.lt; omega)
  have d2 := (Kp.of_below hbb).blk h2 (by have := h2.lt; omega)
  rw [Int.zero_add] at m2
  clear hbb h1 h2
  have v2 := hk.blk b3 (by omega)
  have v5 := hk.blk b5 (by omega)
  have hl3 := hl2.kept hk (fun i hi => by omega)
  have hB3 := below_kp hB2 hk (Nat.le_refl _) (by omega)
  have c2 := v2.cell 0
  have c5 := v5.cell 0
  have c6 := d2.cell 0
  have HL2 := Lib.hid hl2
  have HK := Lib.hid hk
  clear hk hl2 b2 b3 b4 b5 hB2
  go_wp2_with fail
  have HR := fun nn => (rrun_full (w2.drewN nn) w.heap.size cap k a0 xs (heldI n) hl3 hh.1 hh.2 hlen hn hok hno)
  go_quiet ((first | (go_at_call 10; exact Calls.quiet_of_same ((held_any _ _).mono fun _ _ h => ⟨h.1, h.2.symm⟩)) | (go_at_call 15; exact Calls.quiet_of_same ((HR _).mono fun _ _ h => ⟨h.1, h.2.symm⟩))))
  clear HR
  go_wp2_with fail
  refine (left_any _ _ _ _ (show MtAt (w2.drewN nq) _ _ _ from m2)).mono ?_
  rintro e w3 ⟨rfl, rfl⟩
  go_wp2_with fail
  refine (spent_any _ _ _ _ (show MtAt (w2.drewN nq) _ _ _ from m2)).mono ?_
  rintro e w3 ⟨rfl, rfl⟩
  go_wp2_with fail
  go_ret
  exact ⟨rfl, below_drewN hB3 _⟩
theorem spends_any (n : Int) (w : World) (a0 : Option Addr) (cap : Nat) (xs : List Int) (hl : ListAt w.heap.size w a0 xs) (hmax : xs.length ≤ maxLen) : Calls Try.prog 3 #[.int .i64 n, .slice a0 xs.length cap] w fun e w' => e = .returned (.bool true) ∧ Below w.heap.size w w' := by
  by_cases hlen : xs.length ≤ 60
  · rcases sm_stop xs (heldI n) (heldI_bd n).1 with h | ⟨k, h1, h2, h3⟩
    · exact spends_ok n w a0 cap xs hl hlen h
    · exact spends_stop n w a0 cap k xs hl hlen h1 h2 h3
  · exact spends_long n w a0 cap xs.length (by omega) hmax
end Go.Proofs.Ytdhkimlofhipaaa.mt
