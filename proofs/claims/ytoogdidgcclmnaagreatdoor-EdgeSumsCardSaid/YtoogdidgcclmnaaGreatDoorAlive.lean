import Derived.Test.YtoogdidgcclmnaaGreatDoorKeyb
import Derived.Test.YtoogdidgcclmnaaGreatDoorAlvf
namespace Go.Proofs.YtoogdidgcclmnaaGreatDoor.alv
open Go.ChangeShapes Go.WideShapes Go.ChangeAt Go.RowKit
set_option linter.unusedVariables false
attribute [local go_sem] x_frombits x_bits

structure Vars (w : World) (b off : Nat) : Prop where
  h3 : w.cell? ⟨3, 0, none⟩ = some (.bool true)
  h6 : w.cell? ⟨6, 0, none⟩ = some (.int .u64 52)
  h7 : w.cell? ⟨7, 15, none⟩ = some (.int .u64 1000000000000000)
  h10 : w.cell? ⟨10, 0, none⟩ = some (.slice (some ⟨b, off, none⟩) 23 23)
  h10' : w.cell? ⟨b, off + 3, none⟩ = some (.float .f64 4652007308841189376)
  h11 : w.cell? ⟨11, 728, none⟩ = some (.int .u64 10240000000000000000)
  h11b : w.cell? ⟨11, 729, none⟩ = some (.int .u64 0)
theorem Vars.below {w w' : World} {b off : Nat} (h : Vars w b off) (hb : Below w.heap.size w w') : Vars w' b off :=
  ⟨(hb.cell (p := ⟨3, 0, none⟩) (lt_size h.h3)).trans h.h3, (hb.cell (p := ⟨6, 0, none⟩) (lt_size h.h6)).trans h.h6, (hb.cell (p := ⟨7, 15, none⟩) (lt_size h.h7)).trans h.h7,
   (hb.cell (p := ⟨10, 0, none⟩) (lt_size h.h10)).trans h.h10, (hb.cell (p := ⟨b, off + 3, none⟩) (lt_size h.h10')).trans h.h10', (hb.cell (p := ⟨11, 728, none⟩) (lt_size h.h11)).trans h.h11, (hb.cell (p := ⟨11, 729, none⟩) (lt_size h.h11b)).trans h.h11b⟩
set_option maxRecDepth 100000 in
theorem sum_12 (w : World) (g : Nat) (h0 : w.cell? ⟨g, 0, none⟩ = some (.float .f64 4607182418800017408)) (h1 : w.cell? ⟨g, 1, none⟩ = some (.float .f64 4611686018427387904)) : Calls Tryz.prog 16 #[.slice (some ⟨g, 0, none⟩) 2 2] w fun e w' => e = .returned (.float .f64 4613937818241073152) ∧ w = w' := by
  have hq := fun w => run_float_arith (P := Tryz.prog) w .add 24 .f64 4607182418800017408 4611686018427387904 4613937818241073152 (by decide +kernel)
  go_enter Tryz.func16, Tryz.ntmps16
  go_wp2
  go_rounds 2
  go_ret
  exact ⟨rfl, rfl⟩
theorem c_1 (w : World) : Calls Tryz.prog 11 #[.float .f64 9223372036854775808, .float .f64 0] w fun e w' => e = .returned (.int .i64 (-1)) ∧ w = w' := by
  have h := cmp_any 9223372036854775808 0 w (by decide) (by decide)
  rw [show cmpN 9223372036854775808 0 = -1 from by decide +kernel] at h
  exact h
theorem c_2 (w : World) : Calls Tryz.prog 11 #[.float .f64 9221120237041090561, .float .f64 9218868437227405312] w fun e w' => e = .returned (.int .i64 1) ∧ w = w' := by
  have h := cmp_any 9221120237041090561 9218868437227405312 w (by decide) (by decide)
  rw [show cmpN 9221120237041090561 9218868437227405312 = 1 from by decide +kernel] at h
  exact h
theorem c_3 (w : World) : Calls Tryz.prog 12 #[.float .f64 9221120237041090561, .float .f64 9221120237041090561] w fun e w' => e = .returned (.bool true) ∧ w = w' := by
  have h := same_any 9221120237041090561 9221120237041090561 w (by decide) (by decide)
  rw [show decide (keyN 9221120237041090561 = keyN 9221120237041090561) = true from by simp] at h
  exact h
theorem c_4 (w : World) : Calls Tryz.prog 15 #[.float .f64 0] w fun e w' => e = .returned (.int .u64 9223372036854775808) ∧ w = w' := by
  have h := key_any 0 w (by decide)
  rw [show keyN 0 = 9223372036854775808 from by decide +kernel] at h
  exact h
theorem c_5 (w : World) : Calls Tryz.prog 14 #[.float .f64 9223372036854775808, .float .f64 0] w fun e w' => e = .returned (.float .f64 0) ∧ w = w' := by
  have h := top_any 9223372036854775808 0 w (by decide) (by decide)
  rw [show topN 9223372036854775808 0 = 0 from by decide +kernel] at h
  exact h
theorem c_6 (w : World) : Calls Tryz.prog 12 #[.float .f64 0, .float .f64 0] w fun e w' => e = .returned (.bool true) ∧ w = w' := by
  have h := same_any 0 0 w (by decide) (by decide)
  rw [show decide (keyN 0 = keyN 0) = true from by simp] at h
  exact h
set_option maxRecDepth 100000 in
set_option maxHeartbeats 2000000 in
theorem alive_any (w : World) (b off : Nat) (hv : Vars w b off) : Calls Tryz.prog 8 #[] w fun e w' => e = .returned (.bool true) ∧ Below w.heap.size w w' := by
  go_enter Tryz.func8, Tryz.ntmps8
  go_wp2_with fail
  refine (rd_m0 _ hv.h3).mono ?_
  rintro e w1 ⟨rfl, b1⟩
  have v1 := hv.below b1
  go_wp2_with fail
  refine (rd_125 _ b off v1.h3 v1.h6 v1.h10 v1.h10').mono ?_
  rintro e w2 ⟨rfl, b2⟩
  have v2 := v1.below b2
  have b12 := b1.trans (b2.mono b1.size)
  clear v1 b1 b2 hv
  go_wp2_with fail
  refine (rd_01 _).mono ?_
  rintro e w3 ⟨rfl, rfl⟩
  go_wp2_with fail
  refine (read_nan _).mono ?_
  rintro e w3 ⟨rfl, rfl⟩
  go_wp2_with fail
  refine (c_1 _).mono ?_
  rintro e w3 ⟨rfl, rfl⟩
  go_wp2_with fail
  refine (tx_125 _ v2.h7 v2.h11 v2.h11b).mono ?_
  rintro e w4 ⟨rfl, b3⟩
  have b13 := b12.trans (b3.mono b12.size)
  clear v2 b12 b3
  go_wp2_with fail
  refine (tx_m0 _).mono ?_
  rintro e w5 ⟨rfl, b4⟩
  have b14 := b13.trans (b4.mono b13.size)
  clear b13 b4
  go_wp2_with (go_at_call 22; go_in)
  refine (c_2 _).mono ?_
  rintro e w3 ⟨rfl, rfl⟩
  go_wp2_with fail
  refine (c_3 _).mono ?_
  rintro e w3 ⟨rfl, rfl⟩
  go_wp2_with fail
  refine (sum_12 _ w5.heap.size (cell_of_row _ _ 0 #[.float .f64 4607182418800017408, .float .f64 4611686018427387904] 24 (0, 0) (heap_alloc_new w5 _)) (cell_of_row _ _ 1 #[.float .f64 4607182418800017408, .float .f64 4611686018427387904] 24 (0, 0) (heap_alloc_new w5 _))).mono ?_
  rintro e w6 ⟨rfl, rfl⟩
  go_wp2_with fail
  refine (c_4 _).mono ?_
  rintro e w3 ⟨rfl, rfl⟩
  go_wp2_with fail
  refine (c_5 _).mono ?_
  rintro e w3 ⟨rfl, rfl⟩
  go_wp2_with fail
  refine (c_6 _).mono ?_
  rintro e w3 ⟨rfl, rfl⟩
  go_wp2_with fail
  go_ret
  exact ⟨rfl, b14.alloc b14.size _⟩
end Go.Proofs.YtoogdidgcclmnaaGreatDoor.alv
