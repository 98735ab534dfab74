import Derived.Test.YtkhflfkedpkelaaGreatDoorLxc
namespace Go.Proofs.YtkhflfkedpkelaaGreatDoor.lx
open Go.ChangeShapes Go.WideShapes Go.ChangeAt Go.RowKit
set_option linter.unusedVariables false
theorem x_frombits (n : Int) (w : World) : (callFunc 21 #[.int .u64 n]).run Tryz.prog w = .ok (.value (.float .f64 n.toNat)) w :=
  run_callFunc_extern (e := Extern.MathFloatBits.float64frombits) Tryz.func21 (by kernel_rfl) (by kernel_rfl) (by kernel_rfl) (by kernel_rfl) _ w
theorem x_bits (n : Nat) (w : World) : (callFunc 23 #[.float .f64 n]).run Tryz.prog w = .ok (.value (.int .u64 n)) w :=
  run_callFunc_extern (e := Extern.MathFloatBits.float64bits) Tryz.func23 (by kernel_rfl) (by kernel_rfl) (by kernel_rfl) (by kernel_rfl) _ w
theorem x_sfrombits (n : Int) (w : World) : (callFunc 82 #[.int .u64 n]).run Tryz.prog w = .ok (.value (.float .f64 n.toNat)) w :=
  run_callFunc_extern (e := Extern.MathFloatBits.float64frombits) Tryz.func82 (by kernel_rfl) (by kernel_rfl) (by kernel_rfl) (by kernel_rfl) _ w
theorem x_index (s : ByteArray) (c : Int) (w : World) : (callFunc 107 #[.string s, .int .u8 c]).run Tryz.prog w = .ok (.value (.int .i64 (firstIdx s c.toNat.toUInt8))) w := by
  rw [run_callFunc_extern (e := Extern.BytealgIndexByte.indexByte) Tryz.func107 (by kernel_rfl) (by kernel_rfl) (by kernel_rfl) (by kernel_rfl) _ w, run_indexByte_string]
  rfl
theorem fo_nat (V : Nat) : floatOfInt .f64 (V : Int) = Ieee.double.nearest false V 0 := by
  show Ieee.double.nearest (decide ((V : Int) < 0)) (V : Int).natAbs 0 = _
  rw [show decide ((V : Int) < 0) = false from decide_eq_false (by omega), Int.natAbs_natCast]
theorem xor_top (x : Nat) (h : x < 9223372036854775808) : x ^^^ 9223372036854775808 = 9223372036854775808 + x := by
  have p63 : (2 : Nat) ^ 63 = 9223372036854775808 := by decide +kernel
  rw [← p63] at h ⊢
  have e := Nat.two_pow_add_eq_or_of_lt (i := 63) h 1
  rw [Nat.mul_one] at e
  rw [e]
  refine Nat.eq_of_testBit_eq fun i => ?_
  rw [Nat.testBit_xor, Nat.testBit_or, Nat.testBit_two_pow]
  by_cases hi : 63 = i
  · subst hi
    rw [Nat.testBit_lt_two_pow h]
    simp
  · simp [hi]
theorem neg_near (V : Nat) (E : Int) : Go.Op.negFloat .f64 (Ieee.double.nearest false V E) = Ieee.double.nearest true V E := by
  rw [flo.neg_bits]
  have p63 : (2 : Nat) ^ 63 = 9223372036854775808 := by decide +kernel
  show Ieee.double.nearest false V E ^^^ 2 ^ 63 = _
  rw [p63, xor_top _ (flo.bits_lt V E)]
theorem run_neg (V : Nat) (E : Int) (w : World) : (Go.Op.unary .neg (.float .f64 (Ieee.double.nearest false V E))).run Tryz.prog w = .ok (.float .f64 (Ieee.double.nearest true V E)) w := by
  rw [← neg_near]
  rfl
/-- the tables that reading leans on -/
structure Vs (w : World) (b off : Nat) : Prop where
  h5 : w.cell? ⟨3, 0, none⟩ = some (.bool true)
  h6 : w.cell? ⟨6, 0, none⟩ = some (.int .u64 52)
  h9 : w.cell? ⟨10, 0, none⟩ = some (.slice (some ⟨b, off, none⟩) 23 23)
  hp : ∀ k, k ≤ 6 → w.cell? ⟨b, off + k, none⟩ = some (.float .f64 (Ieee.double.nearest false (10 ^ k) 0))
theorem lt_size {w : World} {b o : Nat} {v : Value} (h : w.cell? ⟨b, o, none⟩ = some v) : b < w.heap.size := by
  rcases Nat.lt_or_ge b w.heap.size with hlt | hge
  · exact hlt
  · rw [World.cell?] at h; simp [Array.getElem?_eq_none hge] at h
theorem Vs.below {w w' : World} {b off : Nat} (h : Vs w b off) (hb : Below w.heap.size w w') : Vs w' b off :=
  ⟨(hb.cell (p := ⟨3, 0, none⟩) (lt_size h.h5)).trans h.h5, (hb.cell (p := ⟨6, 0, none⟩) (lt_size h.h6)).trans h.h6, (hb.cell (p := ⟨10, 0, none⟩) (lt_size h.h9)).trans h.h9, fun k hk => (hb.cell (p := ⟨b, off + k, none⟩) (lt_size (h.hp k hk))).trans (h.hp k hk)⟩
set_option maxRecDepth 100000 in
set_option maxHeartbeats 1000000 in
theorem exact_whole (neg : Bool) (V : Nat) (hV : V < 1000000000000000) (w : World) (b off : Nat) (h : Vs w b off) : Calls Tryz.prog 83 #[.int .u64 V, .int .i64 0, .bool neg] w fun e w' => e = .returned (.tuple #[.float .f64 (Ieee.double.nearest neg V 0), .bool true]) ∧ w = w' := by
  have h6 := h.h6
  have hfo := fo_nat V
  clear h
  have hng := run_neg V 0
  cases neg
  all_goals
    go_enter Tryz.func83, Tryz.ntmps83
    go_wp2_with fail
    go_ret2
    exact ⟨rfl, rfl⟩
set_option maxRecDepth 100000 in
set_option maxHeartbeats 1000000 in
theorem exact_part (neg : Bool) (V k : Nat) (hV : V < 1000000000000000) (hk : 1 ≤ k ∧ k ≤ 6) (w : World) (b off : Nat) (h : Vs w b off) : Calls Tryz.prog 83 #[.int .u64 V, .int .i64 (-(k : Int)), .bool neg] w fun e w' => e = .returned (.tuple #[.float .f64 (flo.wt neg V k), .bool true]) ∧ w = w' := by
  have h6 := h.h6
  have h9 := h.h9
  have hp := h.hp k hk.2
  have hfo := fo_nat V
  have hng := run_neg V 0
  have hq := fun w => run_float_arith (P := Tryz.prog) w .quo 23 .f64 (Ieee.double.nearest neg V 0) (Ieee.double.nearest false (10 ^ k) 0) (flo.wt neg V k) (flo.wt_div neg V k (by omega) hk.2)
  clear h
  generalize flo.wt neg V k = r at *
  generalize Ieee.double.nearest false (10 ^ k) 0 = t at *
  have hk2 : k = 1 ∨ k = 2 ∨ k = 3 ∨ k = 4 ∨ k = 5 ∨ k = 6 := by omega
  cases neg <;> rcases hk2 with rfl | rfl | rfl | rfl | rfl | rfl
  all_goals
    clear hk
    go_enter Tryz.func83, Tryz.ntmps83
    go_wp2_with fail
    go_ret2
    exact ⟨rfl, rfl⟩
end Go.Proofs.YtkhflfkedpkelaaGreatDoor.lx
