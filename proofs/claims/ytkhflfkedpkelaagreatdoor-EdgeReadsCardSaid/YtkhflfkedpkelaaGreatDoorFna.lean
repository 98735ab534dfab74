import Derived.Test.YtkhflfkedpkelaaGreatDoorLxa
import Derived.Test.YtkhflfkedpkelaaGreatDoorFmd
import Derived.Shelf.Bits.Mul64
import Derived.Shelf.Strconv.Itoa0
import Derived.Shelf.Strconv.Itoa2
import Derived.Laws.Bits64b
import GoSem.PinnedTables
namespace Go.Proofs
section
open Go.Shelf
def Tryz.lays264_ren : Go.Shelf.Ren := ⟨fun | 264 => 119 | n => n, fun | 53 => 35 | 46 => 60 | n => n, fun | n => n⟩
theorem Tryz.lays264 : Go.Proofs.Lays.n264 Tryz.prog Tryz.lays264_ren := {
  mixed := by kernel_rfl
  f264 := Tryz.func119.trans (congrArg some (by kernel_rfl))
  t46 := Tryz.underlying60
  a46 := Tryz.isAgg60
  z46 := Tryz.sizeOf60
  v46 := Tryz.zeroValue60
  t53 := Tryz.underlying35
  a53 := Tryz.isAgg35
  z53 := Tryz.sizeOf35
  v53 := Tryz.zeroValue35 }
end
section
open Go.Shelf
def Tryz.lays129_ren : Go.Shelf.Ren := ⟨fun | 129 => 58 | n => n, fun | 53 => 35 | 3 => 3 | 4 => 4 | 46 => 60 | 5 => 5 | 9 => 9 | n => n, fun | n => n⟩
theorem Tryz.lays129 : Go.Proofs.Lays.n129 Tryz.prog Tryz.lays129_ren := {
  mixed := by kernel_rfl
  f129 := Tryz.func58.trans (congrArg some (by kernel_rfl))
  t3 := Tryz.underlying3
  a3 := Tryz.isAgg3
  z3 := Tryz.sizeOf3
  v3 := Tryz.zeroValue3
  t4 := Tryz.underlying4
  a4 := Tryz.isAgg4
  z4 := Tryz.sizeOf4
  v4 := Tryz.zeroValue4
  t5 := Tryz.underlying5
  a5 := Tryz.isAgg5
  z5 := Tryz.sizeOf5
  v5 := Tryz.zeroValue5
  t9 := Tryz.underlying9
  a9 := Tryz.isAgg9
  z9 := Tryz.sizeOf9
  v9 := Tryz.zeroValue9
  t46 := Tryz.underlying60
  a46 := Tryz.isAgg60
  z46 := Tryz.sizeOf60
  v46 := Tryz.zeroValue60
  t53 := Tryz.underlying35
  a53 := Tryz.isAgg35
  z53 := Tryz.sizeOf35
  v53 := Tryz.zeroValue35 }
end
section
open Go.Shelf
def Tryz.lays285_ren : Go.Shelf.Ren := ⟨fun | 285 => 97 | n => n, fun | 37 => 61 | 53 => 35 | 3 => 3 | 4 => 4 | 51 => 74 | 9 => 9 | 5 => 5 | 0 => 0 | n => n, fun | n => n⟩
theorem Tryz.lays285 : Go.Proofs.Lays.n285 Tryz.prog Tryz.lays285_ren := {
  mixed := by kernel_rfl
  f285 := Tryz.func97.trans (congrArg some (by kernel_rfl))
  t0 := Tryz.underlying0
  a0 := Tryz.isAgg0
  z0 := Tryz.sizeOf0
  v0 := Tryz.zeroValue0
  t3 := Tryz.underlying3
  a3 := Tryz.isAgg3
  z3 := Tryz.sizeOf3
  v3 := Tryz.zeroValue3
  t4 := Tryz.underlying4
  a4 := Tryz.isAgg4
  z4 := Tryz.sizeOf4
  v4 := Tryz.zeroValue4
  t5 := Tryz.underlying5
  a5 := Tryz.isAgg5
  z5 := Tryz.sizeOf5
  v5 := Tryz.zeroValue5
  t9 := Tryz.underlying9
  a9 := Tryz.isAgg9
  z9 := Tryz.sizeOf9
  v9 := Tryz.zeroValue9
  t37 := Tryz.underlying61
  a37 := Tryz.isAgg61
  z37 := Tryz.sizeOf61
  v37 := Tryz.zeroValue61
  t51 := Tryz.underlying74
  a51 := Tryz.isAgg74
  z51 := Tryz.sizeOf74
  v51 := Tryz.zeroValue74
  t53 := Tryz.underlying35
  a53 := Tryz.isAgg35
  z53 := Tryz.sizeOf35
  v53 := Tryz.zeroValue35 }
end
namespace YtkhflfkedpkelaaGreatDoor.lx
open Go.ChangeShapes Go.WideShapes Go.ChangeAt Go.RowKit Go.Shelf
set_option linter.unusedVariables false
/-! printing a weight: the small functions -/
theorem mul_any (x y : Nat) (hx : x < 18446744073709551616) (hy : y < 18446744073709551616) (w : World) : Calls Tryz.prog 119 #[.int .u64 x, .int .u64 y] w fun e w' => e = .returned (.tuple #[.int .u64 ((x * y / 18446744073709551616 : Nat) : Int), .int .u64 ((x * y % 18446744073709551616 : Nat) : Int)]) ∧ w = w' :=
  (Any.bits_Mul64 Tryz.lays264 x y hx hy w).mono (by rintro e w' ⟨h, rfl⟩; exact ⟨h, rfl⟩)
theorem bitLenAux_eq : ∀ (f x : Nat), x < 2 ^ f → Lib.bitLenAux f x = fm.bitL x
  | 0, x, h => by
    obtain rfl : x = 0 := by simpa using h
    rfl
  | f + 1, x, h => by
    unfold Lib.bitLenAux
    by_cases h0 : x = 0
    · rw [if_pos h0, h0]; rfl
    · rw [if_neg h0, bitLenAux_eq f (x / 2) (by rw [Nat.pow_succ] at h; omega)]
      unfold fm.bitL
      rw [if_neg h0]
      by_cases h1 : x / 2 = 0
      · rw [if_pos h1]
        obtain rfl : x = 1 := by omega
        rfl
      · rw [if_neg h1, Nat.log2_def x, if_pos (by omega)]
        omega
theorem len_any (x : Nat) (hx : x < 18446744073709551616) (w : World) : Calls Tryz.prog 58 #[.int .u64 x] w fun e w' => e = .returned (.int .i64 (fm.bitL x)) ∧ w = w' :=
  (Any.bits_Len64 Tryz.lays129 (x : Int) w (by omega) (by omega)).mono (by
    rintro e w' ⟨h, rfl⟩
    refine ⟨?_, rfl⟩
    rw [h, Int.toNat_natCast]
    unfold Lib.bitLen
    rw [bitLenAux_eq 64 x hx])
theorem wrap_i64 (x : Int) (h1 : -9223372036854775808 ≤ x) (h2 : x < 9223372036854775808) : IntKind.i64.wrap x = x := by
  rw [IntKind.wrap_i64]
  omega
theorem l10_any (x : Int) (h1 : -5000 ≤ x) (h2 : x ≤ 5000) (w : World) : Calls Tryz.prog 62 #[.int .i64 x] w fun e w' => e = .returned (.int .i64 (fm.l10 x)) ∧ w = w' := by
  go_enter Tryz.func62, Tryz.ntmps62
  go_wp2
  go_ret
  exact ⟨rfl, rfl⟩
theorem l2p_any (x : Int) (h1 : -5000 ≤ x) (h2 : x ≤ 5000) (w : World) : Calls Tryz.prog 91 #[.int .i64 x] w fun e w' => e = .returned (.int .i64 (fm.l2p x)) ∧ w = w' := by
  go_enter Tryz.func91, Tryz.ntmps91
  go_wp2
  go_ret
  exact ⟨rfl, rfl⟩
theorem skw_any (x : Int) (h1 : -5000 ≤ x) (h2 : x ≤ 5000) (w : World) : Calls Tryz.prog 89 #[.int .i64 x] w fun e w' => e = .returned (.int .i64 (fm.skw x)) ∧ w = w' := by
  go_enter Tryz.func89, Tryz.ntmps89
  go_wp2
  go_ret
  exact ⟨rfl, rfl⟩
theorem and1 (u : Nat) (hu : u < 18446744073709551616) : bits .and .u64 (u : Int) 1 = ((u % 2 : Nat) : Int) := by
  have h := bits_and_u64_nat u 1 hu (by decide)
  rw [Nat.and_one_is_mod] at h
  exact h
theorem nudge_any (u : Nat) (d : Int) (w : World) : Calls Tryz.prog 93 #[.int .u64 u, .int .i64 d] w fun e w' => e = .returned (.int .u64 ((u + d) % 18446744073709551616)) ∧ w = w' := by
  go_enter Tryz.func93, Tryz.ntmps93
  go_wp2
  go_ret
  have e : IntKind.u64.wrap ((u : Int) + IntKind.u64.wrap d) = (u + d) % 18446744073709551616 := by
    rw [IntKind.wrap_u64, IntKind.wrap_u64]
    omega
  exact ⟨by rw [← e]; rfl, rfl⟩
theorem ceil_any (u : Nat) (w : World) : Calls Tryz.prog 94 #[.int .u64 u] w fun e w' => e = .returned (.int .u64 ((u + 3) % 18446744073709551616 / 4 : Nat)) ∧ w = w' := by
  go_enter Tryz.func94, Tryz.ntmps94
  go_wp2
  go_ret
  exact ⟨rfl, rfl⟩
theorem floor_any (u : Nat) (hu : u < 18446744073709551616) (w : World) : Calls Tryz.prog 95 #[.int .u64 u] w fun e w' => e = .returned (.int .u64 (u / 4 : Nat)) ∧ w = w' := by
  go_enter Tryz.func95, Tryz.ntmps95
  go_wp2
  go_ret
  exact ⟨rfl, rfl⟩
theorem round_any (u : Nat) (hu : u < 18446744073709551616) (w : World) : Calls Tryz.prog 96 #[.int .u64 u] w fun e w' => e = .returned (.int .u64 (((u + 1) + u / 4 % 2) % 18446744073709551616 / 4 : Nat)) ∧ w = w' := by
  go_enter Tryz.func96, Tryz.ntmps96
  go_wp2
  go_ret
  have e1 : bits .and .u64 ((u : Int) / 4) 1 = ((u / 4 % 2 : Nat) : Int) := and1 (u / 4) (by omega)
  have e : IntKind.u64.wrap (IntKind.u64.wrap ((u : Int) + 1) + bits BinOp.and IntKind.u64 ((u : Int) / 4) 1) / 4 = (((u + 1) + u / 4 % 2) % 18446744073709551616 / 4 : Nat) := by
    rw [e1, IntKind.wrap_u64, IntKind.wrap_u64]
    omega
  exact ⟨by rw [← e]; rfl, rfl⟩
/-- the scaler, in memory -/
structure ScAt (w : World) (b hi lo : Nat) (s : Int) : Prop where
  c0 : w.cell? ⟨b, 0, none⟩ = some (.int .u64 hi)
  c1 : w.cell? ⟨b, 1, none⟩ = some (.int .u64 lo)
  c2 : w.cell? ⟨b, 2, none⟩ = some (.int .i64 s)
theorem bv_and (x y : Int) : (BitVec.ofInt 64 x &&& BitVec.ofInt 64 y).toNat = (x % 18446744073709551616).toNat &&& (y % 18446744073709551616).toNat := by
  rw [BitVec.toNat_and, BitVec.toNat_ofInt, BitVec.toNat_ofInt]; rfl
theorem and_nat (x : Int) (m j : Nat) (hm : m = 2 ^ j - 1) (hj : m < 4611686018427387904) (hd : (18446744073709551616 : Nat) % 2 ^ j = 0) : bits .and .i64 x (m : Int) = x % ((2 ^ j : Nat) : Int) := by
  have hp : 0 < 2 ^ j := Nat.two_pow_pos j
  show IntKind.i64.wrap ((BitVec.ofInt 64 x &&& BitVec.ofInt 64 (m : Int)).toNat : Int) = _
  rw [bv_and, Int.emod_eq_of_lt (show (0 : Int) ≤ (m : Int) by omega) (by omega), Int.toNat_natCast, hm, Nat.and_two_pow_sub_one_eq_mod]
  have hlt := Nat.mod_lt (x % 18446744073709551616).toNat hp
  rw [IntWalk.i64_in _ (by omega)]
  generalize hP : 2 ^ j = P at *
  obtain ⟨q, hq⟩ := Nat.dvd_of_mod_eq_zero hd
  have h0 := Int.emod_nonneg x (show (18446744073709551616 : Int) ≠ 0 by decide)
  have e : (((x % 18446744073709551616).toNat % P : Nat) : Int) = (x % 18446744073709551616) % (P : Int) := by
    rw [Int.natCast_emod, Int.toNat_of_nonneg h0]
  rw [e]
  exact Int.emod_emod_of_dvd x ⟨(q : Int), (congrArg (fun m : Nat => (m : Int)) hq).trans (Int.natCast_mul P q)⟩
def Qq (w w' : World) : Prop := ∃ n, w' = w.drewN n
theorem and63 (s : Int) : bits .and .i64 s 63 = (((s % 64).toNat : Nat) : Int) := by
  have h : bits .and .i64 s 63 = s % 64 := and_nat s 63 6 (by decide) (by decide) (by decide)
  rw [h]
  omega
theorem or1n (u : Nat) (hu : u < 18446744073709551616) : bits .or .u64 (u : Int) 1 = ((u ||| 1 : Nat) : Int) := bits_or_u64_nat u 1 hu (by decide)
theorem div_pow (v S : Nat) : (v : Int) / 2 ^ S = ((v / 2 ^ S : Nat) : Int) := by push_cast; rfl
theorem bool2_any (b : Bool) (w : World) : Calls Tryz.prog 81 #[.bool b] w fun e w' => e = .returned (.int .u64 (b.toNat : Nat)) ∧ w = w' := by
  cases b
  all_goals
    go_enter Tryz.func81, Tryz.ntmps81
    go_wp2
    go_ret
    exact ⟨rfl, rfl⟩
set_option maxRecDepth 100000 in
set_option maxHeartbeats 1000000 in
theorem uscale_any (x hi lo : Nat) (s : Int) (hx : x < 18446744073709551616) (hh : hi < 18446744073709551616) (hl : lo < 18446744073709551616) (w : World) (b : Nat) (h : ScAt w b hi lo s) : Calls Tryz.prog 92 #[.int .u64 x, .pointer (some ⟨b, 0, none⟩)] w fun e w' => e = .returned (.int .u64 (fm.uscN x hi lo (s % 64).toNat)) ∧ Qq w w' := by
  obtain ⟨c0, c1, c2⟩ := h
  have m1 := mul_any x hi hx hh
  have m2 := mul_any x lo hx hl
  have hS := and63 s
  have hS64 : (s % 64).toNat < 64 := by omega
  have hP : x * hi < 18446744073709551616 * 18446744073709551616 := Nat.lt_of_le_of_lt (Nat.mul_le_mul_left x (Nat.le_of_lt hh)) (Nat.mul_lt_mul_of_pos_right hx (by decide))
  have hP2 : x * lo < 18446744073709551616 * 18446744073709551616 := Nat.lt_of_le_of_lt (Nat.mul_le_mul_left x (Nat.le_of_lt hl)) (Nat.mul_lt_mul_of_pos_right hx (by decide))
  unfold fm.uscN
  have hH : x * hi / 18446744073709551616 < 18446744073709551616 := Nat.div_lt_of_lt_mul hP
  have hM : x * hi % 18446744073709551616 < 18446744073709551616 := Nat.mod_lt _ (by decide)
  have hM2 : x * lo / 18446744073709551616 < 18446744073709551616 := Nat.div_lt_of_lt_mul hP2
  generalize x * hi / 18446744073709551616 = H at *
  generalize x * hi % 18446744073709551616 = M at *
  generalize x * lo / 18446744073709551616 = M2 at *
  generalize x * lo % 18446744073709551616 = M3 at *
  generalize (s % 64).toNat = S at *
  have hle : H / 2 ^ S * 2 ^ S ≤ H := Nat.div_mul_le_self H (2 ^ S)
  have hD : H / 2 ^ S ≤ H := Nat.div_le_self H (2 ^ S)
  have e1 : (H : Int) / 2 ^ S = ((H / 2 ^ S : Nat) : Int) := by push_cast; rfl
  have e2 : IntKind.u64.wrap (((H / 2 ^ S : Nat) : Int) * 2 ^ S) = ((H / 2 ^ S * 2 ^ S : Nat) : Int) := by
    rw [show ((H / 2 ^ S : Nat) : Int) * 2 ^ S = ((H / 2 ^ S * 2 ^ S : Nat) : Int) from by push_cast; rfl, IntKind.wrap_u64]
    omega
  clear hP hP2 hx hh hl
  by_cases hc : H / 2 ^ S * 2 ^ S = H
  · rw [if_pos hc]
    rw [hc] at e2
    clear hc hle
    have hv : (H + 18446744073709551616 - (if M < M2 then 1 else 0)) % 18446744073709551616 < 18446744073709551616 := Nat.mod_lt _ (by decide)
    have q3 : (((H + 18446744073709551616 - (if M < M2 then 1 else 0)) % 18446744073709551616 : Nat) : Int) / 2 ^ S = (((H + 18446744073709551616 - (if M < M2 then 1 else 0)) % 18446744073709551616 / 2 ^ S : Nat) : Int) := div_pow _ _
    have hsub : IntKind.u64.wrap ((H : Int) - ((decide (M < M2)).toNat : Nat)) = (((H + 18446744073709551616 - (if M < M2 then 1 else 0)) % 18446744073709551616 : Nat) : Int) := by
      rw [IntKind.wrap_u64]
      by_cases hb : M < M2
      · rw [decide_eq_true hb, if_pos hb, Bool.toNat_true]; omega
      · rw [decide_eq_false hb, if_neg hb, Bool.toNat_false]; omega
    have hd1 : decide ((M : Int) < (M2 : Int)) = decide (M < M2) := decide_eq_decide.2 (by omega)
    have hsub2 : IntKind.u64.wrap ((M : Int) - (M2 : Int)) = (((M + 18446744073709551616 - M2) % 18446744073709551616 : Nat) : Int) := by
      rw [IntKind.wrap_u64]; omega
    have hd2 : decide ((1 : Int) < (((M + 18446744073709551616 - M2) % 18446744073709551616 : Nat) : Int)) = decide (1 < (M + 18446744073709551616 - M2) % 18446744073709551616) := decide_eq_decide.2 (by omega)
    have hor : ∀ v : Nat, v < 18446744073709551616 → bits .or .u64 (v : Int) (((decide (1 < (M + 18446744073709551616 - M2) % 18446744073709551616)).toNat : Nat) : Int) = ((v ||| (if 1 < (M + 18446744073709551616 - M2) % 18446744073709551616 then 1 else 0) : Nat) : Int) := fun v hv => by
      by_cases hb : 1 < (M + 18446744073709551616 - M2) % 18446744073709551616
      · rw [decide_eq_true hb, if_pos hb, Bool.toNat_true]; exact or1n v hv
      · rw [decide_eq_false hb, if_neg hb, Bool.toNat_false]; exact bits_or_u64_nat v 0 hv (by decide)
    have hor2 := hor (((H + 18446744073709551616 - (if M < M2 then 1 else 0)) % 18446744073709551616) / 2 ^ S) (Nat.lt_of_le_of_lt (Nat.div_le_self _ _) hv)
    clear hor hv
    generalize (H + 18446744073709551616 - (if M < M2 then 1 else 0)) % 18446744073709551616 = H2 at *
    generalize H2 / 2 ^ S = D2 at *
    generalize H / 2 ^ S = D1 at *
    have b1 := bool2_any (decide (M < M2))
    have b2 := bool2_any (decide (1 < (M + 18446744073709551616 - M2) % 18446744073709551616))
    generalize (M + 18446744073709551616 - M2) % 18446744073709551616 = V at *
    generalize D2 ||| (if 1 < V then 1 else 0) = R at *
    clear hD hH hM hM2
    go_enter Tryz.func92, Tryz.ntmps92
    go_wp2_with fail
    refine (m1 _).mono ?_
    rintro e w1 ⟨rfl, rfl⟩
    clear m1
    go_wp2_with fail
    refine (m2 _).mono ?_
    rintro e w1 ⟨rfl, rfl⟩
    clear m2
    go_wp2_with fail
    refine (b1 _).mono ?_
    rintro e w1 ⟨rfl, rfl⟩
    clear b1
    go_wp2_with fail
    go_quiet ((go_at_call 81; exact Calls.quiet_of_same ((b2 _).mono fun _ _ h => ⟨h.1, h.2.symm⟩)))
    go_wp2_with fail
    go_ret
    exact ⟨rfl, _, rfl⟩
  · rw [if_neg hc]
    have ho := or1n (H / 2 ^ S) (by omega)
    have hne : (((H / 2 ^ S * 2 ^ S : Nat) : Int) == (H : Int)) = false := by rw [beq_eq_false_iff_ne]; omega
    clear hD hc hH hM hM2 m2 hle
    generalize H / 2 ^ S * 2 ^ S = C1 at *
    generalize H / 2 ^ S = D1 at *
    generalize D1 ||| 1 = R at *
    go_enter Tryz.func92, Tryz.ntmps92
    go_wp2_with (go_at_call 119; refine (m1 _).mono ?_; rintro e w1 ⟨rfl, rfl⟩)
    go_ret
    exact ⟨rfl, 0, rfl⟩
end Go.Proofs.YtkhflfkedpkelaaGreatDoor.lx
