import Derived.Test.YtkhflfkedpkelaaGreatDoorFnf
import Derived.Test.YtkhflfkedpkelaaGreatDoorFnc
namespace Go.Proofs.YtkhflfkedpkelaaGreatDoor.lx
open Go.ChangeShapes Go.WideShapes Go.ChangeAt Go.RowKit
set_option linter.unusedVariables false
/-! printing a weight -/
theorem efg_any (neg : Bool) (B b : Nat) (ty : TypeId) (G : List UInt8) (rest : List UInt8) (dp pr : Int) (hdp : -1000 ≤ dp ∧ dp ≤ 1000) (hpr : pr = max ((G.length : Int) - dp) 0) (hG : 1 ≤ G.length) (hG20 : G.length ≤ 20) (hr : (G ++ rest).length = 32) (w0 w : World) (v : Value) (h : OutS true B b ty (BL (G ++ rest)) w0 w v []) : Calls Tryz.prog 57 #[v, .bool neg, .slice (some ⟨b, 0, none⟩) 32 32, .int .i64 dp, .int .i64 G.length, .int .i64 pr, .int .u8 102, .bool true] w fun e w' => ∃ v', e = .returned v' ∧ OutS true B b ty (BL (G ++ rest)) w0 w' v' (fm.outN neg G dp) := by
  by_cases h1 : (0 : Int) < dp
  · obtain ⟨D, hD⟩ : ∃ D : Nat, dp = (D : Int) := ⟨dp.toNat, by omega⟩
    subst hD
    by_cases h2 : G.length ≤ D
    · have e : pr = 0 := by omega
      subst e
      cases neg
      · exact efg_af B b ty G rest D h2 (by omega) hG hG20 hr w0 w v h
      · exact efg_at B b ty G rest D h2 (by omega) hG hG20 hr w0 w v h
    · have e : pr = ((G.length - D : Nat) : Int) := by omega
      subst e
      cases neg
      · exact efg_bf B b ty G rest D (by omega) (by omega) hG hG20 hr w0 w v h
      · exact efg_bt B b ty G rest D (by omega) (by omega) hG hG20 hr w0 w v h
  · obtain ⟨Z, hZ⟩ : ∃ Z : Nat, dp = -(Z : Int) := ⟨(-dp).toNat, by omega⟩
    subst hZ
    have e : pr = ((G.length + Z : Nat) : Int) := by omega
    subst e
    cases neg
    · exact efg_cf B b ty G rest Z (by omega) hG hG20 hr w0 w v h
    · exact efg_ct B b ty G rest Z (by omega) hG hG20 hr w0 w v h
theorem short_any (m : Nat) (e : Int) (hm : 9223372036854775808 ≤ m) (hm2 : m < 18446744073709550592) (he : -1085 ≤ e) (he2 : e ≤ 960) (w : World) (hv : Ps w) : Calls Tryz.prog 67 #[.int .u64 m, .int .i64 e] w fun r w' => r = .returned (.tuple #[.int .u64 ((fm.shortN TT m e).1 : Nat), .int .i64 (fm.shortN TT m e).2]) ∧ Below w.heap.size w w' := by
  by_cases h1 : m = 9223372036854775808
  · by_cases h2 : -1085 < e
    · exact short_one m e hm hm2 h1 h2 he2 w hv
    · exact short_two_b m e hm hm2 h1 (by omega) w hv
  · exact short_two m e hm hm2 h1 he he2 w hv
theorem tail_bd (T : Nat → Nat × Nat) (mn mx m od : Nat) (e p : Int) (hp : -400 ≤ p ∧ p ≤ 400) : (fm.tailN T mn mx m od e p).1 < 18446744073709551616 ∧ -500 ≤ (fm.tailN T mn mx m od e p).2 ∧ (fm.tailN T mn mx m od e p).2 ≤ 500 := by
  unfold fm.tailN
  simp only
  split
  · exact ⟨by show _ / 4 / 10 < _; omega, by show -500 ≤ -(p - 1); omega, by show -(p - 1) ≤ 500; omega⟩
  · split
    · exact ⟨by show _ / 4 < _; omega, by show -500 ≤ -p; omega, by show -p ≤ 500; omega⟩
    · exact ⟨by show _ / 4 < _; omega, by show -500 ≤ -p; omega, by show -p ≤ 500; omega⟩
theorem short_bd (T : Nat → Nat × Nat) (m : Nat) (e : Int) (he : -1085 ≤ e) (he2 : e ≤ 960) : (fm.shortN T m e).1 < 18446744073709551616 ∧ -500 ≤ (fm.shortN T m e).2 ∧ (fm.shortN T m e).2 ≤ 500 := by
  unfold fm.shortN
  split
  · exact tail_bd _ _ _ _ _ _ _ (by unfold fm.skw; omega)
  · first
    | (rw [if_pos he]; exact tail_bd _ _ _ _ _ _ _ (by unfold fm.l10; omega))
    | exact tail_bd _ _ _ _ _ _ _ (by unfold fm.l10; omega)
theorem strip_pos (d : Nat) (hd : 0 < d) (hd64 : d < 18446744073709551616) : 1 ≤ (fm.stripZ (fm.digs (fm.ndN d) d)).length := by
  rcases Nat.eq_zero_or_pos (fm.stripZ (fm.digs (fm.ndN d) d)).length with h | h
  · exfalso
    have h0 := List.length_eq_zero_iff.1 h
    have h1 := fm.strip_last _ 0 h0
    have h2 := fm.digs_valL (fm.ndN d) d (fm.nd_spec d hd64).1
    rw [h1] at h2
    have h3 := fm.valL_zeros [] (fm.digs (fm.ndN d) d).length
    rw [List.nil_append] at h3
    rw [h3] at h2
    simp [fm.valL] at h2
    omega
  · exact h
/-- what stands behind the digits that are told -/
def restD (d : Nat) : List UInt8 := List.replicate ((fm.digs (fm.ndN d) d).length - (fm.stripZ (fm.digs (fm.ndN d) d)).length) 48 ++ List.replicate (32 - fm.ndN d) 0
theorem rest_eq (d : Nat) : fm.digs (fm.ndN d) d ++ List.replicate (32 - fm.ndN d) 0 = fm.stripZ (fm.digs (fm.ndN d) d) ++ restD d := by
  unfold restD
  rw [← List.append_assoc, ← (fm.strip_eq (fm.digs (fm.ndN d) d)).1]
end Go.Proofs.YtkhflfkedpkelaaGreatDoor.lx
