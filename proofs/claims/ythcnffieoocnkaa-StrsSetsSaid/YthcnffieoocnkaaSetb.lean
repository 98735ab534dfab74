import Derived.Test.YthcnffieoocnkaaSeta
namespace Go.Proofs.Ythcnffieoocnkaa.st
open Go.ChangeShapes Go.WideShapes Go.ChangeAt Go.RowKit Go.Maps Go.WideMaps Go.WideElems
set_option linter.unusedVariables false
theorem ext_lit (l : List UInt8) (i j : Nat) : (ByteArray.mk l.toArray).extract i j = ⟨((l.drop i).take (j - i)).toArray⟩ := by
  apply ByteArray.ext
  simp [ByteArray.data_extract, List.extract_toArray, List.extract_eq_take_drop]
theorem size_lit (l : List UInt8) : (ByteArray.mk l.toArray).size = l.length := rfl
attribute [local go_sem] ext_lit size_lit
set_option maxRecDepth 100000 in
theorem len_any (w : World) (s : Nat) (mo : Option Nat) (Ks : List (List UInt8)) (h : SetIs w s mo Ks) : Calls Try.prog 21 #[.pointer (some ⟨s, 0, none⟩)] w fun e w' => e = .returned (.int .i64 Ks.length) ∧ w = w' := by
  obtain ⟨mv, hb, hm⟩ := h
  have hc : w.cell? ⟨s, 0, none⟩ = some mv := hb.cell 0
  clear hb
  rcases hm with ⟨_, rfl, rfl⟩ | ⟨bm, D, _, rfl, hown, hD⟩
  · have hln := fun (w : World) (ty : TypeId) => Maps.len_nil (P := Try.prog) (w := w) Try.underlying51 ty
    go_enter Try.func21, Try.ntmps21
    go_wp2_with (go_at_call 34; refine (held_any _ s _ hc).mono ?_; rintro e w1 ⟨rfl, rfl⟩)
    go_ret
    exact ⟨rfl, rfl⟩
  · have hs := hD.2.2
    rw [← hs]
    clear hs
    go_enter Try.func21, Try.ntmps21
    go_wp2_with (first | (go_at_call 34; refine (held_any _ s _ hc).mono ?_; rintro e w1 ⟨rfl, rfl⟩) | (at_len; refine wpList_len_own _ rfl _ 51 rfl 9 68 Try.underlying51 _ bm _ _ rfl hown ?_))
    go_ret
    exact ⟨rfl, rfl⟩
set_option maxRecDepth 100000 in
theorem keyLen_any (w : World) (k : List UInt8) (hk : k.length ≤ maxLen) : Calls Try.prog 39 #[.string ⟨k.toArray⟩] w fun e w' => e = .returned (.int .i64 ((k.length / 8 : Nat) : Int)) ∧ w = w' := by
  unfold maxLen at hk
  go_enter Try.func39, Try.ntmps39
  go_wp2
  go_ret
  exact ⟨by simp, rfl⟩
theorem ret_take {k : List UInt8} {a b : Nat} (h : a = b) : Ending.returned (.string ⟨(k.take a).toArray⟩) = .returned (.string ⟨(k.take b).toArray⟩) := by rw [h]
theorem ret_take0 {k : List UInt8} {b : Nat} (h : b = 0) : Ending.returned (.string ⟨#[]⟩) = .returned (.string ⟨(k.take b).toArray⟩) := by rw [h]; rfl
def headB (k : List UInt8) (n : Int) : List UInt8 := k.take (8 * min (k.length / 8) n.toNat)
set_option maxRecDepth 100000 in
theorem keyHead_any (w : World) (k : List UInt8) (n : Int) (hk : k.length ≤ maxLen) : Calls Try.prog 41 #[Key k, .int .i64 n] w fun e w' => e = .returned (Key (headB k n)) ∧ w = w' := by
  have hkl := fun w => keyLen_any w k hk
  unfold maxLen at hk
  unfold Key headB
  have HK := Lib.hid hkl
  clear hkl
  generalize hm : k.length / 8 = m at *
  have hm8 : 8 * m ≤ k.length := by omega
  have HM := Lib.hid hm
  clear hm
  go_enter Try.func41, Try.ntmps41
  go_wp2_with (go_at_call 39; refine (HK.out _).mono ?_; rintro e w1 ⟨rfl, rfl⟩)
  all_goals go_ret
  all_goals refine ⟨?_, rfl⟩
  all_goals first | exact ret_take (by omega) | exact ret_take0 (by omega) | (split at * <;> first | exact ret_take (by omega) | exact ret_take0 (by omega))
end Go.Proofs.Ythcnffieoocnkaa.st
