import Derived.Test.YtoogdidgcclmnaaGreatDoorKeyc
namespace Go.Proofs.YtoogdidgcclmnaaGreatDoor.alv
open Go.ChangeShapes Go.WideShapes Go.ChangeAt Go.RowKit
set_option linter.unusedVariables false
def addF (a b : Nat) : Option Nat := FloatKind.f64.format.add a b
theorem add_nan {a : Nat} (h : nanB a = true) (x : Nat) : addF a x = none := by
  obtain ⟨f, h1⟩ := read_nan' a (by simpa [nanB] using h)
  unfold addF Ieee.Format.add
  rw [h1]
  simp [Ieee.Datum.sum]
theorem word_ok (neg : Bool) {r : Nat} (h : r ≤ 9218868437227405312) : nanB (FloatKind.f64.format.word neg r) = false ∧ FloatKind.f64.format.word neg r < 18446744073709551616 := by
  have e1 : FloatKind.f64.format.signWeight = 9223372036854775808 := by decide
  unfold Ieee.Format.word nanB
  rw [e1]
  cases neg <;> simp <;> omega
theorem write_ok (d : Ieee.Datum) (h : d.isNaN = false) : nanB (FloatKind.f64.format.write d) = false ∧ FloatKind.f64.format.write d < 18446744073709551616 := by
  have e2 : FloatKind.f64.format.infRung = 9218868437227405312 := by decide
  cases d with
  | number neg mag place =>
    show nanB (FloatKind.f64.format.nearest neg mag place) = false ∧ FloatKind.f64.format.nearest neg mag place < _
    unfold Ieee.Format.nearest
    dsimp only
    split
    · exact word_ok _ (by omega)
    · refine word_ok _ ?_
      rw [e2]
      exact Nat.min_le_right _ _
  | infinity neg =>
    show nanB (FloatKind.f64.format.word neg FloatKind.f64.format.infRung) = false ∧ FloatKind.f64.format.word neg FloatKind.f64.format.infRung < _
    rw [e2]
    exact word_ok _ (Nat.le_refl _)
  | nan => simp [Ieee.Datum.isNaN] at h
theorem sum_notnan {d e s : Ieee.Datum} (h : d.sum e = some s) : s.isNaN = false := by
  cases d <;> cases e <;> simp [Ieee.Datum.sum] at h
  · subst h; rfl
  · subst h; rfl
  · subst h; rfl
  · obtain ⟨_, rfl⟩ := h; rfl
theorem add_ok {a x r : Nat} (h : addF a x = some r) : nanB r = false ∧ r < 18446744073709551616 := by
  unfold addF Ieee.Format.add at h
  obtain ⟨s, hs, rfl⟩ := Option.map_eq_some_iff.1 h
  exact write_ok s (sum_notnan hs)
def stepF (o : Option Nat) (x : Nat) : Option Nat := o.bind fun a => addF a x
def headF (x : Nat) : Option Nat := if nanB x = true then none else some x
def sumF : List Nat → Option Nat
  | [] => some 0
  | x :: r => r.foldl stepF (headF x)
def IsF (o : Option Nat) (r : Nat) : Prop := r < 18446744073709551616 ∧ match o with
  | some a => r = a ∧ nanB a = false
  | none => nanB r = true
theorem IsF.head {x : Nat} (hx : x < 18446744073709551616) : IsF (headF x) x := by
  unfold headF IsF
  cases h : nanB x <;> simp [h, hx]
theorem IsF.key {o : Option Nat} {r s : Nat} (h : IsF o r) (k : IsF o s) : keyN r = keyN s := by
  unfold IsF at h k
  cases o with
  | none => rw [keyN_nan h.2, keyN_nan k.2]
  | some a => rw [h.2.1, k.2.1]
theorem IsF.some_ {o : Option Nat} {r x s : Nat} (h : IsF o r) (e : addF r x = some s) : IsF (stepF o x) s := by
  cases o with
  | none =>
    rw [add_nan h.2] at e
    cases e
  | some a =>
    obtain ⟨_, rfl, _⟩ := h
    unfold stepF IsF
    simp only [Option.bind_some, e]
    exact ⟨(add_ok e).2, trivial, (add_ok e).1⟩
theorem IsF.none_ {o : Option Nat} {r x s : Nat} (h : IsF o r) (e : addF r x = none) (hs : nanB s = true) (hl : s < 18446744073709551616) : IsF (stepF o x) s := by
  cases o with
  | none => exact ⟨hl, hs⟩
  | some a =>
    obtain ⟨_, rfl, _⟩ := h
    unfold stepF IsF
    simp only [Option.bind_some, e]
    exact ⟨hl, hs⟩
theorem sumF_snoc {l : List Nat} (h : l ≠ []) (x : Nat) : sumF (l ++ [x]) = stepF (sumF l) x := by
  cases l with
  | nil => exact absurd rfl h
  | cons y r => simp [sumF, List.foldl_append]
/-- which NaN an operation without an answer gives: the tape says -/
def nz (w : World) (x y : Nat) : Nat := Question.cut (.nanBits .f64 x y) (w.tape w.drawn (.nanBits .f64 x y))
theorem nz_form (s y : Nat) (h1 : s < 2) (h2 : y < 4503599627370495) : nanB (s * 9223372036854775808 + 9218868437227405312 + 1 + y) = true ∧ s * 9223372036854775808 + 9218868437227405312 + 1 + y < 18446744073709551616 := by
  unfold nanB
  rw [decide_eq_true_eq]
  omega
theorem nz_ok (w : World) (x y : Nat) : nanB (nz w x y) = true ∧ nz w x y < 18446744073709551616 :=
  nz_form (w.tape w.drawn (.nanBits .f64 x y) % 2) (w.tape w.drawn (.nanBits .f64 x y) / 2 % 4503599627370495) (Nat.mod_lt _ (by omega)) (Nat.mod_lt _ (by omega))
theorem run_add_none {P : Program} {x y : Nat} (h : addF x y = none) (w : World) : (binOp .add 24 (.float .f64 x) (.float .f64 y)).run P w = .ok (.float .f64 (nz w x y)) w.drew := by
  unfold addF at h
  simp [binOp, Op.floatArith, h, nz, Question.forced]
theorem run_add_some {P : Program} {x y r : Nat} (h : addF x y = some r) (w : World) : (binOp .add 24 (.float .f64 x) (.float .f64 y)).run P w = .ok (.float .f64 r) w :=
  run_float_arith w .add 24 .f64 x y r h
end Go.Proofs.YtoogdidgcclmnaaGreatDoor.alv
