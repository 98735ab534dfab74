import Derived.Test.YthcnffieoocnkaaWordw
namespace Go.Proofs.Ythcnffieoocnkaa.st
open Go.ChangeShapes Go.WideShapes Go.ChangeAt Go.RowKit Go.Maps Go.WideMaps Go.WideElems
set_option linter.unusedVariables false
theorem SetIs.below {w w' : World} {s : Nat} {mo : Option Nat} {Ks : List (List UInt8)} (h : SetIs w s mo Ks) (hb : Below w.heap.size w w') : SetIs w' s mo Ks :=
  h.kept (Kp.of_below hb) (by have := h.lt; omega) (fun b e => by subst e; have := SetIs.lt_map h; omega)
theorem Kp.ofB {S : Nat → Prop} {w w' : World} (h : Below w.heap.size w w') : Kp S w w' := ⟨h.os, h.tape, h.output, h.size, fun i hi _ => h.block i hi⟩
theorem keyB_max {xs : List Int} (hl : xs.length ≤ 1000) : (keyB xs).length ≤ maxLen := by rw [keyB_len]; unfold maxLen; omega
theorem has_any (w : World) (s : Nat) (mo : Option Nat) (Ks : List (List UInt8)) (v : Value) (xs : List Int) (h : SetIs w s mo Ks) (hw : WordAt w v xs) (hl : xs.length ≤ 1000) : Calls Try.prog 22 #[.pointer (some ⟨s, 0, none⟩), v] w fun e w' => e = .returned (.bool (decide (keyB xs ∈ Ks))) ∧ Below w.heap.size w w' := by
  go_enter Try.func22, Try.ntmps22
  go_wp2_with (first | (go_at_call 38; refine (keyOf_any _ v xs hw hl).mono ?_; rintro e w1 ⟨rfl, hb1⟩) | (go_at_call 37; refine (holds_any _ s mo Ks (keyB xs) (keyB_max hl) (h.below hb1)).mono ?_; rintro e w2 ⟨rfl, hb2⟩))
  go_ret
  exact ⟨rfl, hb1.trans (hb2.mono hb1.size)⟩
theorem add_any (w : World) (s : Nat) (mo : Option Nat) (Ks : List (List UInt8)) (v : Value) (xs : List Int) (h : SetIs w s mo Ks) (hroom : Ks.length < maxLen) (hw : WordAt w v xs) (hl : xs.length ≤ 1000) : Calls Try.prog 29 #[.pointer (some ⟨s, 0, none⟩), v] w fun e w' => e = .returned (.bool (decide (keyB xs ∉ Ks))) ∧ PutTo w w' s mo (if keyB xs ∈ Ks then Ks else Ks ++ [keyB xs]) := by
  have hput := fun (w' : World) (h : SetIs w' s mo Ks) => put_any w' s mo Ks (keyB xs) (keyB_max hl) hroom h
  generalize decide (keyB xs ∉ Ks) = r at *
  generalize (if keyB xs ∈ Ks then Ks else Ks ++ [keyB xs]) = K' at *
  go_enter Try.func29, Try.ntmps29
  go_wp2_with (first | (go_at_call 38; refine (keyOf_any _ v xs hw hl).mono ?_; rintro e w1 ⟨rfl, hb1⟩) | (go_at_call 40; refine (hput _ (h.below hb1)).mono ?_; rintro e w2 ⟨rfl, hp⟩))
  go_ret
  obtain ⟨mo', hm, hs, hk⟩ := hp
  refine ⟨rfl, mo', ?_, hs, (Kp.ofB hb1).then_ hk (fun i hi => .inl hi)⟩
  · rcases hm with e | ⟨b, e, hb⟩
    · exact .inl e
    · exact .inr ⟨b, e, by have := hb1.size; omega⟩
end Go.Proofs.Ythcnffieoocnkaa.st
