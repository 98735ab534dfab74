import Derived.Test.YthcnffieoocnkaaTimb
namespace Go.Proofs.Ythcnffieoocnkaa.st
open Go.ChangeShapes Go.WideShapes Go.ChangeAt Go.RowKit Go.Maps Go.WideMaps Go.WideElems
set_option linter.unusedVariables false
set_option maxRecDepth 100000 in
set_option maxHeartbeats 1000000 in
theorem times_empty (w : World) (s t : Nat) (mt : Option Nat) (Ks : List (List UInt8)) (k : Int) (ht : SetIs w t mt []) : Calls Try.prog 25 #[.pointer (some ⟨s, 0, none⟩), .pointer (some ⟨t, 0, none⟩), .int .i64 k] w fun e w' => ∃ o, e = .returned (.pointer (some ⟨o, 0, none⟩)) ∧ w.heap.size ≤ o ∧ TimesIs w.heap.size w' o Ks [] k ∧ Below w.heap.size w w' := by
  have hlen := fun o => len_any (w.alloc o) t mt [] (ht.kept (Kp.alloc (fun _ => False) w o) id (fun _ _ h => h))
  go_enter Try.func25, Try.ntmps25
  go_wp2_with (first | (go_at_call 21; refine (hlen _).mono ?_; rintro e w1 ⟨rfl, rfl⟩))
  go_ret
  exact ⟨_, rfl, Nat.le_refl _, ⟨none, [], ⟨_, Blk.new w _ _, .inl ⟨rfl, rfl, rfl⟩⟩, (fun _ h => by cases h), fun x => by simp [TimesOf], Nat.zero_le _⟩, (Below.refl _ _).alloc (Nat.le_refl _) _⟩
set_option maxRecDepth 100000 in
set_option maxHeartbeats 1000000 in
theorem times_nil (w : World) (s t : Nat) (mt : Option Nat) (Kt : List (List UInt8)) (k : Int) (h : SetIs w s none []) (ht : SetIs w t mt Kt) (hpos : 0 < Kt.length) (hKt : Keys8 Kt) : Calls Try.prog 25 #[.pointer (some ⟨s, 0, none⟩), .pointer (some ⟨t, 0, none⟩), .int .i64 k] w fun e w' => ∃ o, e = .returned (.pointer (some ⟨o, 0, none⟩)) ∧ w.heap.size ≤ o ∧ TimesIs w.heap.size w' o [] Kt k ∧ Below w.heap.size w w' := by
  have hmm := @run_makeMap Try.prog
  have hne : ((Kt.length : Int) == 0) = false := by simp; intro e; rw [e] at hpos; exact absurd hpos (by decide)
  obtain ⟨mv, hb, hm⟩ := id h
  rcases hm with ⟨_, rfl, _⟩ | ⟨bm', D, h1, _⟩
  rotate_left
  · cases h1
  have hlen := fun o => len_any (w.alloc o) t mt Kt (ht.kept (Kp.alloc (fun _ => False) w o) id (fun _ _ h => h))
  have hheld := fun o1 o2 => held_any ((w.alloc o1).alloc o2) s (.map none) (((hb.alloc o1).alloc o2).cell 0)
  have hrn := fun w : World => run_range_nilMap (P := Try.prog) w 51 9 68 Try.underlying51
  have hnn := fun (W : World) ty => run_next_nilMap (P := Try.prog) W ty 0 0 #[]
  clear h ht hb
  go_enter Try.func25, Try.ntmps25
  go_wp2_with (first | (go_at_call 21; refine (hlen _).mono ?_; rintro e w1 ⟨rfl, rfl⟩) | (go_at_call 34; refine (hheld _ _).mono ?_; rintro e w1 ⟨rfl, rfl⟩))
  refine wp_loop_rounds 1 ?_
  rw [rounds_succ]
  have hnx := hnn ((w.alloc (.cells #[.map none] 53)).alloc (.map #[] 0))
  simp only [World.size_alloc] at hnx
  go_wp2
  go_ret
  exact ⟨_, rfl, Nat.le_refl _, ⟨none, [], ⟨_, ((Blk.new w _ _).alloc _).alloc _, .inl ⟨rfl, rfl, rfl⟩⟩, (fun _ h => by cases h), fun x => by simp [TimesOf], by simp⟩, (((Below.refl _ _).alloc (Nat.le_refl _) _).alloc (by simp) _).alloc (by simp; omega) _⟩
theorem times_any (w : World) (s t : Nat) (mo mt : Option Nat) (Ks Kt : List (List UInt8)) (k : Int) (h : SetIs w s mo Ks) (ht : SetIs w t mt Kt) (hKs : Keys8 Ks) (hKt : Keys8 Kt) (hk : In64 k) : Calls Try.prog 25 #[.pointer (some ⟨s, 0, none⟩), .pointer (some ⟨t, 0, none⟩), .int .i64 k] w fun e w' => ∃ o, e = .returned (.pointer (some ⟨o, 0, none⟩)) ∧ w.heap.size ≤ o ∧ TimesIs w.heap.size w' o Ks Kt k ∧ Below w.heap.size w w' := by
  by_cases hp : 0 < Kt.length
  · cases mo with
    | none =>
      obtain ⟨mv, hb, hm⟩ := id h
      rcases hm with ⟨_, rfl, rfl⟩ | ⟨_, _, h1, _⟩
      · exact times_nil w s t mt Kt k h ht hp hKt
      · cases h1
    | some bm => exact times_some w s t bm mt Ks Kt k h ht hp hKs hKt hk
  · obtain rfl : Kt = [] := List.length_eq_zero_iff.1 (by omega)
    exact times_empty w s t mt Ks k ht
end Go.Proofs.Ythcnffieoocnkaa.st
