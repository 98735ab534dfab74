import Derived.Test.YthcnffieoocnkaaRtim
import Derived.Test.YthcnffieoocnkaaMeet
namespace Go.Proofs.Ythcnffieoocnkaa.st
open Go.ChangeShapes Go.WideShapes Go.ChangeAt Go.RowKit Go.Maps Go.WideMaps Go.WideElems
set_option linter.unusedVariables false
theorem setW_congr {X Y : List (List Int)} (h : ∀ z, z ∈ X ↔ z ∈ Y) : setW X = setW Y := Up.unique (setW_up X) (setW_up Y) fun z => by rw [mem_setW, mem_setW, h z]
theorem setW_times (A C : List (List Int)) (k : Nat) : setW (timesW (setW A) (setW C) k) = setW (timesW A C k) := setW_congr fun z => by
  rw [mem_timesW, mem_timesW]
  constructor
  · rintro ⟨a, ha, b, hb, e⟩
    exact ⟨a, (mem_setW _ _).1 ha, b, (mem_setW _ _).1 hb, e⟩
  · rintro ⟨a, ha, b, hb, e⟩
    exact ⟨a, (mem_setW _ _).2 ha, b, (mem_setW _ _).2 hb, e⟩
theorem setW_meet (A C : List (List Int)) : setW (meetW (setW A) (setW C)) = setW (meetW A C) := setW_congr fun z => by rw [mem_meetW, mem_meetW, mem_setW, mem_setW]
theorem setW_both (A C : List (List Int)) : setW (setW A ++ setW C) = setW (A ++ C) := setW_congr fun z => by simp only [List.mem_append, mem_setW]
theorem len_s {B : Nat} (w : World) (s : Nat) (X : List (List Int)) (mo : Option Nat) (Ks : List (List UInt8)) (h : SetX B w s X mo Ks) : Calls Try.prog 21 #[.pointer (some ⟨s, 0, none⟩)] w fun e w' => e = .returned (.int .i64 (setW X).length) ∧ w = w' := by
  have c := len_any w s mo Ks h.set
  rwa [keys_len h.set.nodup h.keys (setW_up X) (mem_setW X)] at c
theorem has_s {B : Nat} (w : World) (s : Nat) (X : List (List Int)) (mo : Option Nat) (Ks : List (List UInt8)) (v : Value) (q : List Int) (h : SetX B w s X mo Ks) (hw : WordAt w v q) (hq : Fine q) : Calls Try.prog 22 #[.pointer (some ⟨s, 0, none⟩), v] w fun e w' => e = .returned (.bool (decide (q ∈ setW X))) ∧ Below w.heap.size w w' := by
  have c := has_any w s mo Ks v q h.set hw hq.2
  rwa [show decide (keyB q ∈ Ks) = decide (q ∈ setW X) from decide_eq_decide.2 (by rw [h.keys.inj hq, mem_setW])] at c
theorem same_s {B B' : Nat} (w : World) (s t : Nat) (A C : List (List Int)) (mo mt : Option Nat) (Ks Kt : List (List UInt8)) (h : SetX B w s A mo Ks) (ht : SetX B' w t C mt Kt) : Calls Try.prog 24 #[.pointer (some ⟨s, 0, none⟩), .pointer (some ⟨t, 0, none⟩)] w fun e w' => e = .returned (.bool (decide (setW A = setW C))) ∧ Below w.heap.size w w' :=
  (same_any w s t mo mt Ks Kt h.set ht.set (by have := h.few; unfold maxLen; omega) (by have := ht.few; unfold maxLen; omega)).mono fun e w' ⟨r, h1, h2, hb⟩ => ⟨by
    rw [h1]
    refine ret_bool ?_
    rw [Bool.eq_iff_iff, h2, decide_eq_true_iff]
    constructor
    · intro hk
      refine setW_congr fun z => ?_
      constructor
      · intro hz
        have := (hk (keyB z)).1 ((h.keys.inj (h.keys.1 z hz)).2 hz)
        exact (ht.keys.inj (h.keys.1 z hz)).1 this
      · intro hz
        have := (hk (keyB z)).2 ((ht.keys.inj (ht.keys.1 z hz)).2 hz)
        exact (h.keys.inj (ht.keys.1 z hz)).1 this
    · intro he
      exact keys_eq h.keys ht.keys (fun z => by rw [← mem_setW A, he, mem_setW]), hb⟩
theorem keys_meet {Ks Kt Km : List (List UInt8)} {A C : List (List Int)} (h : KeysOf Ks A) (ht : KeysOf Kt C) (hm : ∀ x, x ∈ Km ↔ x ∈ Ks ∧ x ∈ Kt) : KeysOf Km (meetW A C) := by
  refine ⟨fun x hx => h.1 x (mem_meetW.1 hx).1, fun z => ?_⟩
  rw [hm z]
  constructor
  · rintro ⟨h1, h2⟩
    obtain ⟨x, hx, rfl⟩ := (h.2 z).1 h1
    exact ⟨x, mem_meetW.2 ⟨hx, (ht.inj (h.1 x hx)).1 h2⟩, rfl⟩
  · rintro ⟨x, hx, rfl⟩
    obtain ⟨h1, h2⟩ := mem_meetW.1 hx
    exact ⟨(h.inj (h.1 x h1)).2 h1, (ht.inj (h.1 x h1)).2 h2⟩
theorem meet_s {B B' : Nat} (w : World) (s t : Nat) (A C : List (List Int)) (mo mt : Option Nat) (Ks Kt : List (List UInt8)) (h : SetX B w s A mo Ks) (ht : SetX B' w t C mt Kt) : Calls Try.prog 27 #[.pointer (some ⟨s, 0, none⟩), .pointer (some ⟨t, 0, none⟩)] w fun e w' => ∃ o m2 Km, e = .returned (.pointer (some ⟨o, 0, none⟩)) ∧ SetX w.heap.size w' o (meetW A C) m2 Km ∧ Below w.heap.size w w' :=
  (meet_k w s t mo mt Ks Kt h.k ht.k).mono fun e w' ⟨o, m2, Km, he, hk, hm, hb⟩ => ⟨o, m2, Km, he, ⟨hk.set, hk.lo, hk.mlo, keys_meet h.keys ht.keys hm, hk.few⟩, hb⟩
theorem keys_more {Ks : List (List UInt8)} {A : List (List Int)} {q : List Int} (h : KeysOf Ks A) (hq : Fine q) : KeysOf (if keyB q ∈ Ks then Ks else Ks ++ [keyB q]) (A ++ [q]) := by
  refine ⟨fun x hx => ?_, of_step h.2⟩
  rcases List.mem_append.1 hx with h1 | h1
  · exact h.1 x h1
  · simp at h1
    rw [h1]; exact hq
theorem add_s {B : Nat} (w0 w : World) (s : Nat) (A : List (List Int)) (mo : Option Nat) (Ks : List (List UInt8)) (v : Value) (q : List Int) (h : SetX B w s A mo Ks) (hw : WordAt w v q) (hq : Fine q) (hroom : Ks.length ≤ 900) (hd : Below w0.heap.size w0 w) (hB : w0.heap.size ≤ B) : Calls Try.prog 29 #[.pointer (some ⟨s, 0, none⟩), v] w fun e w' => e = .returned (.bool (!decide (q ∈ setW A))) ∧ (∃ m2 K2, SetX w0.heap.size w' s (A ++ [q]) m2 K2) ∧ Below w0.heap.size w0 w' :=
  (add_any w s mo Ks v q h.set (by unfold maxLen; omega) hw hq.2).mono fun e w' ⟨he, m2, hm, hs, hk⟩ => by
    have hl : (if keyB q ∈ Ks then Ks else Ks ++ [keyB q]).length ≤ 1000 := by
      split
      · omega
      · simp; omega
    have k2 := take_k h.k hB hd.size hs hm hl
    refine ⟨?_, ⟨m2, _, ⟨k2.set, k2.lo, k2.mlo, keys_more h.keys hq, k2.few⟩⟩, take_d hd h.k hB hk⟩
    rw [he]
    refine ret_bool ?_
    rw [Bool.eq_iff_iff]
    simp only [decide_eq_true_iff, Bool.not_eq_true', decide_eq_false_iff_not]
    rw [h.keys.inj hq, mem_setW]
end Go.Proofs.Ythcnffieoocnkaa.st
