import Derived.Test.YthcnffieoocnkaaMeet
import Derived.Test.YthcnffieoocnkaaArgs
namespace Go.Proofs.Ythcnffieoocnkaa.st
open Go.ChangeShapes Go.WideShapes Go.ChangeAt Go.RowKit Go.Maps Go.WideMaps Go.WideElems
set_option linter.unusedVariables false
theorem bv_and (x y : Int) : (BitVec.ofInt 64 x &&& BitVec.ofInt 64 y).toNat = (x % 18446744073709551616).toNat &&& (y % 18446744073709551616).toNat := by
  rw [BitVec.toNat_and, BitVec.toNat_ofInt, BitVec.toNat_ofInt]; rfl
theorem and_nat (x : Int) (m j : Nat) (hm : m = 2 ^ j - 1) (hj : m < 4611686018427387904) (hd : (18446744073709551616 : Nat) % 2 ^ j = 0) : bits .and .i64 x (m : Int) = x % ((2 ^ j : Nat) : Int) := by
  have hp : 0 < 2 ^ j := Nat.two_pow_pos j
  show IntKind.i64.wrap ((BitVec.ofInt 64 x &&& BitVec.ofInt 64 (m : Int)).toNat : Int) = _
  rw [bv_and, Int.emod_eq_of_lt (show (0 : Int) ≤ (m : Int) by omega) (by omega), Int.toNat_natCast, hm, Nat.and_two_pow_sub_one_eq_mod]
  have hlt := Nat.mod_lt (x % 18446744073709551616).toNat hp
  rw [IntWalk.i64_in _ (by omega)]
  generalize hP : 2 ^ j = P at *
  obtain ⟨q, hq⟩ := Nat.dvd_of_mod_eq_zero hd
  have h0 := Int.emod_nonneg x (show (18446744073709551616 : Int) ≠ 0 by decide)
  have e : (((x % 18446744073709551616).toNat % P : Nat) : Int) = (x % 18446744073709551616) % (P : Int) := by
    rw [Int.natCast_emod, Int.toNat_of_nonneg h0]
  rw [e]
  exact Int.emod_emod_of_dvd x ⟨(q : Int), (congrArg (fun m : Nat => (m : Int)) hq).trans (Int.natCast_mul P q)⟩
theorem and15 (x : Int) : bits .and .i64 x 15 = x % 16 := and_nat x 15 4 (by decide) (by decide) (by decide)
theorem keys_eq {K1 K2 : List (List UInt8)} {X1 X2 : List (List Int)} (h1 : KeysOf K1 X1) (h2 : KeysOf K2 X2) (h : ∀ x, x ∈ X1 ↔ x ∈ X2) : ∀ z, z ∈ K1 ↔ z ∈ K2 := fun z => by
  rw [h1.2 z, h2.2 z]
  constructor <;> (rintro ⟨x, hx, e⟩)
  · exact ⟨x, (h x).1 hx, e⟩
  · exact ⟨x, (h x).2 hx, e⟩
theorem take_assoc (a b c : List Int) (k : Nat) : ((a ++ b).take k ++ c).take k = (a ++ (b ++ c).take k).take k := by
  have h1 : ((a ++ b).take k ++ c).take k = (a ++ b ++ c).take k := by
    rw [List.take_append, List.take_append (l₁ := a ++ b), List.take_take, Nat.min_self, List.length_take]
    congr 2
    omega
  have h2 : (a ++ (b ++ c).take k).take k = (a ++ (b ++ c)).take k := by
    rw [List.take_append, List.take_append (l₁ := a), List.take_take]
    congr 2
    omega
  rw [h1, h2, List.append_assoc]
theorem times_assoc (X Y Z : List (List Int)) (k : Nat) : ∀ x, x ∈ timesW (timesW X Y k) Z k ↔ x ∈ timesW X (timesW Y Z k) k := fun x => by
  rw [mem_timesW, mem_timesW]
  constructor
  · rintro ⟨p, hp, c, hc, rfl⟩
    obtain ⟨a, ha, b, hb, rfl⟩ := mem_timesW.1 hp
    exact ⟨a, ha, _, mem_timesW.2 ⟨b, hb, c, hc, rfl⟩, (take_assoc a b c k).symm⟩
  · rintro ⟨a, ha, p, hp, rfl⟩
    obtain ⟨b, hb, c, hc, rfl⟩ := mem_timesW.1 hp
    exact ⟨_, mem_timesW.2 ⟨a, ha, b, hb, rfl⟩, c, hc, take_assoc a b c k⟩
theorem len_times {X Y : List (List Int)} {k : Nat} : ∀ z ∈ timesW X Y k, z.length ≤ k := fun z hz => by
  obtain ⟨a, _, b, _, rfl⟩ := mem_timesW.1 hz
  rw [List.length_take]
  omega
/-- a word is laid among words in order -/
def insW (a : List Int) : List (List Int) → List (List Int)
  | [] => [a]
  | b :: L => if ltW a b then a :: b :: L else if ltW b a then b :: insW a L else b :: L
theorem mem_insW {a z : List Int} : ∀ {L : List (List Int)}, z ∈ insW a L ↔ z = a ∨ z ∈ L
  | [] => by simp [insW]
  | b :: L => by
    unfold insW
    split
    · simp
    · split
      · simp [mem_insW, or_left_comm]
      · rename_i h1 h2
        have e : a = b := ltW_same (by simpa using h1) (by simpa using h2)
        subst e
        simp
theorem up_insW {a : List Int} : ∀ {L : List (List Int)}, Up L → Up (insW a L)
  | [], _ => by simp [insW, Up]
  | b :: L, h => by
    unfold Up at h ⊢
    rw [List.pairwise_cons] at h
    unfold insW
    split
    · rename_i h1
      rw [List.pairwise_cons, List.pairwise_cons]
      refine ⟨fun z hz => ?_, h.1, h.2⟩
      simp only [List.mem_cons] at hz
      rcases hz with e | hz
      · subst e; exact h1
      · exact ltW_trans h1 (h.1 z hz)
    · split
      · rename_i h2
        rw [List.pairwise_cons]
        refine ⟨fun z hz => ?_, up_insW h.2⟩
        rcases mem_insW.1 hz with e | hz
        · subst e; exact h2
        · exact h.1 z hz
      · rw [List.pairwise_cons]; exact h
def setW (X : List (List Int)) : List (List Int) := X.foldl (fun L a => insW a L) []
theorem setW_go : ∀ (X L : List (List Int)), Up L → Up (X.foldl (fun L a => insW a L) L) ∧ ∀ z, z ∈ X.foldl (fun L a => insW a L) L ↔ z ∈ L ∨ z ∈ X
  | [], L, h => ⟨h, by simp⟩
  | a :: X, L, h => by
    obtain ⟨h1, h2⟩ := setW_go X (insW a L) (up_insW h)
    refine ⟨h1, fun z => ?_⟩
    rw [List.foldl_cons, h2 z, mem_insW]
    simp only [List.mem_cons]
    constructor
    · rintro ((h | h) | h)
      · exact .inr (.inl h)
      · exact .inl h
      · exact .inr (.inr h)
    · rintro (h | h | h)
      · exact .inl (.inr h)
      · exact .inl (.inl h)
      · exact .inr h
theorem setW_up (X : List (List Int)) : Up (setW X) := (setW_go X [] List.Pairwise.nil).1
theorem mem_setW (X : List (List Int)) (z : List Int) : z ∈ setW X ↔ z ∈ X := by
  have := (setW_go X [] List.Pairwise.nil).2 z
  simpa [setW] using this
end Go.Proofs.Ythcnffieoocnkaa.st
