import Derived.Test.YthcnffieoocnkaaSetf
namespace Go.Proofs.Ythcnffieoocnkaa.st
set_option linter.unusedVariables false
/-- a number's bits, in the order of bytes -/
def numN (n : Int) : Nat := (n + 9223372036854775808).toNat
def In64 (n : Int) : Prop := -9223372036854775808 ≤ n ∧ n < 9223372036854775808
theorem numN_lt {n : Int} (h : In64 n) : numN n < 18446744073709551616 := by unfold numN; have := h.1; have := h.2; omega
theorem numN_inj {a b : Int} (ha : In64 a) (hb : In64 b) (h : numN a = numN b) : a = b := by unfold numN at h; have := ha.1; have := hb.1; omega
theorem numN_le {a b : Int} (ha : In64 a) (hb : In64 b) : numN a < numN b ↔ a < b := by unfold numN; have := ha.1; have := hb.1; omega
theorem xor_top (x : Nat) (hx : x < 18446744073709551616) : x ^^^ 9223372036854775808 = (x + 9223372036854775808) % 18446744073709551616 := by
  have h1 : (x ^^^ 2 ^ 63) % 2 ^ 63 = x % 2 ^ 63 := by rw [Nat.xor_mod_two_pow]; simp
  have h2 : (x ^^^ 2 ^ 63) / 2 ^ 63 = (x / 2 ^ 63) ^^^ 1 := by rw [Nat.xor_div_two_pow]
  have h3 : x / 2 ^ 63 = 0 ∨ x / 2 ^ 63 = 1 := by omega
  have e : (2 : Nat) ^ 63 = 9223372036854775808 := by decide
  rw [e] at h1 h2 h3
  rcases h3 with h3 | h3 <;> rw [h3] at h2 <;> simp at h2 <;> omega
def byteB (N i : Nat) : UInt8 := UInt8.ofNat (N / 256 ^ (7 - i))
def numB (n : Int) : List UInt8 := (List.range 8).map (byteB (numN n))
def keyB (l : List Int) : List UInt8 := l.flatMap numB
def valB (s : Nat) (bs : List UInt8) : Nat := bs.foldl (fun s b => s * 256 + b.toNat) s
theorem numB_len (n : Int) : (numB n).length = 8 := by simp [numB]
theorem keyB_len (l : List Int) : (keyB l).length = 8 * l.length := by
  induction l with
  | nil => rfl
  | cons a l ih => simp only [keyB, List.flatMap_cons, List.length_append, numB_len, List.length_cons] at *; omega
theorem keyB_append (a b : List Int) : keyB (a ++ b) = keyB a ++ keyB b := by simp [keyB]
theorem byteB_val (N i : Nat) : (byteB N i).toNat = N / 256 ^ (7 - i) % 256 := by simp [byteB]
theorem numB_is (n : Int) : numB n = [byteB (numN n) 0, byteB (numN n) 1, byteB (numN n) 2, byteB (numN n) 3, byteB (numN n) 4, byteB (numN n) 5, byteB (numN n) 6, byteB (numN n) 7] := rfl
theorem val_num {n : Int} (h : In64 n) : valB 0 (numB n) = numN n := by
  have hl := numN_lt h
  rw [numB_is]
  simp only [valB, List.foldl_cons, List.foldl_nil, byteB_val]
  generalize numN n = N at *
  simp only [Nat.reduceSub, Nat.reducePow, Nat.div_one]
  omega
theorem numB_inj {a b : Int} (ha : In64 a) (hb : In64 b) (h : numB a = numB b) : a = b := numN_inj ha hb (by rw [← val_num ha, ← val_num hb, h])
theorem keyB_cons (a : Int) (l : List Int) : keyB (a :: l) = numB a ++ keyB l := by simp [keyB]
theorem keyB_inj : ∀ {a b : List Int}, (∀ x ∈ a, In64 x) → (∀ x ∈ b, In64 x) → keyB a = keyB b → a = b
  | [], b, _, _, h => by
    have := congrArg List.length h
    rw [keyB_len, keyB_len] at this
    exact (List.length_eq_zero_iff.1 (by simp at this; omega)).symm
  | x :: a, [], _, _, h => by
    have := congrArg List.length h
    rw [keyB_len, keyB_len] at this
    simp at this
  | x :: a, y :: b, ha, hb, h => by
    rw [keyB_cons, keyB_cons] at h
    have h2 := List.append_inj h (by rw [numB_len, numB_len])
    rw [numB_inj (ha x (by simp)) (hb y (by simp)) h2.1, keyB_inj (fun z hz => ha z (by simp [hz])) (fun z hz => hb z (by simp [hz])) h2.2]
theorem keyB_take (l : List Int) (k : Nat) : (keyB l).take (8 * k) = keyB (l.take k) := by
  induction l generalizing k with
  | nil => simp [keyB]
  | cons a l ih =>
    cases k with
    | zero => simp [keyB]
    | succ k =>
      rw [keyB_cons, List.take_succ_cons, keyB_cons, ← ih k, List.take_append, numB_len, List.take_of_length_le (by rw [numB_len]; omega)]
      congr 2
theorem headB_key (l : List Int) (n : Int) : headB (keyB l) n = keyB (l.take n.toNat) := by
  unfold headB
  rw [keyB_len, Nat.mul_div_cancel_left _ (by decide : 0 < 8), keyB_take]
  congr 1
  rcases Nat.le_total l.length n.toNat with h | h
  · rw [Nat.min_eq_left h, List.take_of_length_le (Nat.le_refl _), List.take_of_length_le h]
  · rw [Nat.min_eq_right h]
/-- the bytes' order is the words' -/
def ltW : List Int → List Int → Bool
  | [], [] => false
  | [], _ :: _ => true
  | _ :: _, [] => false
  | x :: a, y :: b => decide (x < y) || (decide (x = y) && ltW a b)
theorem lt_append {a b : List UInt8} {c d : List UInt8} (h : a.length = b.length) : (a ++ c < b ++ d) ↔ (a < b ∨ (a = b ∧ c < d)) := by
  induction a generalizing b with
  | nil => have : b = [] := List.length_eq_zero_iff.1 h.symm; subst this; simp
  | cons x a ih =>
    cases b with
    | nil => cases h
    | cons y b =>
      simp only [List.cons_append, List.cons_lt_cons_iff, ih (Nat.succ.inj h), List.cons.injEq]
      clear h ih
      constructor
      · rintro (g | ⟨rfl, g | ⟨rfl, g⟩⟩)
        · exact .inl (.inl g)
        · exact .inl (.inr ⟨rfl, g⟩)
        · exact .inr ⟨⟨rfl, rfl⟩, g⟩
      · rintro ((g | ⟨rfl, g⟩) | ⟨⟨rfl, rfl⟩, g⟩)
        · exact .inl g
        · exact .inr ⟨rfl, .inl g⟩
        · exact .inr ⟨rfl, .inr ⟨rfl, g⟩⟩
theorem val_lt {a b : List UInt8} (h : a.length = b.length) (s t : Nat) : valB s a < valB t b ↔ s < t ∨ (s = t ∧ a < b) := by
  induction a generalizing b s t with
  | nil => have : b = [] := List.length_eq_zero_iff.1 h.symm; subst this; simp [valB]
  | cons x a ih =>
    cases b with
    | nil => cases h
    | cons y b =>
      show valB (s * 256 + x.toNat) a < valB (t * 256 + y.toNat) b ↔ _
      rw [ih (Nat.succ.inj h), List.cons_lt_cons_iff]
      have hx := x.toNat_lt
      have hy := y.toNat_lt
      have e1 : x < y ↔ x.toNat < y.toNat := UInt8.lt_iff_toNat_lt
      have e2 : x = y ↔ x.toNat = y.toNat := UInt8.toNat_inj.symm
      rw [e1, e2]
      constructor
      · rintro (h | ⟨h1, h2⟩)
        · by_cases hst : s < t
          · exact .inl hst
          · exact .inr ⟨by omega, .inl (by omega)⟩
        · exact .inr ⟨by omega, .inr ⟨by omega, h2⟩⟩
      · rintro (h | ⟨rfl, h | ⟨h1, h2⟩⟩)
        · exact .inl (by omega)
        · exact .inl (by omega)
        · exact .inr ⟨by omega, h2⟩
theorem numB_lt {a b : Int} (ha : In64 a) (hb : In64 b) : numB a < numB b ↔ a < b := by
  rw [← numN_le ha hb, ← val_num ha, ← val_num hb, val_lt (by rw [numB_len, numB_len])]
  simp
theorem keyB_lt : ∀ {a b : List Int}, (∀ x ∈ a, In64 x) → (∀ x ∈ b, In64 x) → (keyB a < keyB b ↔ ltW a b = true)
  | [], [], _, _ => by simp [ltW]
  | [], y :: b, _, _ => by
    rw [keyB_cons, numB_is]
    simp [ltW, keyB]
  | x :: a, [], _, _ => by simp [ltW, keyB]
  | x :: a, y :: b, ha, hb => by
    have hx := ha x (by simp)
    have hy := hb y (by simp)
    rw [keyB_cons, keyB_cons, lt_append (by rw [numB_len, numB_len]), numB_lt hx hy, keyB_lt (fun z hz => ha z (by simp [hz])) (fun z hz => hb z (by simp [hz]))]
    have : numB x = numB y ↔ x = y := ⟨numB_inj hx hy, fun h => by rw [h]⟩
    rw [this]
    simp [ltW]
end Go.Proofs.Ythcnffieoocnkaa.st
