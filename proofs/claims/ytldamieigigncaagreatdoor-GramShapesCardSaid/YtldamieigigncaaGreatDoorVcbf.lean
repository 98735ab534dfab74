import Derived.Test.YtldamieigigncaaGreatDoorVcbe
import Derived.Test.YtldamieigigncaaGreatDoorVcaa
import Derived.Shelf.Bits.Mul64
import Derived.Shelf.Strconv.Itoa0
import Derived.Shelf.Strconv.Itoa2
import Derived.Laws.Bits64b
import GoSem.PinnedTables
namespace Go.Proofs.YtldamieigigncaaGreatDoor.fm
set_option linter.unusedVariables false
def digs : Nat → Nat → List UInt8
  | 0, _ => []
  | n + 1, d => digs n (d / 10) ++ [UInt8.ofNat (48 + d % 10)]
def valL (l : List UInt8) : Nat := l.foldl (fun a c => 10 * a + (c.toNat - 48)) 0
def digL (l : List UInt8) : Prop := ∀ c ∈ l, 48 ≤ c ∧ c ≤ 57
def stripZ : List UInt8 → List UInt8
  | [] => []
  | c :: l => if stripZ l = [] then (if c = 48 then [] else [c]) else c :: stripZ l
theorem digs_len : ∀ n d, (digs n d).length = n
  | 0, _ => rfl
  | n + 1, d => by simp [digs, digs_len n]
theorem ofNat_dig (x : Nat) (h : x < 10) : (UInt8.ofNat (48 + x)).toNat = 48 + x := by
  rw [UInt8.toNat_ofNat']
  omega
theorem digs_dig : ∀ n d, digL (digs n d)
  | 0, _, c, h => by simp [digs] at h
  | n + 1, d, c, h => by
    simp only [digs, List.mem_append, List.mem_singleton] at h
    rcases h with h | rfl
    · exact digs_dig n _ c h
    · have := ofNat_dig (d % 10) (by omega)
      rw [UInt8.le_iff_toNat_le, UInt8.le_iff_toNat_le, this]
      show 48 ≤ _ ∧ _ ≤ 57
      omega
theorem valL_snoc (l : List UInt8) (c : UInt8) : valL (l ++ [c]) = 10 * valL l + (c.toNat - 48) := by
  unfold valL
  rw [List.foldl_append]
  rfl
theorem digs_val (n : Nat) : ∀ l : List UInt8, l.length = n → digL l → digs n (valL l) = l ∧ valL l < 10 ^ n := by
  induction n with
  | zero => intro l h _; obtain rfl := List.length_eq_zero_iff.1 h; exact ⟨rfl, by decide⟩
  | succ n ih =>
    intro l h hd
    have hne : l ≠ [] := by rintro rfl; simp at h
    obtain ⟨m, c, rfl⟩ : ∃ m c, l = m ++ [c] := ⟨l.dropLast, l.getLast hne, (List.dropLast_concat_getLast hne).symm⟩
    have hm : m.length = n := by simpa using h
    obtain ⟨i1, i2⟩ := ih m hm (fun c hc => hd c (List.mem_append_left _ hc))
    have hc := hd c (by simp)
    rw [UInt8.le_iff_toNat_le, UInt8.le_iff_toNat_le] at hc
    have hc1 : 48 ≤ c.toNat := hc.1
    have hc2 : c.toNat ≤ 57 := hc.2
    rw [valL_snoc]
    constructor
    · unfold digs
      rw [show (10 * valL m + (c.toNat - 48)) / 10 = valL m from by omega, show (10 * valL m + (c.toNat - 48)) % 10 = c.toNat - 48 from by omega, i1]
      congr 2
      apply UInt8.toNat.inj
      rw [ofNat_dig _ (by omega)]
      omega
    · rw [Nat.pow_succ]
      omega
theorem digs_zero : ∀ n, digs n 0 = List.replicate n 48
  | 0 => rfl
  | n + 1 => by
    unfold digs
    rw [Nat.zero_div, digs_zero n, List.replicate_succ']
    rfl
theorem digs_pad (z : Nat) : ∀ n d, d < 10 ^ n → digs (z + n) d = List.replicate z 48 ++ digs n d
  | 0, d, h => by
    obtain rfl : d = 0 := by simpa using h
    rw [Nat.add_zero, digs_zero]
    simp [digs]
  | n + 1, d, h => by
    rw [← Nat.add_assoc]
    unfold digs
    rw [digs_pad z n (d / 10) (by rw [Nat.pow_succ] at h; omega), List.append_assoc]
theorem strip_snoc0 : ∀ l : List UInt8, stripZ (l ++ [48]) = stripZ l
  | [] => rfl
  | c :: l => by
    rw [List.cons_append]
    unfold stripZ
    rw [strip_snoc0 l]
theorem strip_snoc : ∀ (l : List UInt8) (c : UInt8), c ≠ 48 → stripZ (l ++ [c]) = l ++ [c]
  | [], c, h => by simp [stripZ, h]
  | a :: l, c, h => by
    rw [List.cons_append]
    conv => lhs; unfold stripZ
    rw [strip_snoc l c h, if_neg (by simp)]
theorem strip_zeros (l : List UInt8) : ∀ n, stripZ (l ++ List.replicate n 48) = stripZ l
  | 0 => by simp
  | n + 1 => by
    rw [List.replicate_succ', ← List.append_assoc, strip_snoc0, strip_zeros l n]
theorem strip_rep (n : Nat) : stripZ (List.replicate n 48) = [] := by
  have := strip_zeros [] n
  simpa [stripZ] using this
theorem strip_app : ∀ (a b : List UInt8), stripZ b ≠ [] → stripZ (a ++ b) = a ++ stripZ b
  | [], b, h => rfl
  | c :: a, b, h => by
    rw [List.cons_append]
    conv => lhs; unfold stripZ
    rw [strip_app a b h, if_neg (by simp [h])]
    rfl
theorem strip_app0 : ∀ (a b : List UInt8), stripZ b = [] → stripZ (a ++ b) = stripZ a
  | [], b, h => by rw [List.nil_append, h]; rfl
  | c :: a, b, h => by
    rw [List.cons_append]
    unfold stripZ
    rw [strip_app0 a b h]
theorem strip_eq : ∀ l : List UInt8, l = stripZ l ++ List.replicate (l.length - (stripZ l).length) 48 ∧ (stripZ l).length ≤ l.length
  | [] => ⟨rfl, Nat.le_refl _⟩
  | c :: l => by
    obtain ⟨i1, i2⟩ := strip_eq l
    unfold stripZ
    by_cases h : stripZ l = []
    · rw [if_pos h]
      rw [h] at i1
      by_cases hc : c = 48
      · rw [if_pos hc, hc]
        refine ⟨?_, by simp⟩
        simp only [List.nil_append, List.length_nil, List.length_cons, Nat.sub_zero] at i1 ⊢
        rw [List.replicate_succ, ← i1]
      · rw [if_neg hc]
        refine ⟨?_, by simp⟩
        simp only [List.nil_append, List.length_nil, List.length_cons, Nat.sub_zero, List.cons_append] at i1 ⊢
        rw [show l.length + 1 - (0 + 1) = l.length from by omega, ← i1]
    · rw [if_neg h]
      refine ⟨?_, by simpa using i2⟩
      rw [List.cons_append, List.length_cons, List.length_cons, show l.length + 1 - ((stripZ l).length + 1) = l.length - (stripZ l).length from by omega, ← i1]
theorem strip_last (l : List UInt8) (n : Nat) (h : stripZ l = []) : l = List.replicate l.length 48 := by
  have := (strip_eq l).1
  rw [h] at this
  simpa using this
theorem strip_idem (l : List UInt8) : stripZ (stripZ l) = stripZ l := by
  have h := (strip_eq l).1
  have := strip_zeros (stripZ l) (l.length - (stripZ l).length)
  rw [← h] at this
  exact this.symm
def bitL (n : Nat) : Nat := if n = 0 then 0 else n.log2 + 1
def ndN (d : Nat) : Nat := (l10 (bitL d)).toNat + (if 10 ^ (l10 (bitL d)).toNat ≤ d then 1 else 0)
theorem nd_tab : ∀ L : Nat, L < 65 → (decide (0 ≤ l10 L) && decide ((l10 L).toNat ≤ 19) && decide (2 ^ L < 10 ^ ((l10 L).toNat + 1)) && (L == 0 || decide (10 ^ (l10 L).toNat ≤ 10 * 2 ^ (L - 1)))) = true := by decide +kernel
theorem bitL_le (d : Nat) (h : d < 18446744073709551616) : bitL d ≤ 64 := by
  unfold bitL
  split
  · omega
  · rename_i h0
    have : d.log2 < 64 := (Nat.log2_lt h0).2 h
    omega
theorem nd_spec (d : Nat) (h : d < 18446744073709551616) : d < 10 ^ ndN d ∧ ndN d ≤ 20 ∧ 0 ≤ l10 (bitL d) ∧ (l10 (bitL d)).toNat ≤ 19 ∧ (0 < d → 10 ^ (ndN d - 1) ≤ d ∧ 0 < ndN d) := by
  have hb := bitL_le d h
  have ht := nd_tab (bitL d) (by omega)
  simp only [Bool.and_eq_true, Bool.or_eq_true, decide_eq_true_eq, beq_iff_eq] at ht
  obtain ⟨⟨⟨t1, t2⟩, t3⟩, t4⟩ := ht
  have hlt : d < 2 ^ bitL d := by
    unfold bitL
    split
    · rename_i h0; rw [h0]; decide
    · exact Nat.lt_log2_self
  unfold ndN
  by_cases hc : 10 ^ (l10 (bitL d)).toNat ≤ d
  · rw [if_pos hc]
    refine ⟨by omega, by omega, t1, t2, fun _ => ⟨by rw [Nat.add_sub_cancel]; exact hc, by omega⟩⟩
  · rw [if_neg hc, Nat.add_zero]
    refine ⟨by omega, by omega, t1, t2, fun h0 => ?_⟩
    have hge : 2 ^ (bitL d - 1) ≤ d := by
      unfold bitL
      rw [if_neg (by omega), Nat.add_sub_cancel]
      exact Nat.log2_self_le (by omega)
    have hL : bitL d ≠ 0 := by
      unfold bitL
      rw [if_neg (by omega)]
      omega
    rcases t4 with t4 | t4
    · exact absurd t4 hL
    · rcases Nat.eq_zero_or_pos (l10 (bitL d)).toNat with hz | hz
      · rw [hz] at hc
        simp at hc
        omega
      · refine ⟨?_, hz⟩
        have e : 10 ^ (l10 (bitL d)).toNat = 10 * 10 ^ ((l10 (bitL d)).toNat - 1) := by
          rw [Nat.mul_comm, ← Nat.pow_succ]
          congr 1
          omega
        rw [e] at t4
        have := Nat.le_of_mul_le_mul_left t4 (by decide)
        omega
theorem len_pos {l : List UInt8} (h : l ≠ []) : 0 < l.length := by
  cases l with
  | nil => exact absurd rfl h
  | cons a l => simp
def outN (neg : Bool) (s : List UInt8) (dp : Int) : List UInt8 :=
  (if neg then [45] else []) ++ (if 0 < dp then s.take dp.toNat ++ List.replicate (dp.toNat - s.length) 48 else [48]) ++
    (if dp < s.length then 46 :: (List.replicate (-dp).toNat 48 ++ s.drop dp.toNat) else [])
def shortB (neg : Bool) (h t : List UInt8) : List UInt8 :=
  (if neg then [45] else []) ++ h ++ (if stripZ t = [] then [] else 46 :: stripZ t)
theorem digL_app {a b : List UInt8} (ha : digL a) (hb : digL b) : digL (a ++ b) := fun c h => by
  rcases List.mem_append.1 h with h | h
  · exact ha c h
  · exact hb c h
theorem digL_rep (n : Nat) : digL (List.replicate n 48) := fun c h => by
  obtain ⟨_, rfl⟩ := List.mem_replicate.1 h
  decide
theorem valL_zeros (l : List UInt8) : ∀ n, valL (l ++ List.replicate n 48) = valL l * 10 ^ n
  | 0 => by simp
  | n + 1 => by
    rw [List.replicate_succ', ← List.append_assoc, valL_snoc, valL_zeros l n, Nat.pow_succ]
    show 10 * (valL l * 10 ^ n) + (48 - 48) = _
    rw [Nat.sub_self, Nat.add_zero, Nat.mul_left_comm, Nat.mul_comm 10]
theorem valL_cons (c : UInt8) (l : List UInt8) : valL (c :: l) = (c.toNat - 48) * 10 ^ l.length + valL l := by
  have key : ∀ (l : List UInt8) (a : Nat), l.foldl (fun a c => 10 * a + (c.toNat - 48)) a = a * 10 ^ l.length + valL l := by
    intro l
    induction l with
    | nil => intro a; simp [valL]
    | cons c l ih =>
      intro a
      unfold valL
      rw [List.foldl_cons, List.foldl_cons, ih, ih (10 * 0 + _), List.length_cons, Nat.pow_succ, Nat.mul_zero, Nat.zero_add, Nat.add_mul]
      rw [show a * (10 ^ l.length * 10) = 10 * a * 10 ^ l.length from by rw [Nat.mul_comm (10 ^ _), ← Nat.mul_assoc, Nat.mul_comm a]]
      omega
  have := key l (10 * 0 + (c.toNat - 48))
  rw [Nat.mul_zero, Nat.zero_add] at this
  unfold valL at this ⊢
  rw [List.foldl_cons, Nat.mul_zero, Nat.zero_add]
  exact this
theorem out_short (neg : Bool) (h t : List UInt8) (q : Nat) (hh : digL h) (ht : digL t) (h1 : 1 ≤ h.length) (hz : 1 < h.length → h.head? ≠ some 48) (hq : t.length ≤ q)
    (h0 : 0 < valL (h ++ t)) (hb : valL (h ++ t) * 10 ^ (q - t.length) < 18446744073709551616) :
    outN neg (stripZ (digs (ndN (valL (h ++ t) * 10 ^ (q - t.length))) (valL (h ++ t) * 10 ^ (q - t.length)))) ((ndN (valL (h ++ t) * 10 ^ (q - t.length)) : Int) - q) = shortB neg h t := by
  obtain ⟨D, hD⟩ : ∃ D, D = valL (h ++ t) * 10 ^ (q - t.length) := ⟨_, rfl⟩
  rw [← hD] at hb ⊢
  have hD0 : 0 < D := by rw [hD]; exact Nat.mul_pos h0 (Nat.pow_pos (by decide))
  obtain ⟨n1, n2, _, _, n3⟩ := nd_spec D hb
  obtain ⟨n3, n4⟩ := n3 hD0
  -- all digits
  have hL : D = valL (h ++ t ++ List.replicate (q - t.length) 48) := by rw [valL_zeros, hD]
  have hlen : (h ++ t ++ List.replicate (q - t.length) 48).length = h.length + q := by simp; omega
  obtain ⟨v1, v2⟩ := digs_val (h.length + q) _ hlen (digL_app (digL_app hh ht) (digL_rep _))
  rw [← hL] at v1 v2
  generalize ndN D = nd at *
  have hndL : nd ≤ h.length + q := by
    rcases Nat.lt_or_ge (h.length + q) nd with hx | hx
    · exfalso
      have := Nat.pow_le_pow_right (n := 10) (by decide) (show h.length + q ≤ nd - 1 from by omega)
      omega
    · exact hx
  have hpad := digs_pad (h.length + q - nd) nd D n1
  rw [show h.length + q - nd + nd = h.length + q from by omega, v1] at hpad
  have hsd : stripZ (digs nd D) ≠ [] := by
    intro he
    have := strip_last _ 0 he
    rw [digs_len] at this
    have e := digs_val nd (digs nd D) (digs_len _ _) (digs_dig _ _)
    have e2 : valL (digs nd D) = 0 := by
      rw [this]
      have := valL_zeros [] nd
      rw [List.nil_append] at this
      rw [this]
      simp [valL]
    have e3 : ∀ n d, d < 10 ^ n → valL (digs n d) = d := by
      intro n
      induction n with
      | zero => intro d hd; simp [digs, valL]; simp at hd; exact hd.symm
      | succ n ih =>
        intro d hd
        unfold digs
        rw [valL_snoc, ih _ (by rw [Nat.pow_succ] at hd; omega), ofNat_dig _ (by omega)]
        omega
    rw [e3 nd D n1] at e2
    omega
  have hss := congrArg stripZ hpad
  rw [strip_zeros, strip_app _ _ hsd] at hss
  unfold outN shortB
  by_cases hz0 : h = [48]
  · -- ahead of the point nought
    subst hz0
    have hnq : nd ≤ q := by
      have h3 : D < 10 ^ q := by
        have e := digs_val q (t ++ List.replicate (q - t.length) 48) (by simp; omega) (digL_app ht (digL_rep _))
        have e2 : D = valL (t ++ List.replicate (q - t.length) 48) := by
          rw [hL, List.append_assoc, List.singleton_append, valL_cons]
          simp
        rw [e2]
        exact e.2
      rcases Nat.lt_or_ge q nd with hx | hx
      · exfalso
        have := Nat.pow_le_pow_right (n := 10) (by decide) (show q ≤ nd - 1 from by omega)
        omega
      · exact hx
    have hst : stripZ t = List.replicate (q - nd) 48 ++ stripZ (digs nd D) := by
      have e1 : stripZ ([48] ++ t) = [48] ++ stripZ t ∨ stripZ t = [] := by
        by_cases hx : stripZ t = []
        · exact Or.inr hx
        · exact Or.inl (strip_app _ _ hx)
      rcases e1 with e1 | e1
      · rw [e1] at hss
        have e4 : ([48] : List UInt8).length + q - nd = (q - nd) + 1 := by
          show 1 + q - nd = _
          omega
        rw [e4, List.replicate_succ] at hss
        simpa using hss
      · exfalso
        rw [strip_app0 _ _ e1] at hss
        have := congrArg List.length hss
        have h5 : 0 < (stripZ (digs nd D)).length := len_pos hsd
        simp [stripZ] at this
        omega
    have w1 : ¬ (0 : Int) < (nd : Int) - q := by omega
    have w2 : (nd : Int) - q < (stripZ (digs nd D)).length := by have := len_pos hsd; omega
    have w3 : stripZ t ≠ [] := by rw [hst]; simp [hsd]
    rw [if_neg w1, if_pos w2, if_neg w3, hst, show (-((nd : Int) - q)).toNat = q - nd from by omega, show ((nd : Int) - q).toNat = 0 from by omega, List.drop_zero]
  · -- ahead of the point a digit that is none
    have hhd : h.head? ≠ some 48 := by
      rcases Nat.lt_or_ge 1 h.length with hx | hx
      · exact hz hx
      · intro he
        cases h with
        | nil => simp at h1
        | cons c l =>
          simp at he
          subst he
          have : l = [] := by
            rw [List.length_cons] at hx
            exact List.length_eq_zero_iff.1 (by omega)
          subst this
          exact hz0 rfl
    have hnd : nd = h.length + q := by
      rcases Nat.lt_or_ge nd (h.length + q) with hx | hx
      · exfalso
        obtain ⟨z, hz2⟩ : ∃ z, h.length + q - nd = z + 1 := ⟨h.length + q - nd - 1, by omega⟩
        rw [hz2, List.replicate_succ] at hpad
        cases h with
        | nil => simp at h1
        | cons c l =>
          simp at hpad
          exact hhd (by rw [hpad.1]; rfl)
      · omega
    rw [show h.length + q - nd = 0 from by omega, List.replicate_zero, List.nil_append] at hss
    have w1 : (0 : Int) < (nd : Int) - q := by omega
    rw [← hss, if_pos w1, show ((nd : Int) - q).toNat = h.length from by omega, show (-((nd : Int) - q)).toNat = 0 from by omega]
    by_cases hx : stripZ t = []
    · rw [strip_app0 _ _ hx, if_pos hx]
      obtain ⟨s1, s2⟩ := strip_eq h
      have w2 : ¬ (nd : Int) - q < (stripZ h).length := by omega
      rw [if_neg w2, List.take_of_length_le s2, ← s1]
    · have w2 : (nd : Int) - q < (h ++ stripZ t).length := by have := len_pos hx; simp; omega
      rw [strip_app _ _ hx, if_neg hx, if_pos w2]
      simp
end Go.Proofs.YtldamieigigncaaGreatDoor.fm

namespace Go.Proofs.YtldamieigigncaaGreatDoor.fm
open Ieee Go.Proofs.YtldamieigigncaaGreatDoor.flo Go.Proofs.YtldamieigigncaaGreatDoor.lx
set_option linter.unusedVariables false
def textD (T : Nat → Nat × Nat) (neg : Bool) (mant : Nat) (ex : Int) : List UInt8 :=
  outN neg (stripZ (digs (ndN (shortN T (mant * 2 ^ (64 - bitL mant)) (ex - (64 - bitL mant : Nat) - 52)).1) (shortN T (mant * 2 ^ (64 - bitL mant)) (ex - (64 - bitL mant : Nat) - 52)).1)) ((ndN (shortN T (mant * 2 ^ (64 - bitL mant)) (ex - (64 - bitL mant : Nat) - 52)).1 : Int) + (shortN T (mant * 2 ^ (64 - bitL mant)) (ex - (64 - bitL mant : Nat) - 52)).2)
def mantN (B : Nat) : Nat := if B / 4503599627370496 % 2048 = 0 then B % 4503599627370496 else 4503599627370496 + B % 4503599627370496
def expN (B : Nat) : Int := (if B / 4503599627370496 % 2048 = 0 then 1 else (B / 4503599627370496 % 2048 : Nat)) - 1023
def textN (T : Nat → Nat × Nat) (B : Nat) : List UInt8 :=
  if mantN B = 0 then outN (decide (9223372036854775808 ≤ B)) [] 0
  else textD T (decide (9223372036854775808 ≤ B)) (mantN B) (expN B)
theorem bitL_53 (M : Nat) (h1 : 4503599627370496 ≤ M) (h2 : M < 9007199254740992) : bitL M = 53 := by
  unfold bitL
  rw [if_neg (by omega), log2_52 h1 h2]
theorem valL_val (l : List UInt8) : valL l = val l := rfl
theorem digL_of {l : List UInt8} (h : ∀ c ∈ l, digB c = true) : digL l := fun c hc => by
  have := h c hc
  unfold digB at this
  simpa using this
theorem digs_ofB {l : List UInt8} {m : Nat} (h : digsB l m = true) : 1 ≤ l.length ∧ l.length ≤ m ∧ ∀ c ∈ l, digB c = true := by
  unfold digsB at h
  simp only [Bool.and_eq_true, decide_eq_true_iff] at h
  exact ⟨h.1.1, h.1.2, fun c hc => List.all_eq_true.1 h.2 c hc⟩
theorem no_dot : ∀ (l : List UInt8), dotB l = false → tailD l = []
  | [], _ => rfl
  | c :: l, h => by
    have h2 : dotB l = false ∧ c ≠ 46 := by
      unfold dotB at h ⊢
      simp only [List.contains_cons, Bool.or_eq_false_iff, beq_eq_false_iff_ne] at h
      exact ⟨h.2, fun e => h.1 e.symm⟩
    have e2 : tailD (c :: l) = tailD l := by
      unfold tailD
      rw [List.dropWhile_cons_of_pos (p := fun c => c != 46) (by simpa using h2.2)]
    rw [e2, no_dot l h2.1]
theorem dec_parts {l : List UInt8} (h : decB l = true) : digL (headD (strip l)) ∧ digL (tailD (strip l)) ∧ 1 ≤ (headD (strip l)).length ∧ (headD (strip l)).length ≤ 9 ∧ (tailD (strip l)).length ≤ 6 ∧ (1 < (headD (strip l)).length → (headD (strip l)).head? ≠ some 48) := by
  unfold decB at h
  simp only [Bool.and_eq_true, Bool.not_eq_true', Bool.or_eq_true] at h
  obtain ⟨⟨h1, h2⟩, h3⟩ := h
  obtain ⟨a1, a2, a3⟩ := digs_ofB h1
  refine ⟨digL_of a3, ?_, a1, a2, ?_, fun h4 h5 => ?_⟩
  · rcases h3 with h3 | h3
    · rw [no_dot _ h3]
      intro c hc
      simp at hc
    · exact digL_of (digs_ofB h3).2.2
  · rcases h3 with h3 | h3
    · rw [no_dot _ h3]
      exact Nat.zero_le _
    · exact (digs_ofB h3).2.1
  · rw [h5, decide_eq_true h4] at h2
    simp at h2
theorem valL_lt (l : List UInt8) (h : digL l) : valL l < 10 ^ l.length := (digs_val l.length l rfl h).2
theorem valL_app (a : List UInt8) : ∀ b : List UInt8, valL (a ++ b) = valL a * 10 ^ b.length + valL b := by
  induction a with
  | nil => intro b; simp [valL]
  | cons c a ih =>
    intro b
    rw [List.cons_append, valL_cons, valL_cons, ih, List.length_append, Nat.pow_add, Nat.add_mul, Nat.mul_assoc, Nat.add_assoc]
theorem digs_valL : ∀ n d, d < 10 ^ n → valL (digs n d) = d := by
  intro n
  induction n with
  | zero => intro d hd; simp [digs, valL]; simp at hd; exact hd.symm
  | succ n ih =>
    intro d hd
    unfold digs
    rw [valL_snoc, ih _ (by rw [Nat.pow_succ] at hd; omega), ofNat_dig _ (by omega)]
    omega
theorem word_ff (neg : Bool) (R : Nat) (h : R < 9223372036854775808) : mantN (double.word neg R) = mantN R ∧ expN (double.word neg R) = expN R ∧ decide (9223372036854775808 ≤ double.word neg R) = neg := by
  cases neg
  · rw [word_f]
    exact ⟨rfl, rfl, decide_eq_false (by omega)⟩
  · rw [word_t]
    refine ⟨?_, ?_, decide_eq_true (by omega)⟩
    · unfold mantN
      rw [show (9223372036854775808 + R) / 4503599627370496 % 2048 = R / 4503599627370496 % 2048 from by omega, show (9223372036854775808 + R) % 4503599627370496 = R % 4503599627370496 from by omega]
    · unfold expN
      rw [show (9223372036854775808 + R) / 4503599627370496 % 2048 = R / 4503599627370496 % 2048 from by omega]
theorem text_short (T : Nat → Nat × Nat) (hT : Good T) (l : List UInt8) (h : decB l = true) : textN T (decF l) = shortB (l.head? == some 45) (headD (strip l)) (tailD (strip l)) := by
  obtain ⟨hh, ht, h1, h9, h6, hz⟩ := dec_parts h
  unfold decF
  rw [← valL_val]
  generalize (l.head? == some 45) = neg
  generalize headD (strip l) = H at *
  generalize tailD (strip l) = P at *
  clear h
  have hpos : 0 < 10 ^ P.length := Nat.pow_pos (by decide)
  have hH := valL_lt H hh
  have hP := valL_lt P ht
  have happ := valL_app H P
  have h9p : 10 ^ H.length ≤ 10 ^ 9 := Nat.pow_le_pow_right (by decide) h9
  have e9 : (10 : Nat) ^ 9 = 1000000000 := by decide
  have hv : valL (H ++ P) < 1000000000 * 10 ^ P.length := by
    rw [happ]
    have : (valL H + 1) * 10 ^ P.length ≤ 1000000000 * 10 ^ P.length := Nat.mul_le_mul_right _ (by omega)
    rw [Nat.add_mul] at this
    omega
  have h6p : 10 ^ P.length ≤ 10 ^ 6 := Nat.pow_le_pow_right (by decide) h6
  have e6 : (10 : Nat) ^ 6 = 1000000 := by decide
  have h15 : valL (H ++ P) < 1000000000000000 := by omega
  rcases Nat.eq_zero_or_pos (valL (H ++ P)) with h0 | h0
  · rw [h0, wt_nought neg _ h6]
    obtain ⟨w1, w2, w3⟩ := word_ff neg 0 (by decide)
    unfold textN
    rw [w1, w3, if_pos (by decide)]
    have hall : ∀ q : List UInt8, digL q → valL q = 0 → q = List.replicate q.length 48 := fun q hq hq0 => by
      have := (digs_val q.length q rfl hq).1
      rw [hq0, digs_zero] at this
      exact this.symm
    rw [happ] at h0
    have hH0 : valL H = 0 := by
      rcases Nat.eq_zero_or_pos (valL H) with hx | hx
      · exact hx
      · have := Nat.mul_pos hx hpos
        omega
    have eH := hall H hh hH0
    have eP := hall P ht (by omega)
    have eH1 : H.length = 1 := by
      rcases Nat.lt_or_ge 1 H.length with hx | hx
      · exfalso
        refine hz hx ?_
        rw [eH, show H.length = H.length - 1 + 1 from by omega, List.replicate_succ]
        rfl
      · omega
    rw [eH1] at eH
    unfold outN shortB
    rw [eP, strip_rep, eH]
    rfl
  · obtain ⟨M, F, m1, m2, f1, f2, hw, a1, a2, a3, a4, a5⟩ := wt_near (valL (H ++ P)) P.length h0 h15 h6 hv
    obtain ⟨q, q1, q2, hb, hs⟩ := short_dec T hT M F _ _ m1 m2 f1 f2 h6 a1 a2 a3 a4 a5
    obtain ⟨w1, w2, w3⟩ := word_ff neg ((1074 - F) * 4503599627370496 + M) (by omega)
    have hm : mantN ((1074 - F) * 4503599627370496 + M) = M := by
      unfold mantN
      rw [if_neg (by omega)]
      omega
    have he : expN ((1074 - F) * 4503599627370496 + M) = 52 - (F : Int) := by
      unfold expN
      rw [if_neg (by omega)]
      omega
    rw [hw neg]
    unfold textN
    rw [w1, w2, w3, hm, he, if_neg (by omega)]
    unfold textD
    rw [bitL_53 M m1 m2, show M * 2 ^ (64 - 53) = M * 2048 from rfl, show (52 : Int) - F - ((64 - 53 : Nat) : Int) - 52 = -(F : Int) - 11 from by omega, hs]
    exact out_short neg H P q hh ht h1 hz (by omega) h0 hb
end Go.Proofs.YtldamieigigncaaGreatDoor.fm

namespace Go.Proofs
section
open Go.Shelf
def Tryz.lays264_ren : Go.Shelf.Ren := ⟨fun | 264 => 234 | n => n, fun | 53 => 87 | 46 => 147 | n => n, fun | n => n⟩
theorem Tryz.lays264 : Go.Proofs.Lays.n264 Tryz.prog Tryz.lays264_ren := {
  mixed := by kernel_rfl
  f264 := Tryz.func234.trans (congrArg some (by kernel_rfl))
  t46 := Tryz.underlying147
  a46 := Tryz.isAgg147
  z46 := Tryz.sizeOf147
  v46 := Tryz.zeroValue147
  t53 := Tryz.underlying87
  a53 := Tryz.isAgg87
  z53 := Tryz.sizeOf87
  v53 := Tryz.zeroValue87 }
end
section
open Go.Shelf
def Tryz.lays129_ren : Go.Shelf.Ren := ⟨fun | 129 => 155 | n => n, fun | 53 => 87 | 3 => 3 | 4 => 4 | 46 => 147 | 5 => 5 | 9 => 9 | n => n, fun | n => n⟩
theorem Tryz.lays129 : Go.Proofs.Lays.n129 Tryz.prog Tryz.lays129_ren := {
  mixed := by kernel_rfl
  f129 := Tryz.func155.trans (congrArg some (by kernel_rfl))
  t3 := Tryz.underlying3
  a3 := Tryz.isAgg3
  z3 := Tryz.sizeOf3
  v3 := Tryz.zeroValue3
  t4 := Tryz.underlying4
  a4 := Tryz.isAgg4
  z4 := Tryz.sizeOf4
  v4 := Tryz.zeroValue4
  t5 := Tryz.underlying5
  a5 := Tryz.isAgg5
  z5 := Tryz.sizeOf5
  v5 := Tryz.zeroValue5
  t9 := Tryz.underlying9
  a9 := Tryz.isAgg9
  z9 := Tryz.sizeOf9
  v9 := Tryz.zeroValue9
  t46 := Tryz.underlying147
  a46 := Tryz.isAgg147
  z46 := Tryz.sizeOf147
  v46 := Tryz.zeroValue147
  t53 := Tryz.underlying87
  a53 := Tryz.isAgg87
  z53 := Tryz.sizeOf87
  v53 := Tryz.zeroValue87 }
end
section
open Go.Shelf
def Tryz.lays285_ren : Go.Shelf.Ren := ⟨fun | 285 => 215 | n => n, fun | 37 => 99 | 53 => 87 | 3 => 3 | 4 => 4 | 51 => 208 | 9 => 9 | 5 => 5 | 0 => 0 | n => n, fun | n => n⟩
theorem Tryz.lays285 : Go.Proofs.Lays.n285 Tryz.prog Tryz.lays285_ren := {
  mixed := by kernel_rfl
  f285 := Tryz.func215.trans (congrArg some (by kernel_rfl))
  t0 := Tryz.underlying0
  a0 := Tryz.isAgg0
  z0 := Tryz.sizeOf0
  v0 := Tryz.zeroValue0
  t3 := Tryz.underlying3
  a3 := Tryz.isAgg3
  z3 := Tryz.sizeOf3
  v3 := Tryz.zeroValue3
  t4 := Tryz.underlying4
  a4 := Tryz.isAgg4
  z4 := Tryz.sizeOf4
  v4 := Tryz.zeroValue4
  t5 := Tryz.underlying5
  a5 := Tryz.isAgg5
  z5 := Tryz.sizeOf5
  v5 := Tryz.zeroValue5
  t9 := Tryz.underlying9
  a9 := Tryz.isAgg9
  z9 := Tryz.sizeOf9
  v9 := Tryz.zeroValue9
  t37 := Tryz.underlying99
  a37 := Tryz.isAgg99
  z37 := Tryz.sizeOf99
  v37 := Tryz.zeroValue99
  t51 := Tryz.underlying208
  a51 := Tryz.isAgg208
  z51 := Tryz.sizeOf208
  v51 := Tryz.zeroValue208
  t53 := Tryz.underlying87
  a53 := Tryz.isAgg87
  z53 := Tryz.sizeOf87
  v53 := Tryz.zeroValue87 }
end
namespace YtldamieigigncaaGreatDoor.lx
open Go.ChangeShapes Go.WideShapes Go.ChangeAt Go.RowKit Go.Shelf
set_option linter.unusedVariables false
theorem mul_any (x y : Nat) (hx : x < 18446744073709551616) (hy : y < 18446744073709551616) (w : World) : Calls Tryz.prog 234 #[.int .u64 x, .int .u64 y] w fun e w' => e = .returned (.tuple #[.int .u64 ((x * y / 18446744073709551616 : Nat) : Int), .int .u64 ((x * y % 18446744073709551616 : Nat) : Int)]) ∧ w = w' :=
  (Any.bits_Mul64 Tryz.lays264 x y hx hy w).mono (by rintro e w' ⟨h, rfl⟩; exact ⟨h, rfl⟩)
theorem bitLenAux_eq : ∀ (f x : Nat), x < 2 ^ f → Lib.bitLenAux f x = fm.bitL x
  | 0, x, h => by
    obtain rfl : x = 0 := by simpa using h
    rfl
  | f + 1, x, h => by
    unfold Lib.bitLenAux
    by_cases h0 : x = 0
    · rw [if_pos h0, h0]; rfl
    · rw [if_neg h0, bitLenAux_eq f (x / 2) (by rw [Nat.pow_succ] at h; omega)]
      unfold fm.bitL
      rw [if_neg h0]
      by_cases h1 : x / 2 = 0
      · rw [if_pos h1]
        obtain rfl : x = 1 := by omega
        rfl
      · rw [if_neg h1, Nat.log2_def x, if_pos (by omega)]
        omega
theorem len_any (x : Nat) (hx : x < 18446744073709551616) (w : World) : Calls Tryz.prog 155 #[.int .u64 x] w fun e w' => e = .returned (.int .i64 (fm.bitL x)) ∧ w = w' :=
  (Any.bits_Len64 Tryz.lays129 (x : Int) w (by omega) (by omega)).mono (by
    rintro e w' ⟨h, rfl⟩
    refine ⟨?_, rfl⟩
    rw [h, Int.toNat_natCast]
    unfold Lib.bitLen
    rw [bitLenAux_eq 64 x hx])
theorem wrap_i64 (x : Int) (h1 : -9223372036854775808 ≤ x) (h2 : x < 9223372036854775808) : IntKind.i64.wrap x = x := by
  rw [IntKind.wrap_i64]
  omega
theorem l10_any (x : Int) (h1 : -5000 ≤ x) (h2 : x ≤ 5000) (w : World) : Calls Tryz.prog 187 #[.int .i64 x] w fun e w' => e = .returned (.int .i64 (fm.l10 x)) ∧ w = w' := by
  go_enter Tryz.func187, Tryz.ntmps187
  go_wp2
  go_ret
  exact ⟨rfl, rfl⟩
theorem l2p_any (x : Int) (h1 : -5000 ≤ x) (h2 : x ≤ 5000) (w : World) : Calls Tryz.prog 209 #[.int .i64 x] w fun e w' => e = .returned (.int .i64 (fm.l2p x)) ∧ w = w' := by
  go_enter Tryz.func209, Tryz.ntmps209
  go_wp2
  go_ret
  exact ⟨rfl, rfl⟩
theorem skw_any (x : Int) (h1 : -5000 ≤ x) (h2 : x ≤ 5000) (w : World) : Calls Tryz.prog 207 #[.int .i64 x] w fun e w' => e = .returned (.int .i64 (fm.skw x)) ∧ w = w' := by
  go_enter Tryz.func207, Tryz.ntmps207
  go_wp2
  go_ret
  exact ⟨rfl, rfl⟩
theorem and1 (u : Nat) (hu : u < 18446744073709551616) : bits .and .u64 (u : Int) 1 = ((u % 2 : Nat) : Int) := by
  have h := bits_and_u64_nat u 1 hu (by decide)
  rw [Nat.and_one_is_mod] at h
  exact h
theorem nudge_any (u : Nat) (d : Int) (w : World) : Calls Tryz.prog 211 #[.int .u64 u, .int .i64 d] w fun e w' => e = .returned (.int .u64 ((u + d) % 18446744073709551616)) ∧ w = w' := by
  go_enter Tryz.func211, Tryz.ntmps211
  go_wp2
  go_ret
  have e : IntKind.u64.wrap ((u : Int) + IntKind.u64.wrap d) = (u + d) % 18446744073709551616 := by
    rw [IntKind.wrap_u64, IntKind.wrap_u64]
    omega
  exact ⟨by rw [← e]; rfl, rfl⟩
theorem ceil_any (u : Nat) (w : World) : Calls Tryz.prog 212 #[.int .u64 u] w fun e w' => e = .returned (.int .u64 ((u + 3) % 18446744073709551616 / 4 : Nat)) ∧ w = w' := by
  go_enter Tryz.func212, Tryz.ntmps212
  go_wp2
  go_ret
  exact ⟨rfl, rfl⟩
theorem floor_any (u : Nat) (hu : u < 18446744073709551616) (w : World) : Calls Tryz.prog 213 #[.int .u64 u] w fun e w' => e = .returned (.int .u64 (u / 4 : Nat)) ∧ w = w' := by
  go_enter Tryz.func213, Tryz.ntmps213
  go_wp2
  go_ret
  exact ⟨rfl, rfl⟩
theorem round_any (u : Nat) (hu : u < 18446744073709551616) (w : World) : Calls Tryz.prog 214 #[.int .u64 u] w fun e w' => e = .returned (.int .u64 (((u + 1) + u / 4 % 2) % 18446744073709551616 / 4 : Nat)) ∧ w = w' := by
  go_enter Tryz.func214, Tryz.ntmps214
  go_wp2
  go_ret
  have e1 : bits .and .u64 ((u : Int) / 4) 1 = ((u / 4 % 2 : Nat) : Int) := and1 (u / 4) (by omega)
  have e : IntKind.u64.wrap (IntKind.u64.wrap ((u : Int) + 1) + bits BinOp.and IntKind.u64 ((u : Int) / 4) 1) / 4 = (((u + 1) + u / 4 % 2) % 18446744073709551616 / 4 : Nat) := by
    rw [e1, IntKind.wrap_u64, IntKind.wrap_u64]
    omega
  exact ⟨by rw [← e]; rfl, rfl⟩
structure ScAt (w : World) (b hi lo : Nat) (s : Int) : Prop where
  c0 : w.cell? ⟨b, 0, none⟩ = some (.int .u64 hi)
  c1 : w.cell? ⟨b, 1, none⟩ = some (.int .u64 lo)
  c2 : w.cell? ⟨b, 2, none⟩ = some (.int .i64 s)
theorem bv_and (x y : Int) : (BitVec.ofInt 64 x &&& BitVec.ofInt 64 y).toNat = (x % 18446744073709551616).toNat &&& (y % 18446744073709551616).toNat := by
  rw [BitVec.toNat_and, BitVec.toNat_ofInt, BitVec.toNat_ofInt]; rfl
theorem and_nat (x : Int) (m j : Nat) (hm : m = 2 ^ j - 1) (hj : m < 4611686018427387904) (hd : (18446744073709551616 : Nat) % 2 ^ j = 0) : bits .and .i64 x (m : Int) = x % ((2 ^ j : Nat) : Int) := by
  have hp : 0 < 2 ^ j := Nat.two_pow_pos j
  show IntKind.i64.wrap ((BitVec.ofInt 64 x &&& BitVec.ofInt 64 (m : Int)).toNat : Int) = _
  rw [bv_and, Int.emod_eq_of_lt (show (0 : Int) ≤ (m : Int) by omega) (by omega), Int.toNat_natCast, hm, Nat.and_two_pow_sub_one_eq_mod]
  have hlt := Nat.mod_lt (x % 18446744073709551616).toNat hp
  rw [IntWalk.i64_in _ (by omega)]
  generalize hP : 2 ^ j = P at *
  obtain ⟨q, hq⟩ := Nat.dvd_of_mod_eq_zero hd
  have h0 := Int.emod_nonneg x (show (18446744073709551616 : Int) ≠ 0 by decide)
  have e : (((x % 18446744073709551616).toNat % P : Nat) : Int) = (x % 18446744073709551616) % (P : Int) := by
    rw [Int.natCast_emod, Int.toNat_of_nonneg h0]
  rw [e]
  exact Int.emod_emod_of_dvd x ⟨(q : Int), (congrArg (fun m : Nat => (m : Int)) hq).trans (Int.natCast_mul P q)⟩
def Qq (w w' : World) : Prop := ∃ n, w' = w.drewN n
theorem and63 (s : Int) : bits .and .i64 s 63 = (((s % 64).toNat : Nat) : Int) := by
  have h : bits .and .i64 s 63 = s % 64 := and_nat s 63 6 (by decide) (by decide) (by decide)
  rw [h]
  omega
theorem or1n (u : Nat) (hu : u < 18446744073709551616) : bits .or .u64 (u : Int) 1 = ((u ||| 1 : Nat) : Int) := bits_or_u64_nat u 1 hu (by decide)
theorem div_pow (v S : Nat) : (v : Int) / 2 ^ S = ((v / 2 ^ S : Nat) : Int) := by push_cast; rfl
theorem bool2_any (b : Bool) (w : World) : Calls Tryz.prog 235 #[.bool b] w fun e w' => e = .returned (.int .u64 (b.toNat : Nat)) ∧ w = w' := by
  cases b
  all_goals
    go_enter Tryz.func235, Tryz.ntmps235
    go_wp2
    go_ret
    exact ⟨rfl, rfl⟩
set_option maxRecDepth 100000 in
set_option maxHeartbeats 1000000 in
theorem uscale_any (x hi lo : Nat) (s : Int) (hx : x < 18446744073709551616) (hh : hi < 18446744073709551616) (hl : lo < 18446744073709551616) (w : World) (b : Nat) (h : ScAt w b hi lo s) : Calls Tryz.prog 210 #[.int .u64 x, .pointer (some ⟨b, 0, none⟩)] w fun e w' => e = .returned (.int .u64 (fm.uscN x hi lo (s % 64).toNat)) ∧ Qq w w' := by
  obtain ⟨c0, c1, c2⟩ := h
  have m1 := mul_any x hi hx hh
  have m2 := mul_any x lo hx hl
  have hS := and63 s
  have hS64 : (s % 64).toNat < 64 := by omega
  have hP : x * hi < 18446744073709551616 * 18446744073709551616 := Nat.lt_of_le_of_lt (Nat.mul_le_mul_left x (Nat.le_of_lt hh)) (Nat.mul_lt_mul_of_pos_right hx (by decide))
  have hP2 : x * lo < 18446744073709551616 * 18446744073709551616 := Nat.lt_of_le_of_lt (Nat.mul_le_mul_left x (Nat.le_of_lt hl)) (Nat.mul_lt_mul_of_pos_right hx (by decide))
  unfold fm.uscN
  have hH : x * hi / 18446744073709551616 < 18446744073709551616 := Nat.div_lt_of_lt_mul hP
  have hM : x * hi % 18446744073709551616 < 18446744073709551616 := Nat.mod_lt _ (by decide)
  have hM2 : x * lo / 18446744073709551616 < 18446744073709551616 := Nat.div_lt_of_lt_mul hP2
  generalize x * hi / 18446744073709551616 = H at *
  generalize x * hi % 18446744073709551616 = M at *
  generalize x * lo / 18446744073709551616 = M2 at *
  generalize x * lo % 18446744073709551616 = M3 at *
  generalize (s % 64).toNat = S at *
  have hle : H / 2 ^ S * 2 ^ S ≤ H := Nat.div_mul_le_self H (2 ^ S)
  have hD : H / 2 ^ S ≤ H := Nat.div_le_self H (2 ^ S)
  have e1 : (H : Int) / 2 ^ S = ((H / 2 ^ S : Nat) : Int) := by push_cast; rfl
  have e2 : IntKind.u64.wrap (((H / 2 ^ S : Nat) : Int) * 2 ^ S) = ((H / 2 ^ S * 2 ^ S : Nat) : Int) := by
    rw [show ((H / 2 ^ S : Nat) : Int) * 2 ^ S = ((H / 2 ^ S * 2 ^ S : Nat) : Int) from by push_cast; rfl, IntKind.wrap_u64]
    omega
  clear hP hP2 hx hh hl
  by_cases hc : H / 2 ^ S * 2 ^ S = H
  · rw [if_pos hc]
    rw [hc] at e2
    clear hc hle
    have hv : (H + 18446744073709551616 - (if M < M2 then 1 else 0)) % 18446744073709551616 < 18446744073709551616 := Nat.mod_lt _ (by decide)
    have q3 : (((H + 18446744073709551616 - (if M < M2 then 1 else 0)) % 18446744073709551616 : Nat) : Int) / 2 ^ S = (((H + 18446744073709551616 - (if M < M2 then 1 else 0)) % 18446744073709551616 / 2 ^ S : Nat) : Int) := div_pow _ _
    have hsub : IntKind.u64.wrap ((H : Int) - ((decide (M < M2)).toNat : Nat)) = (((H + 18446744073709551616 - (if M < M2 then 1 else 0)) % 18446744073709551616 : Nat) : Int) := by
      rw [IntKind.wrap_u64]
      by_cases hb : M < M2
      · rw [decide_eq_true hb, if_pos hb, Bool.toNat_true]; omega
      · rw [decide_eq_false hb, if_neg hb, Bool.toNat_false]; omega
    have hd1 : decide ((M : Int) < (M2 : Int)) = decide (M < M2) := decide_eq_decide.2 (by omega)
    have hsub2 : IntKind.u64.wrap ((M : Int) - (M2 : Int)) = (((M + 18446744073709551616 - M2) % 18446744073709551616 : Nat) : Int) := by
      rw [IntKind.wrap_u64]; omega
    have hd2 : decide ((1 : Int) < (((M + 18446744073709551616 - M2) % 18446744073709551616 : Nat) : Int)) = decide (1 < (M + 18446744073709551616 - M2) % 18446744073709551616) := decide_eq_decide.2 (by omega)
    have hor : ∀ v : Nat, v < 18446744073709551616 → bits .or .u64 (v : Int) (((decide (1 < (M + 18446744073709551616 - M2) % 18446744073709551616)).toNat : Nat) : Int) = ((v ||| (if 1 < (M + 18446744073709551616 - M2) % 18446744073709551616 then 1 else 0) : Nat) : Int) := fun v hv => by
      by_cases hb : 1 < (M + 18446744073709551616 - M2) % 18446744073709551616
      · rw [decide_eq_true hb, if_pos hb, Bool.toNat_true]; exact or1n v hv
      · rw [decide_eq_false hb, if_neg hb, Bool.toNat_false]; exact bits_or_u64_nat v 0 hv (by decide)
    have hor2 := hor (((H + 18446744073709551616 - (if M < M2 then 1 else 0)) % 18446744073709551616) / 2 ^ S) (Nat.lt_of_le_of_lt (Nat.div_le_self _ _) hv)
    clear hor hv
    generalize (H + 18446744073709551616 - (if M < M2 then 1 else 0)) % 18446744073709551616 = H2 at *
    generalize H2 / 2 ^ S = D2 at *
    generalize H / 2 ^ S = D1 at *
    have b1 := bool2_any (decide (M < M2))
    have b2 := bool2_any (decide (1 < (M + 18446744073709551616 - M2) % 18446744073709551616))
    generalize (M + 18446744073709551616 - M2) % 18446744073709551616 = V at *
    generalize D2 ||| (if 1 < V then 1 else 0) = R at *
    clear hD hH hM hM2
    go_enter Tryz.func210, Tryz.ntmps210
    go_wp2_with fail
    refine (m1 _).mono ?_
    rintro e w1 ⟨rfl, rfl⟩
    clear m1
    go_wp2_with fail
    refine (m2 _).mono ?_
    rintro e w1 ⟨rfl, rfl⟩
    clear m2
    go_wp2_with fail
    refine (b1 _).mono ?_
    rintro e w1 ⟨rfl, rfl⟩
    clear b1
    go_wp2_with fail
    go_quiet ((go_at_call 235; exact Calls.quiet_of_same ((b2 _).mono fun _ _ h => ⟨h.1, h.2.symm⟩)))
    go_wp2_with fail
    go_ret
    exact ⟨rfl, _, rfl⟩
  · rw [if_neg hc]
    have ho := or1n (H / 2 ^ S) (by omega)
    have hne : (((H / 2 ^ S * 2 ^ S : Nat) : Int) == (H : Int)) = false := by rw [beq_eq_false_iff_ne]; omega
    clear hD hc hH hM hM2 m2 hle
    generalize H / 2 ^ S * 2 ^ S = C1 at *
    generalize H / 2 ^ S = D1 at *
    generalize D1 ||| 1 = R at *
    go_enter Tryz.func210, Tryz.ntmps210
    go_wp2_with (go_at_call 234; refine (m1 _).mono ?_; rintro e w1 ⟨rfl, rfl⟩)
    go_ret
    exact ⟨rfl, 0, rfl⟩
end Go.Proofs.YtldamieigigncaaGreatDoor.lx

