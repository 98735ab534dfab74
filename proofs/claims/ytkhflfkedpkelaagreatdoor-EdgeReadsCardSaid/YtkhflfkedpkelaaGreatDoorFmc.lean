import Derived.Test.YtkhflfkedpkelaaGreatDoorFmb
namespace Go.Proofs.YtkhflfkedpkelaaGreatDoor.fm
set_option linter.unusedVariables false
/-! digits -/
def digs : Nat → Nat → List UInt8
  | 0, _ => []
  | n + 1, d => digs n (d / 10) ++ [UInt8.ofNat (48 + d % 10)]
def valL (l : List UInt8) : Nat := l.foldl (fun a c => 10 * a + (c.toNat - 48)) 0
def digL (l : List UInt8) : Prop := ∀ c ∈ l, 48 ≤ c ∧ c ≤ 57
def stripZ : List UInt8 → List UInt8
  | [] => []
  | c :: l => if stripZ l = [] then (if c = 48 then [] else [c]) else c :: stripZ l
theorem digs_len : ∀ n d, (digs n d).length = n
  | 0, _ => rfl
  | n + 1, d => by simp [digs, digs_len n]
theorem ofNat_dig (x : Nat) (h : x < 10) : (UInt8.ofNat (48 + x)).toNat = 48 + x := by
  rw [UInt8.toNat_ofNat']
  omega
theorem digs_dig : ∀ n d, digL (digs n d)
  | 0, _, c, h => by simp [digs] at h
  | n + 1, d, c, h => by
    simp only [digs, List.mem_append, List.mem_singleton] at h
    rcases h with h | rfl
    · exact digs_dig n _ c h
    · have := ofNat_dig (d % 10) (by omega)
      rw [UInt8.le_iff_toNat_le, UInt8.le_iff_toNat_le, this]
      show 48 ≤ _ ∧ _ ≤ 57
      omega
theorem valL_snoc (l : List UInt8) (c : UInt8) : valL (l ++ [c]) = 10 * valL l + (c.toNat - 48) := by
  unfold valL
  rw [List.foldl_append]
  rfl
theorem digs_val (n : Nat) : ∀ l : List UInt8, l.length = n → digL l → digs n (valL l) = l ∧ valL l < 10 ^ n := by
  induction n with
  | zero => intro l h _; obtain rfl := List.length_eq_zero_iff.1 h; exact ⟨rfl, by decide⟩
  | succ n ih =>
    intro l h hd
    have hne : l ≠ [] := by rintro rfl; simp at h
    obtain ⟨m, c, rfl⟩ : ∃ m c, l = m ++ [c] := ⟨l.dropLast, l.getLast hne, (List.dropLast_concat_getLast hne).symm⟩
    have hm : m.length = n := by simpa using h
    obtain ⟨i1, i2⟩ := ih m hm (fun c hc => hd c (List.mem_append_left _ hc))
    have hc := hd c (by simp)
    rw [UInt8.le_iff_toNat_le, UInt8.le_iff_toNat_le] at hc
    have hc1 : 48 ≤ c.toNat := hc.1
    have hc2 : c.toNat ≤ 57 := hc.2
    rw [valL_snoc]
    constructor
    · unfold digs
      rw [show (10 * valL m + (c.toNat - 48)) / 10 = valL m from by omega, show (10 * valL m + (c.toNat - 48)) % 10 = c.toNat - 48 from by omega, i1]
      congr 2
      apply UInt8.toNat.inj
      rw [ofNat_dig _ (by omega)]
      omega
    · rw [Nat.pow_succ]
      omega
theorem digs_zero : ∀ n, digs n 0 = List.replicate n 48
  | 0 => rfl
  | n + 1 => by
    unfold digs
    rw [Nat.zero_div, digs_zero n, List.replicate_succ']
    rfl
theorem digs_pad (z : Nat) : ∀ n d, d < 10 ^ n → digs (z + n) d = List.replicate z 48 ++ digs n d
  | 0, d, h => by
    obtain rfl : d = 0 := by simpa using h
    rw [Nat.add_zero, digs_zero]
    simp [digs]
  | n + 1, d, h => by
    rw [← Nat.add_assoc]
    unfold digs
    rw [digs_pad z n (d / 10) (by rw [Nat.pow_succ] at h; omega), List.append_assoc]
theorem strip_snoc0 : ∀ l : List UInt8, stripZ (l ++ [48]) = stripZ l
  | [] => rfl
  | c :: l => by
    rw [List.cons_append]
    unfold stripZ
    rw [strip_snoc0 l]
theorem strip_snoc : ∀ (l : List UInt8) (c : UInt8), c ≠ 48 → stripZ (l ++ [c]) = l ++ [c]
  | [], c, h => by simp [stripZ, h]
  | a :: l, c, h => by
    rw [List.cons_append]
    conv => lhs; unfold stripZ
    rw [strip_snoc l c h, if_neg (by simp)]
theorem strip_zeros (l : List UInt8) : ∀ n, stripZ (l ++ List.replicate n 48) = stripZ l
  | 0 => by simp
  | n + 1 => by
    rw [List.replicate_succ', ← List.append_assoc, strip_snoc0, strip_zeros l n]
theorem strip_rep (n : Nat) : stripZ (List.replicate n 48) = [] := by
  have := strip_zeros [] n
  simpa [stripZ] using this
theorem strip_app : ∀ (a b : List UInt8), stripZ b ≠ [] → stripZ (a ++ b) = a ++ stripZ b
  | [], b, h => rfl
  | c :: a, b, h => by
    rw [List.cons_append]
    conv => lhs; unfold stripZ
    rw [strip_app a b h, if_neg (by simp [h])]
    rfl
theorem strip_app0 : ∀ (a b : List UInt8), stripZ b = [] → stripZ (a ++ b) = stripZ a
  | [], b, h => by rw [List.nil_append, h]; rfl
  | c :: a, b, h => by
    rw [List.cons_append]
    unfold stripZ
    rw [strip_app0 a b h]
theorem strip_eq : ∀ l : List UInt8, l = stripZ l ++ List.replicate (l.length - (stripZ l).length) 48 ∧ (stripZ l).length ≤ l.length
  | [] => ⟨rfl, Nat.le_refl _⟩
  | c :: l => by
    obtain ⟨i1, i2⟩ := strip_eq l
    unfold stripZ
    by_cases h : stripZ l = []
    · rw [if_pos h]
      rw [h] at i1
      by_cases hc : c = 48
      · rw [if_pos hc, hc]
        refine ⟨?_, by simp⟩
        simp only [List.nil_append, List.length_nil, List.length_cons, Nat.sub_zero] at i1 ⊢
        rw [List.replicate_succ, ← i1]
      · rw [if_neg hc]
        refine ⟨?_, by simp⟩
        simp only [List.nil_append, List.length_nil, List.length_cons, Nat.sub_zero, List.cons_append] at i1 ⊢
        rw [show l.length + 1 - (0 + 1) = l.length from by omega, ← i1]
    · rw [if_neg h]
      refine ⟨?_, by simpa using i2⟩
      rw [List.cons_append, List.length_cons, List.length_cons, show l.length + 1 - ((stripZ l).length + 1) = l.length - (stripZ l).length from by omega, ← i1]
theorem strip_last (l : List UInt8) (n : Nat) (h : stripZ l = []) : l = List.replicate l.length 48 := by
  have := (strip_eq l).1
  rw [h] at this
  simpa using this
theorem strip_idem (l : List UInt8) : stripZ (stripZ l) = stripZ l := by
  have h := (strip_eq l).1
  have := strip_zeros (stripZ l) (l.length - (stripZ l).length)
  rw [← h] at this
  exact this.symm
/-! how many digits -/
def bitL (n : Nat) : Nat := if n = 0 then 0 else n.log2 + 1
def ndN (d : Nat) : Nat := (l10 (bitL d)).toNat + (if 10 ^ (l10 (bitL d)).toNat ≤ d then 1 else 0)
theorem nd_tab : ∀ L : Nat, L < 65 → (decide (0 ≤ l10 L) && decide ((l10 L).toNat ≤ 19) && decide (2 ^ L < 10 ^ ((l10 L).toNat + 1)) && (L == 0 || decide (10 ^ (l10 L).toNat ≤ 10 * 2 ^ (L - 1)))) = true := by decide +kernel
theorem bitL_le (d : Nat) (h : d < 18446744073709551616) : bitL d ≤ 64 := by
  unfold bitL
  split
  · omega
  · rename_i h0
    have : d.log2 < 64 := (Nat.log2_lt h0).2 h
    omega
theorem nd_spec (d : Nat) (h : d < 18446744073709551616) : d < 10 ^ ndN d ∧ ndN d ≤ 20 ∧ 0 ≤ l10 (bitL d) ∧ (l10 (bitL d)).toNat ≤ 19 ∧ (0 < d → 10 ^ (ndN d - 1) ≤ d ∧ 0 < ndN d) := by
  have hb := bitL_le d h
  have ht := nd_tab (bitL d) (by omega)
  simp only [Bool.and_eq_true, Bool.or_eq_true, decide_eq_true_eq, beq_iff_eq] at ht
  obtain ⟨⟨⟨t1, t2⟩, t3⟩, t4⟩ := ht
  have hlt : d < 2 ^ bitL d := by
    unfold bitL
    split
    · rename_i h0; rw [h0]; decide
    · exact Nat.lt_log2_self
  unfold ndN
  by_cases hc : 10 ^ (l10 (bitL d)).toNat ≤ d
  · rw [if_pos hc]
    refine ⟨by omega, by omega, t1, t2, fun _ => ⟨by rw [Nat.add_sub_cancel]; exact hc, by omega⟩⟩
  · rw [if_neg hc, Nat.add_zero]
    refine ⟨by omega, by omega, t1, t2, fun h0 => ?_⟩
    have hge : 2 ^ (bitL d - 1) ≤ d := by
      unfold bitL
      rw [if_neg (by omega), Nat.add_sub_cancel]
      exact Nat.log2_self_le (by omega)
    have hL : bitL d ≠ 0 := by
      unfold bitL
      rw [if_neg (by omega)]
      omega
    rcases t4 with t4 | t4
    · exact absurd t4 hL
    · rcases Nat.eq_zero_or_pos (l10 (bitL d)).toNat with hz | hz
      · rw [hz] at hc
        simp at hc
        omega
      · refine ⟨?_, hz⟩
        have e : 10 ^ (l10 (bitL d)).toNat = 10 * 10 ^ ((l10 (bitL d)).toNat - 1) := by
          rw [Nat.mul_comm, ← Nat.pow_succ]
          congr 1
          omega
        rw [e] at t4
        have := Nat.le_of_mul_le_mul_left t4 (by decide)
        omega
theorem len_pos {l : List UInt8} (h : l ≠ []) : 0 < l.length := by
  cases l with
  | nil => exact absurd rfl h
  | cons a l => simp
/-- the text of digits, with the point where it stands -/
def outN (neg : Bool) (s : List UInt8) (dp : Int) : List UInt8 :=
  (if neg then [45] else []) ++ (if 0 < dp then s.take dp.toNat ++ List.replicate (dp.toNat - s.length) 48 else [48]) ++
    (if dp < s.length then 46 :: (List.replicate (-dp).toNat 48 ++ s.drop dp.toNat) else [])
def shortB (neg : Bool) (h t : List UInt8) : List UInt8 :=
  (if neg then [45] else []) ++ h ++ (if stripZ t = [] then [] else 46 :: stripZ t)
theorem digL_app {a b : List UInt8} (ha : digL a) (hb : digL b) : digL (a ++ b) := fun c h => by
  rcases List.mem_append.1 h with h | h
  · exact ha c h
  · exact hb c h
theorem digL_rep (n : Nat) : digL (List.replicate n 48) := fun c h => by
  obtain ⟨_, rfl⟩ := List.mem_replicate.1 h
  decide
theorem valL_zeros (l : List UInt8) : ∀ n, valL (l ++ List.replicate n 48) = valL l * 10 ^ n
  | 0 => by simp
  | n + 1 => by
    rw [List.replicate_succ', ← List.append_assoc, valL_snoc, valL_zeros l n, Nat.pow_succ]
    show 10 * (valL l * 10 ^ n) + (48 - 48) = _
    rw [Nat.sub_self, Nat.add_zero, Nat.mul_left_comm, Nat.mul_comm 10]
theorem valL_cons (c : UInt8) (l : List UInt8) : valL (c :: l) = (c.toNat - 48) * 10 ^ l.length + valL l := by
  have key : ∀ (l : List UInt8) (a : Nat), l.foldl (fun a c => 10 * a + (c.toNat - 48)) a = a * 10 ^ l.length + valL l := by
    intro l
    induction l with
    | nil => intro a; simp [valL]
    | cons c l ih =>
      intro a
      unfold valL
      rw [List.foldl_cons, List.foldl_cons, ih, ih (10 * 0 + _), List.length_cons, Nat.pow_succ, Nat.mul_zero, Nat.zero_add, Nat.add_mul]
      rw [show a * (10 ^ l.length * 10) = 10 * a * 10 ^ l.length from by rw [Nat.mul_comm (10 ^ _), ← Nat.mul_assoc, Nat.mul_comm a]]
      omega
  have := key l (10 * 0 + (c.toNat - 48))
  rw [Nat.mul_zero, Nat.zero_add] at this
  unfold valL at this ⊢
  rw [List.foldl_cons, Nat.mul_zero, Nat.zero_add]
  exact this
/-- the digits that are told make the shortest text -/
theorem out_short (neg : Bool) (h t : List UInt8) (q : Nat) (hh : digL h) (ht : digL t) (h1 : 1 ≤ h.length) (hz : 1 < h.length → h.head? ≠ some 48) (hq : t.length ≤ q)
    (h0 : 0 < valL (h ++ t)) (hb : valL (h ++ t) * 10 ^ (q - t.length) < 18446744073709551616) :
    outN neg (stripZ (digs (ndN (valL (h ++ t) * 10 ^ (q - t.length))) (valL (h ++ t) * 10 ^ (q - t.length)))) ((ndN (valL (h ++ t) * 10 ^ (q - t.length)) : Int) - q) = shortB neg h t := by
  obtain ⟨D, hD⟩ : ∃ D, D = valL (h ++ t) * 10 ^ (q - t.length) := ⟨_, rfl⟩
  rw [← hD] at hb ⊢
  have hD0 : 0 < D := by rw [hD]; exact Nat.mul_pos h0 (Nat.pow_pos (by decide))
  obtain ⟨n1, n2, _, _, n3⟩ := nd_spec D hb
  obtain ⟨n3, n4⟩ := n3 hD0
  -- all digits
  have hL : D = valL (h ++ t ++ List.replicate (q - t.length) 48) := by rw [valL_zeros, hD]
  have hlen : (h ++ t ++ List.replicate (q - t.length) 48).length = h.length + q := by simp; omega
  obtain ⟨v1, v2⟩ := digs_val (h.length + q) _ hlen (digL_app (digL_app hh ht) (digL_rep _))
  rw [← hL] at v1 v2
  generalize ndN D = nd at *
  have hndL : nd ≤ h.length + q := by
    rcases Nat.lt_or_ge (h.length + q) nd with hx | hx
    · exfalso
      have := Nat.pow_le_pow_right (n := 10) (by decide) (show h.length + q ≤ nd - 1 from by omega)
      omega
    · exact hx
  have hpad := digs_pad (h.length + q - nd) nd D n1
  rw [show h.length + q - nd + nd = h.length + q from by omega, v1] at hpad
  have hsd : stripZ (digs nd D) ≠ [] := by
    intro he
    have := strip_last _ 0 he
    rw [digs_len] at this
    have e := digs_val nd (digs nd D) (digs_len _ _) (digs_dig _ _)
    have e2 : valL (digs nd D) = 0 := by
      rw [this]
      have := valL_zeros [] nd
      rw [List.nil_append] at this
      rw [this]
      simp [valL]
    have e3 : ∀ n d, d < 10 ^ n → valL (digs n d) = d := by
      intro n
      induction n with
      | zero => intro d hd; simp [digs, valL]; simp at hd; exact hd.symm
      | succ n ih =>
        intro d hd
        unfold digs
        rw [valL_snoc, ih _ (by rw [Nat.pow_succ] at hd; omega), ofNat_dig _ (by omega)]
        omega
    rw [e3 nd D n1] at e2
    omega
  have hss := congrArg stripZ hpad
  rw [strip_zeros, strip_app _ _ hsd] at hss
  unfold outN shortB
  by_cases hz0 : h = [48]
  · -- ahead of the point nought
    subst hz0
    have hnq : nd ≤ q := by
      have h3 : D < 10 ^ q := by
        have e := digs_val q (t ++ List.replicate (q - t.length) 48) (by simp; omega) (digL_app ht (digL_rep _))
        have e2 : D = valL (t ++ List.replicate (q - t.length) 48) := by
          rw [hL, List.append_assoc, List.singleton_append, valL_cons]
          simp
        rw [e2]
        exact e.2
      rcases Nat.lt_or_ge q nd with hx | hx
      · exfalso
        have := Nat.pow_le_pow_right (n := 10) (by decide) (show q ≤ nd - 1 from by omega)
        omega
      · exact hx
    have hst : stripZ t = List.replicate (q - nd) 48 ++ stripZ (digs nd D) := by
      have e1 : stripZ ([48] ++ t) = [48] ++ stripZ t ∨ stripZ t = [] := by
        by_cases hx : stripZ t = []
        · exact Or.inr hx
        · exact Or.inl (strip_app _ _ hx)
      rcases e1 with e1 | e1
      · rw [e1] at hss
        have e4 : ([48] : List UInt8).length + q - nd = (q - nd) + 1 := by
          show 1 + q - nd = _
          omega
        rw [e4, List.replicate_succ] at hss
        simpa using hss
      · exfalso
        rw [strip_app0 _ _ e1] at hss
        have := congrArg List.length hss
        have h5 : 0 < (stripZ (digs nd D)).length := len_pos hsd
        simp [stripZ] at this
        omega
    have w1 : ¬ (0 : Int) < (nd : Int) - q := by omega
    have w2 : (nd : Int) - q < (stripZ (digs nd D)).length := by have := len_pos hsd; omega
    have w3 : stripZ t ≠ [] := by rw [hst]; simp [hsd]
    rw [if_neg w1, if_pos w2, if_neg w3, hst, show (-((nd : Int) - q)).toNat = q - nd from by omega, show ((nd : Int) - q).toNat = 0 from by omega, List.drop_zero]
  · -- ahead of the point a digit that is none
    have hhd : h.head? ≠ some 48 := by
      rcases Nat.lt_or_ge 1 h.length with hx | hx
      · exact hz hx
      · intro he
        cases h with
        | nil => simp at h1
        | cons c l =>
          simp at he
          subst he
          have : l = [] := by
            rw [List.length_cons] at hx
            exact List.length_eq_zero_iff.1 (by omega)
          subst this
          exact hz0 rfl
    have hnd : nd = h.length + q := by
      rcases Nat.lt_or_ge nd (h.length + q) with hx | hx
      · exfalso
        obtain ⟨z, hz2⟩ : ∃ z, h.length + q - nd = z + 1 := ⟨h.length + q - nd - 1, by omega⟩
        rw [hz2, List.replicate_succ] at hpad
        cases h with
        | nil => simp at h1
        | cons c l =>
          simp at hpad
          exact hhd (by rw [hpad.1]; rfl)
      · omega
    rw [show h.length + q - nd = 0 from by omega, List.replicate_zero, List.nil_append] at hss
    have w1 : (0 : Int) < (nd : Int) - q := by omega
    rw [← hss, if_pos w1, show ((nd : Int) - q).toNat = h.length from by omega, show (-((nd : Int) - q)).toNat = 0 from by omega]
    by_cases hx : stripZ t = []
    · rw [strip_app0 _ _ hx, if_pos hx]
      obtain ⟨s1, s2⟩ := strip_eq h
      have w2 : ¬ (nd : Int) - q < (stripZ h).length := by omega
      rw [if_neg w2, List.take_of_length_le s2, ← s1]
    · have w2 : (nd : Int) - q < (h ++ stripZ t).length := by have := len_pos hx; simp; omega
      rw [strip_app _ _ hx, if_neg hx, if_pos w2]
      simp
end Go.Proofs.YtkhflfkedpkelaaGreatDoor.fm
