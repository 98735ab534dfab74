import Derived.Test.YtkhflfkedpkelaaGreatDoorLxf
namespace Go.Proofs.YtkhflfkedpkelaaGreatDoor.lx
open Go.ChangeShapes Go.WideShapes Go.ChangeAt Go.RowKit
set_option linter.unusedVariables false
theorem val_snoc (l : List UInt8) (c : UInt8) : val (l ++ [c]) = 10 * val l + (c.toNat - 48) := by
  unfold val
  rw [List.foldl_append]
  rfl
theorem val_lt : ∀ (n : Nat) (l : List UInt8), l.length = n → (∀ c ∈ l, digB c = true) → val l < 10 ^ n
  | 0, l, h, _ => by
    rw [List.length_eq_zero_iff.1 h]
    simp [val]
  | n + 1, l, h, hd => by
    have hne : l ≠ [] := by rintro rfl; cases h
    have e := List.dropLast_concat_getLast hne
    have hl : l.dropLast.length = n := by rw [List.length_dropLast, h]; rfl
    have ih := val_lt n l.dropLast hl (fun c hc => hd c (List.dropLast_subset _ hc))
    have hg := hd _ (List.getLast_mem hne)
    rw [dig_n] at hg
    unfold digN at hg
    rw [decide_eq_true_iff] at hg
    rw [← e, val_snoc, Nat.pow_succ]
    omega
theorem cut_join : ∀ (l : List UInt8), l = headD l ++ (if dotB l = true then 46 :: tailD l else [])
  | [] => rfl
  | c :: l => by
    by_cases hc : c = 46
    · subst hc
      simp [headD, tailD, dotB]
    · have hc2 : (c != 46) = true := by simpa using hc
      have hc3 : (46 == c) = false := by simpa using fun e => hc e.symm
      have e1 : headD (c :: l) = c :: headD l := by
        unfold headD
        rw [List.takeWhile_cons_of_pos (p := fun c => c != 46) hc2]
      have e2 : tailD (c :: l) = tailD l := by
        unfold tailD
        rw [List.dropWhile_cons_of_pos (p := fun c => c != 46) hc2]
      have e3 : dotB (c :: l) = dotB l := by
        unfold dotB
        simp only [List.contains_cons, hc3, Bool.false_or]
      rw [e1, e2, e3, List.cons_append, ← cut_join l]
theorem tail_nil {l : List UInt8} (h : dotB l = false) : tailD l = [] := by
  rcases first_at l with ⟨_, _, _, h4⟩ | ⟨k, _, _, h2, _⟩
  · exact h4
  · rw [h] at h2; cases h2
theorem digs_of {l : List UInt8} {m : Nat} (h : digsB l m = true) : 1 ≤ l.length ∧ l.length ≤ m ∧ ∀ c ∈ l, digB c = true := by
  unfold digsB at h
  simp only [Bool.and_eq_true, decide_eq_true_iff] at h
  exact ⟨h.1.1, h.1.2, fun c hc => List.all_eq_true.1 h.2 c hc⟩
theorem dig_bt {c : UInt8} (h : digB c = true) : 48 ≤ c.toNat ∧ c.toNat ≤ 57 := by
  rw [dig_n] at h
  unfold digN at h
  rwa [decide_eq_true_iff] at h
/-- what stands at a place -/
theorem bt_list (s : ByteArray) (pre H R : List UInt8) (h : s.data.toList = pre ++ (H ++ R)) (i : Nat) : (i < H.length → bt s (pre.length + i) = (H.getD i 0).toNat) ∧ bt s (pre.length + H.length + i) = (R.getD i 0).toNat := by
  refine ⟨fun hi => ?_, ?_⟩
  · unfold bt
    rw [h, List.getD_eq_getElem?_getD, List.getD_eq_getElem?_getD, List.getElem?_append_right (by omega), show pre.length + i - pre.length = i from by omega, List.getElem?_append_left hi]
  · unfold bt
    rw [h, List.getD_eq_getElem?_getD, List.getD_eq_getElem?_getD, List.getElem?_append_right (by omega), show pre.length + H.length + i - pre.length = H.length + i from by omega, List.getElem?_append_right (by omega), show H.length + i - H.length = i from by omega]
theorem getD_mem {l : List UInt8} {i : Nat} (h : i < l.length) : l.getD i 0 ∈ l := by
  rw [List.getD_eq_getElem?_getD, List.getElem?_eq_getElem h]
  exact List.getElem_mem h
theorem take_snoc (l : List UInt8) (i : Nat) (h : i < l.length) : l.take (i + 1) = l.take i ++ [l.getD i 0] := by
  rw [List.take_succ_eq_append_getElem h, List.getD_eq_getElem?_getD, List.getElem?_eq_getElem h]
  rfl
theorem dv_head (s : ByteArray) (pre H R : List UInt8) (h : s.data.toList = pre ++ (H ++ R)) : ∀ n, n ≤ H.length → dv s pre.length (pre.length + H.length) n = val (H.take n)
  | 0, _ => by simp [dv, val]
  | n + 1, hn => by
    rw [dv_s, if_neg (by omega), dv_head s pre H R h n (by omega), (bt_list s pre H R h n).1 (by omega), take_snoc H n (by omega), val_snoc]
theorem dv_tail (s : ByteArray) (pre H P : List UInt8) (h : s.data.toList = pre ++ (H ++ 46 :: P)) : ∀ n, n ≤ P.length → dv s pre.length (pre.length + H.length) (H.length + 1 + n) = val (H ++ P.take n)
  | 0, _ => by
    rw [Nat.add_zero, dv_s, if_pos rfl, dv_head s pre H _ h _ (Nat.le_refl _)]
    simp
  | n + 1, hn => by
    rw [show H.length + 1 + (n + 1) = (H.length + 1 + n) + 1 from by omega, dv_s, if_neg (by omega), dv_tail s pre H P h n (by omega)]
    have hb := (bt_list s pre H _ h (n + 1)).2
    rw [show pre.length + H.length + (n + 1) = pre.length + (H.length + 1 + n) from by omega] at hb
    rw [hb, take_snoc P n (by omega), ← List.append_assoc, val_snoc]
    simp
/-- a weight's text that is told by digits -/
theorem dec_shape (s : ByteArray) (h : decB s.data.toList = true) : ∃ (p d : Nat) (V k : Nat), ((p = 0 ∧ (s.data.toList.head? == some 45) = false) ∨ (p = 1 ∧ (s.data.toList.head? == some 45) = true ∧ bt s 0 = 45)) ∧ Decs s p d ∧ V = dv s p d (s.size - p) ∧ k ≤ 6 ∧ V < 1000000000000000 ∧ rfExp s p d = (if V = 0 then 0 else -(k : Int)) ∧ decF s.data.toList = flo.wt (s.data.toList.head? == some 45) V k := by
  have hsz : s.data.toList.length = s.size := by simp
  have hpre : ∃ pre : List UInt8, s.data.toList = pre ++ strip s.data.toList ∧ ((pre.length = 0 ∧ (s.data.toList.head? == some 45) = false) ∨ (pre.length = 1 ∧ (s.data.toList.head? == some 45) = true ∧ bt s 0 = 45)) := by
    unfold strip
    by_cases hh : s.data.toList.head? = some 45
    · rw [if_pos hh]
      refine ⟨[45], ?_, .inr ⟨rfl, by rw [hh]; rfl, ?_⟩⟩
      · cases hl : s.data.toList with
        | nil => rw [hl] at hh; cases hh
        | cons c l => rw [hl] at hh; simp at hh; rw [hh]; rfl
      · unfold bt
        cases hl : s.data.toList with
        | nil => rw [hl] at hh; cases hh
        | cons c l => rw [hl] at hh; simp at hh; rw [hh]; rfl
    · rw [if_neg hh]
      exact ⟨[], rfl, .inl ⟨rfl, by simpa using hh⟩⟩
  obtain ⟨pre, hl, hp⟩ := hpre
  have hj := cut_join (strip s.data.toList)
  unfold decB at h
  simp only [Bool.and_eq_true] at h
  obtain ⟨⟨h1, _⟩, h3⟩ := h
  obtain ⟨a1, a2, a3⟩ := digs_of h1
  unfold decF
  generalize hT : strip s.data.toList = T at *
  generalize hH : headD T = H at *
  generalize hP : tailD T = P at *
  generalize (s.data.toList.head? == some 45) = neg at *
  by_cases hdot : dotB T = true
  · rw [if_pos hdot] at hj
    rw [hdot] at h3
    simp only [Bool.not_true, Bool.false_or] at h3
    obtain ⟨b1, b2, b3⟩ := digs_of h3
    have hl2 : s.data.toList = pre ++ (H ++ 46 :: P) := by rw [hl, hj]
    have hs : s.size = pre.length + (H.length + (P.length + 1)) := by rw [← hsz, hl2]; simp
    have hV : dv s pre.length (pre.length + H.length) (s.size - pre.length) = val (H ++ P) := by
      have := dv_tail s pre H P hl2 P.length (Nat.le_refl _)
      rw [List.take_length] at this
      rw [← this]
      congr 1
      omega
    have hlt : val (H ++ P) < 10 ^ (H.length + P.length) := val_lt _ _ (by simp) (fun c hc => (List.mem_append.1 hc).elim (a3 c) (b3 c))
    have h15 : 10 ^ (H.length + P.length) ≤ 10 ^ 15 := Nat.pow_le_pow_right (by omega) (by omega)
    have e15 : (10 : Nat) ^ 15 = 1000000000000000 := by decide +kernel
    have hD : Decs s pre.length (pre.length + H.length) := by
      refine ⟨by omega, by omega, ?_, fun k hk1 hk2 hk3 => ?_, fun _ => ?_⟩
      · rcases hp with ⟨e, _⟩ | ⟨e, _⟩ <;> omega
      · by_cases hlt : k < pre.length + H.length
        · have := (bt_list s pre H _ hl2 (k - pre.length)).1 (by omega)
          rw [show pre.length + (k - pre.length) = k from by omega] at this
          rw [this]
          exact dig_bt (a3 _ (getD_mem (by omega)))
        · have := (bt_list s pre H _ hl2 (k - pre.length - H.length)).2
          rw [show pre.length + H.length + (k - pre.length - H.length) = k from by omega, show k - pre.length - H.length = (k - pre.length - H.length - 1) + 1 from by omega] at this
          rw [this, List.getD_cons_succ]
          exact dig_bt (b3 _ (getD_mem (by omega)))
      · have := (bt_list s pre H _ hl2 0).2
        rw [Nat.add_zero] at this
        rw [this]
        rfl
    refine ⟨pre.length, pre.length + H.length, val (H ++ P), P.length, ?_, hD, hV.symm, b2, by omega, ?_, rfl⟩
    · rcases hp with ⟨e, h⟩ | ⟨e, h⟩
      · exact .inl ⟨e, h⟩
      · exact .inr ⟨e, h⟩
    · unfold rfExp
      rw [hV]
      split
      · rfl
      · rw [if_pos (by omega)]
        omega
  · have hdf : dotB T = false := by simpa using hdot
    rw [if_neg hdot, List.append_nil] at hj
    have hP0 : P = [] := by rw [← hP]; exact tail_nil hdf
    subst hP0
    have hl2 : s.data.toList = pre ++ (H ++ []) := by rw [hl, List.append_nil, ← hj]
    have hs : s.size = pre.length + H.length := by rw [← hsz, hl2]; simp
    have hV : dv s pre.length (pre.length + H.length) (s.size - pre.length) = val (H ++ []) := by
      have := dv_head s pre H [] hl2 H.length (Nat.le_refl _)
      rw [List.take_length] at this
      rw [List.append_nil, ← this]
      congr 1
      omega
    have hlt : val H < 10 ^ H.length := val_lt _ _ rfl a3
    have h15 : 10 ^ H.length ≤ 10 ^ 15 := Nat.pow_le_pow_right (by omega) (by omega)
    have e15 : (10 : Nat) ^ 15 = 1000000000000000 := by decide +kernel
    have hD : Decs s pre.length (pre.length + H.length) := by
      refine ⟨by omega, by omega, ?_, fun k hk1 hk2 hk3 => ?_, fun h => absurd h (by omega)⟩
      · rcases hp with ⟨e, _⟩ | ⟨e, _⟩ <;> omega
      · have := (bt_list s pre H _ hl2 (k - pre.length)).1 (by omega)
        rw [show pre.length + (k - pre.length) = k from by omega] at this
        rw [this]
        exact dig_bt (a3 _ (getD_mem (by omega)))
    refine ⟨pre.length, pre.length + H.length, val (H ++ []), 0, ?_, hD, hV.symm, by omega, by rw [List.append_nil]; omega, ?_, rfl⟩
    · rcases hp with ⟨e, h⟩ | ⟨e, h⟩
      · exact .inl ⟨e, h⟩
      · exact .inr ⟨e, h⟩
    · unfold rfExp
      rw [hV]
      split
      · rfl
      · rw [if_neg (by omega)]
        rfl
end Go.Proofs.YtkhflfkedpkelaaGreatDoor.lx
