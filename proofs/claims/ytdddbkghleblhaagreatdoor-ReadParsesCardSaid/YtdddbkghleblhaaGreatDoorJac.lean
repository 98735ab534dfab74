import Derived.Test.YtdddbkghleblhaaGreatDoorJab
import Derived.Laws.Runes
import Derived.Lib.Bytealg
import Derived.Deep.RegionHeld3
namespace Go.Proofs.YtdddbkghleblhaaGreatDoor.lx
open Go.ChangeShapes Go.WideShapes Go.ChangeAt Go.RowKit
set_option linter.unusedVariables false
attribute [local go_sem] get_lit x_index
theorem ext_list (s : ByteArray) (i j : Nat) : (s.extract i j).data.toList = (s.data.toList.drop i).take (j - i) := by
  simp [ByteArray.data_extract, List.extract_eq_take_drop]
theorem list_data (s : ByteArray) : s.data.toList = s.toList := (ByteArray.toList_eq s).symm
theorem all_take_succ (p : UInt8 → Bool) (s : ByteArray) (k : Nat) (h : k < s.size) : (s.data.toList.take (k + 1)).all p = ((s.data.toList.take k).all p && p s[k]) := by
  rw [List.take_succ_eq_append_getElem (by simpa using h), List.all_append]
  simp
  rfl
set_option maxRecDepth 100000 in
set_option maxHeartbeats 1000000 in
theorem isdigits_any (s : ByteArray) (hs : s.size ≤ maxLen) (most : Nat) (hm : most ≤ 100) (w : World) : Calls Tryz.prog 71 #[.string s, .int .i64 most] w fun e w' => e = .returned (.bool (digsB s.data.toList most)) ∧ w = w' := by
  unfold maxLen at hs
  have hl : s.data.toList.length = s.size := by simp
  by_cases h1 : s.size < 1
  · have e : digsB s.data.toList most = false := by
      unfold digsB
      rw [hl, decide_eq_false (by omega)]
      simp
    rw [e]
    clear e hl
    go_enter Tryz.func71, Tryz.ntmps71
    go_wp2_with fail
    go_ret
    exact ⟨rfl, rfl⟩
  · by_cases h2 : s.size > most
    · have e : digsB s.data.toList most = false := by
        unfold digsB
        rw [hl, decide_eq_false (show ¬ s.size ≤ most by omega)]
        simp
      rw [e]
      clear e hl
      go_enter Tryz.func71, Tryz.ntmps71
      go_wp2_with fail
      go_ret
      exact ⟨rfl, rfl⟩
    · have e : digsB s.data.toList most = s.data.toList.all digB := by
        unfold digsB
        rw [hl, decide_eq_true (show 1 ≤ s.size by omega), decide_eq_true (show s.size ≤ most by omega)]
        simp
      rw [e]
      have HL := Lib.hid hl
      clear e hl
      obtain ⟨z, hz⟩ : ∃ z, s.data.toList.all digB = z := ⟨_, rfl⟩
      rw [hz]
      have HZ := Lib.hid hz
      clear hz
      go_enter Tryz.func71, Tryz.ntmps71
      go_wp2_with fail
      go_loop [5] (fun i => ∃ k : Nat, k ≤ s.size ∧ i = .int .i64 k ∧ (s.data.toList.take k).all digB = true) (fun i => s.size - (intOf i).toNat)
      case atStart => exact ⟨0, Nat.zero_le _, rfl, by simp⟩
      case round =>
        obtain ⟨k, hk, rfl, hall⟩ := hrel
        have HA := Lib.hid hall
        clear hall
        by_cases hlt : k < s.size
        · have HT := Lib.hid (all_take_succ digB s k hlt)
          have HD := Lib.hid (dig_n s[k])
          have hno : s[k].toNat < 48 ∨ 57 < s[k].toNat → z = false := fun h => by
            rw [← HZ.out]
            have hd : digB s[k] = false := by
              rw [HD.out]
              unfold digN
              rw [decide_eq_false_iff_not]
              omega
            rw [Bool.eq_false_iff]
            intro ha
            have := List.all_eq_true.1 ha s[k] (by simp [ByteArray.getElem_eq_getElem_data])
            rw [hd] at this
            cases this
          have HN := Lib.hid hno
          clear hno
          by_cases h3 : s[k].toNat < 48
          · go_wp2_with fail
            go_ret
            exact ⟨ret_bool (HN.out (.inl h3)).symm, rfl⟩
          · by_cases h4 : 57 < s[k].toNat
            · go_wp2_with fail
              go_ret
              exact ⟨ret_bool (HN.out (.inr h4)).symm, rfl⟩
            · go_wp2_with fail
              go_round
              case rel =>
                refine ⟨k + 1, hlt, by go_num, ?_⟩
                rw [HT.out, HA.out, HD.out]
                unfold digN
                rw [decide_eq_true (by omega)]
                rfl
              case measure => simp [intOf]; omega
        · obtain rfl : k = s.size := by omega
          go_wp2_with fail
          go_ret
          have := HA.out
          rw [List.take_of_length_le (by rw [HL.out]; omega)] at this
          exact ⟨ret_bool (by rw [← HZ.out, this]), rfl⟩
set_option maxRecDepth 100000 in
set_option maxHeartbeats 1000000 in
theorem index1 (s : ByteArray) (w : World) : Calls Tryz.prog 83 #[.string s, .string ⟨#[46]⟩] w fun e w' => e = .returned (.int .i64 (firstIdx s 46)) ∧ w = w' := by
  by_cases h : (⟨#[46]⟩ : ByteArray) = s
  · subst h
    have e : firstIdx ⟨#[46]⟩ 46 = 0 := by decide +kernel
    rw [e]
    go_enter Tryz.func83, Tryz.ntmps83
    go_wp2_with fail
    go_ret
    exact ⟨rfl, rfl⟩
  · have hb : ([46] == s.toList) = false := by
      rw [beq_eq_false_iff_ne]
      intro e
      exact h (ByteArray.ext (by rw [← Array.toList_inj]; rw [← list_data] at e; exact e))
    clear h
    go_enter Tryz.func83, Tryz.ntmps83
    go_wp2
    go_ret
    exact ⟨rfl, rfl⟩
theorem list_nil (s : ByteArray) (h : s.size < 1) : s.data.toList = [] := by
  rw [← List.length_eq_zero_iff]
  have : s.data.toList.length = s.size := by simp
  omega
def StrIs (l : List UInt8) (e : Ending) : Prop := ∃ t : ByteArray, e = .returned (.string t) ∧ t.data.toList = l
set_option maxRecDepth 100000 in
set_option maxHeartbeats 1000000 in
theorem trim_any (s : ByteArray) (hs : s.size ≤ maxLen) (w : World) : Calls Tryz.prog 70 #[.string s, .string ⟨#[45]⟩] w fun e w' => StrIs (strip s.data.toList) e ∧ w = w' := by
  unfold maxLen at hs
  by_cases h1 : s.size < 1
  · have e : StrIs (strip s.data.toList) (.returned (.string s)) := ⟨s, rfl, by
      rw [list_nil s h1]
      rfl⟩
    have HE := Lib.hid e
    clear e
    go_enter Tryz.func70, Tryz.ntmps70
    go_wp2
    go_ret
    exact ⟨HE.out, rfl⟩
  · have hd := bytes_drop s 0 (by omega)
    rw [List.drop_zero] at hd
    have h01 : (s.extract 0 1).toList = [s[0]] := by
      rw [← list_data, ext_list, hd]
      rfl
    by_cases h2 : s[0] = 45
    · have e : StrIs (strip s.data.toList) (.returned (.string (s.extract 1 s.size))) := ⟨_, rfl, by
        rw [ext_list, hd, h2]
        unfold strip
        have : (s.data.toList.drop (0 + 1)).length = s.size - 1 := by simp
        rw [if_pos (by rfl), List.drop_succ_cons, List.drop_zero, List.tail_cons]
        exact List.take_of_length_le (by omega)⟩
      have hb : ((s.extract 0 1).toList == [45]) = true := by rw [h01, h2]; rfl
      have HE := Lib.hid e
      clear e h01 h2 hd
      go_enter Tryz.func70, Tryz.ntmps70
      go_wp2
      go_ret
      exact ⟨HE.out, rfl⟩
    · have e : StrIs (strip s.data.toList) (.returned (.string s)) := ⟨s, rfl, by
        rw [hd]
        unfold strip
        simp [h2]⟩
      have hb : ((s.extract 0 1).toList == [45]) = false := by
        rw [h01, beq_eq_false_iff_ne]
        intro e
        exact h2 (by simpa using e)
      have HE := Lib.hid e
      clear e h01 h2 hd
      go_enter Tryz.func70, Tryz.ntmps70
      go_wp2
      go_ret
      exact ⟨HE.out, rfl⟩
/-- nothing but draws -/
def Qt (w w' : World) : Prop := ∃ n, w' = w.drewN n
theorem Qt.refl (w : World) : Qt w w := ⟨0, rfl⟩
theorem Qt.below {w w' : World} (h : Qt w w') {B : Nat} : Below B w w' := by
  obtain ⟨n, rfl⟩ := h
  exact ⟨rfl, rfl, rfl, Nat.le_refl _, fun _ _ => rfl⟩
/-- ahead of the first point, and behind it -/
def CutIs (l : List UInt8) (e : Ending) : Prop := ∃ a b : ByteArray, e = .returned (.tuple #[.string a, .string b, .bool (dotB l)]) ∧ a.data.toList = headD l ∧ b.data.toList = tailD l
theorem first_at : ∀ (l : List UInt8), (Lib.indexByte l 46 = -1 ∧ dotB l = false ∧ headD l = l ∧ tailD l = []) ∨ ∃ k : Nat, k < l.length ∧ Lib.indexByte l 46 = k ∧ dotB l = true ∧ headD l = l.take k ∧ tailD l = l.drop (k + 1)
  | [] => .inl ⟨rfl, rfl, rfl, rfl⟩
  | c :: l => by
    by_cases hc : c = 46
    · subst hc
      refine .inr ⟨0, by simp, by simp [Lib.indexByte], by simp [dotB], by simp [headD], by simp [tailD]⟩
    · have hc2 : (c != 46) = true := by simpa using hc
      have hc3 : (46 == c) = false := by simpa using fun e => hc e.symm
      rcases first_at l with ⟨h1, h2, h3, h4⟩ | ⟨k, hk, h1, h2, h3, h4⟩
      · refine .inl ⟨by simp [Lib.indexByte, hc, h1], ?_, ?_, ?_⟩
        · unfold dotB at h2 ⊢
          simp only [List.contains_cons, h2, hc3, Bool.or_false]
        · unfold headD at h3 ⊢
          rw [List.takeWhile_cons_of_pos (p := fun c => c != 46) hc2, h3]
        · unfold tailD at h4 ⊢
          rw [List.dropWhile_cons_of_pos (p := fun c => c != 46) hc2, h4]
      · refine .inr ⟨k + 1, by simp; omega, by simp [Lib.indexByte, hc, h1], ?_, ?_, ?_⟩
        · unfold dotB at h2 ⊢
          simp only [List.contains_cons, h2, Bool.or_true]
        · unfold headD at h3 ⊢
          rw [List.takeWhile_cons_of_pos (p := fun c => c != 46) hc2, h3]
          rfl
        · unfold tailD at h4 ⊢
          rw [List.dropWhile_cons_of_pos (p := fun c => c != 46) hc2, h4]
          rfl
set_option maxRecDepth 100000 in
set_option maxHeartbeats 1000000 in
theorem cut_any (s : ByteArray) (hs : s.size ≤ maxLen) (w : World) : Calls Tryz.prog 69 #[.string s, .string ⟨#[46]⟩] w fun e w' => CutIs s.data.toList e ∧ Qt w w' := by
  unfold maxLen at hs
  have hi := index1 s w
  rw [Lib.firstIdx_eq] at hi
  have hl : s.data.toList.length = s.size := by simp
  rcases first_at s.data.toList with ⟨h1, h2, h3, h4⟩ | ⟨k, hk, h1, h2, h3, h4⟩
  · have e : CutIs s.data.toList (.returned (.tuple #[.string s, .string ⟨#[]⟩, .bool false])) := ⟨s, ⟨#[]⟩, by rw [h2], h3.symm, h4.symm⟩
    rw [h1] at hi
    have HE := Lib.hid e
    clear e h1 h2 h3 h4 hl
    go_enter Tryz.func69, Tryz.ntmps69
    go_wp2_with (first | (go_at_call 83; refine hi.mono ?_; rintro e w1 ⟨rfl, rfl⟩) | (go_at_call 76; go_in))
    go_ret3
    exact ⟨HE.out, Qt.refl _⟩
  · have e : CutIs s.data.toList (.returned (.tuple #[.string (s.extract 0 k), .string (s.extract (k + 1) s.size), .bool true])) := ⟨_, _, by rw [h2], by
      rw [ext_list, h3, List.drop_zero, Nat.sub_zero], by
      rw [ext_list, h4, List.take_of_length_le (by rw [List.length_drop]; omega)]⟩
    rw [h1] at hi
    rw [hl] at hk
    have HE := Lib.hid e
    clear e h1 h2 h3 h4 hl
    go_enter Tryz.func69, Tryz.ntmps69
    go_wp2_with (first | (go_at_call 83; refine hi.mono ?_; rintro e w1 ⟨rfl, rfl⟩) | (go_at_call 76; go_in))
    have s1 : IntKind.i64.wrap ((k : Int) + 1) = (k : Int) + 1 := IntWalk.i64_in _ (by omega)
    have s2 : (0 : Int) ≤ (k : Int) + 1 := by omega
    have s3 : ((k : Int) + 1).toNat = k + 1 := by omega
    have s4 : (k : Int) + 1 ≤ s.size := by omega
    go_quiet (fail)
    clear s1 s2 s3 s4
    go_wp2
    go_ret3
    exact ⟨HE.out, _, rfl⟩
end Go.Proofs.YtdddbkghleblhaaGreatDoor.lx
namespace Go.Proofs.YtdddbkghleblhaaGreatDoor.lx
open Go.ChangeShapes Go.WideShapes Go.ChangeAt Go.RowKit
set_option linter.unusedVariables false
theorem val_snoc (l : List UInt8) (c : UInt8) : val (l ++ [c]) = 10 * val l + (c.toNat - 48) := by
  unfold val
  rw [List.foldl_append]
  rfl
theorem val_lt : ∀ (n : Nat) (l : List UInt8), l.length = n → (∀ c ∈ l, digB c = true) → val l < 10 ^ n
  | 0, l, h, _ => by
    rw [List.length_eq_zero_iff.1 h]
    simp [val]
  | n + 1, l, h, hd => by
    have hne : l ≠ [] := by rintro rfl; cases h
    have e := List.dropLast_concat_getLast hne
    have hl : l.dropLast.length = n := by rw [List.length_dropLast, h]; rfl
    have ih := val_lt n l.dropLast hl (fun c hc => hd c (List.dropLast_subset _ hc))
    have hg := hd _ (List.getLast_mem hne)
    rw [dig_n] at hg
    unfold digN at hg
    rw [decide_eq_true_iff] at hg
    rw [← e, val_snoc, Nat.pow_succ]
    omega
theorem cut_join : ∀ (l : List UInt8), l = headD l ++ (if dotB l = true then 46 :: tailD l else [])
  | [] => rfl
  | c :: l => by
    by_cases hc : c = 46
    · subst hc
      simp [headD, tailD, dotB]
    · have hc2 : (c != 46) = true := by simpa using hc
      have hc3 : (46 == c) = false := by simpa using fun e => hc e.symm
      have e1 : headD (c :: l) = c :: headD l := by
        unfold headD
        rw [List.takeWhile_cons_of_pos (p := fun c => c != 46) hc2]
      have e2 : tailD (c :: l) = tailD l := by
        unfold tailD
        rw [List.dropWhile_cons_of_pos (p := fun c => c != 46) hc2]
      have e3 : dotB (c :: l) = dotB l := by
        unfold dotB
        simp only [List.contains_cons, hc3, Bool.false_or]
      rw [e1, e2, e3, List.cons_append, ← cut_join l]
theorem tail_nil {l : List UInt8} (h : dotB l = false) : tailD l = [] := by
  rcases first_at l with ⟨_, _, _, h4⟩ | ⟨k, _, _, h2, _⟩
  · exact h4
  · rw [h] at h2; cases h2
theorem digs_of {l : List UInt8} {m : Nat} (h : digsB l m = true) : 1 ≤ l.length ∧ l.length ≤ m ∧ ∀ c ∈ l, digB c = true := by
  unfold digsB at h
  simp only [Bool.and_eq_true, decide_eq_true_iff] at h
  exact ⟨h.1.1, h.1.2, fun c hc => List.all_eq_true.1 h.2 c hc⟩
theorem dig_bt {c : UInt8} (h : digB c = true) : 48 ≤ c.toNat ∧ c.toNat ≤ 57 := by
  rw [dig_n] at h
  unfold digN at h
  rwa [decide_eq_true_iff] at h
/-- what stands at a place -/
theorem bt_list (s : ByteArray) (pre H R : List UInt8) (h : s.data.toList = pre ++ (H ++ R)) (i : Nat) : (i < H.length → bt s (pre.length + i) = (H.getD i 0).toNat) ∧ bt s (pre.length + H.length + i) = (R.getD i 0).toNat := by
  refine ⟨fun hi => ?_, ?_⟩
  · unfold bt
    rw [h, List.getD_eq_getElem?_getD, List.getD_eq_getElem?_getD, List.getElem?_append_right (by omega), show pre.length + i - pre.length = i from by omega, List.getElem?_append_left hi]
  · unfold bt
    rw [h, List.getD_eq_getElem?_getD, List.getD_eq_getElem?_getD, List.getElem?_append_right (by omega), show pre.length + H.length + i - pre.length = H.length + i from by omega, List.getElem?_append_right (by omega), show H.length + i - H.length = i from by omega]
theorem getD_mem {l : List UInt8} {i : Nat} (h : i < l.length) : l.getD i 0 ∈ l := by
  rw [List.getD_eq_getElem?_getD, List.getElem?_eq_getElem h]
  exact List.getElem_mem h
theorem take_snoc (l : List UInt8) (i : Nat) (h : i < l.length) : l.take (i + 1) = l.take i ++ [l.getD i 0] := by
  rw [List.take_succ_eq_append_getElem h, List.getD_eq_getElem?_getD, List.getElem?_eq_getElem h]
  rfl
theorem dv_head (s : ByteArray) (pre H R : List UInt8) (h : s.data.toList = pre ++ (H ++ R)) : ∀ n, n ≤ H.length → dv s pre.length (pre.length + H.length) n = val (H.take n)
  | 0, _ => by simp [dv, val]
  | n + 1, hn => by
    rw [dv_s, if_neg (by omega), dv_head s pre H R h n (by omega), (bt_list s pre H R h n).1 (by omega), take_snoc H n (by omega), val_snoc]
theorem dv_tail (s : ByteArray) (pre H P : List UInt8) (h : s.data.toList = pre ++ (H ++ 46 :: P)) : ∀ n, n ≤ P.length → dv s pre.length (pre.length + H.length) (H.length + 1 + n) = val (H ++ P.take n)
  | 0, _ => by
    rw [Nat.add_zero, dv_s, if_pos rfl, dv_head s pre H _ h _ (Nat.le_refl _)]
    simp
  | n + 1, hn => by
    rw [show H.length + 1 + (n + 1) = (H.length + 1 + n) + 1 from by omega, dv_s, if_neg (by omega), dv_tail s pre H P h n (by omega)]
    have hb := (bt_list s pre H _ h (n + 1)).2
    rw [show pre.length + H.length + (n + 1) = pre.length + (H.length + 1 + n) from by omega] at hb
    rw [hb, take_snoc P n (by omega), ← List.append_assoc, val_snoc]
    simp
/-- a weight's text that is told by digits -/
theorem dec_shape (s : ByteArray) (h : decB s.data.toList = true) : ∃ (p d : Nat) (V k : Nat), ((p = 0 ∧ (s.data.toList.head? == some 45) = false) ∨ (p = 1 ∧ (s.data.toList.head? == some 45) = true ∧ bt s 0 = 45)) ∧ Decs s p d ∧ V = dv s p d (s.size - p) ∧ k ≤ 6 ∧ V < 1000000000000000 ∧ rfExp s p d = (if V = 0 then 0 else -(k : Int)) ∧ decF s.data.toList = flo.wt (s.data.toList.head? == some 45) V k := by
  have hsz : s.data.toList.length = s.size := by simp
  have hpre : ∃ pre : List UInt8, s.data.toList = pre ++ strip s.data.toList ∧ ((pre.length = 0 ∧ (s.data.toList.head? == some 45) = false) ∨ (pre.length = 1 ∧ (s.data.toList.head? == some 45) = true ∧ bt s 0 = 45)) := by
    unfold strip
    by_cases hh : s.data.toList.head? = some 45
    · rw [if_pos hh]
      refine ⟨[45], ?_, .inr ⟨rfl, by rw [hh]; rfl, ?_⟩⟩
      · cases hl : s.data.toList with
        | nil => rw [hl] at hh; cases hh
        | cons c l => rw [hl] at hh; simp at hh; rw [hh]; rfl
      · unfold bt
        cases hl : s.data.toList with
        | nil => rw [hl] at hh; cases hh
        | cons c l => rw [hl] at hh; simp at hh; rw [hh]; rfl
    · rw [if_neg hh]
      exact ⟨[], rfl, .inl ⟨rfl, by simpa using hh⟩⟩
  obtain ⟨pre, hl, hp⟩ := hpre
  have hj := cut_join (strip s.data.toList)
  unfold decB at h
  simp only [Bool.and_eq_true] at h
  obtain ⟨⟨h1, _⟩, h3⟩ := h
  obtain ⟨a1, a2, a3⟩ := digs_of h1
  unfold decF
  generalize hT : strip s.data.toList = T at *
  generalize hH : headD T = H at *
  generalize hP : tailD T = P at *
  generalize (s.data.toList.head? == some 45) = neg at *
  by_cases hdot : dotB T = true
  · rw [if_pos hdot] at hj
    rw [hdot] at h3
    simp only [Bool.not_true, Bool.false_or] at h3
    obtain ⟨b1, b2, b3⟩ := digs_of h3
    have hl2 : s.data.toList = pre ++ (H ++ 46 :: P) := by rw [hl, hj]
    have hs : s.size = pre.length + (H.length + (P.length + 1)) := by rw [← hsz, hl2]; simp
    have hV : dv s pre.length (pre.length + H.length) (s.size - pre.length) = val (H ++ P) := by
      have := dv_tail s pre H P hl2 P.length (Nat.le_refl _)
      rw [List.take_length] at this
      rw [← this]
      congr 1
      omega
    have hlt : val (H ++ P) < 10 ^ (H.length + P.length) := val_lt _ _ (by simp) (fun c hc => (List.mem_append.1 hc).elim (a3 c) (b3 c))
    have h15 : 10 ^ (H.length + P.length) ≤ 10 ^ 15 := Nat.pow_le_pow_right (by omega) (by omega)
    have e15 : (10 : Nat) ^ 15 = 1000000000000000 := by decide +kernel
    have hD : Decs s pre.length (pre.length + H.length) := by
      refine ⟨by omega, by omega, ?_, fun k hk1 hk2 hk3 => ?_, fun _ => ?_⟩
      · rcases hp with ⟨e, _⟩ | ⟨e, _⟩ <;> omega
      · by_cases hlt : k < pre.length + H.length
        · have := (bt_list s pre H _ hl2 (k - pre.length)).1 (by omega)
          rw [show pre.length + (k - pre.length) = k from by omega] at this
          rw [this]
          exact dig_bt (a3 _ (getD_mem (by omega)))
        · have := (bt_list s pre H _ hl2 (k - pre.length - H.length)).2
          rw [show pre.length + H.length + (k - pre.length - H.length) = k from by omega, show k - pre.length - H.length = (k - pre.length - H.length - 1) + 1 from by omega] at this
          rw [this, List.getD_cons_succ]
          exact dig_bt (b3 _ (getD_mem (by omega)))
      · have := (bt_list s pre H _ hl2 0).2
        rw [Nat.add_zero] at this
        rw [this]
        rfl
    refine ⟨pre.length, pre.length + H.length, val (H ++ P), P.length, ?_, hD, hV.symm, b2, by omega, ?_, rfl⟩
    · rcases hp with ⟨e, h⟩ | ⟨e, h⟩
      · exact .inl ⟨e, h⟩
      · exact .inr ⟨e, h⟩
    · unfold rfExp
      rw [hV]
      split
      · rfl
      · rw [if_pos (by omega)]
        omega
  · have hdf : dotB T = false := by simpa using hdot
    rw [if_neg hdot, List.append_nil] at hj
    have hP0 : P = [] := by rw [← hP]; exact tail_nil hdf
    subst hP0
    have hl2 : s.data.toList = pre ++ (H ++ []) := by rw [hl, List.append_nil, ← hj]
    have hs : s.size = pre.length + H.length := by rw [← hsz, hl2]; simp
    have hV : dv s pre.length (pre.length + H.length) (s.size - pre.length) = val (H ++ []) := by
      have := dv_head s pre H [] hl2 H.length (Nat.le_refl _)
      rw [List.take_length] at this
      rw [List.append_nil, ← this]
      congr 1
      omega
    have hlt : val H < 10 ^ H.length := val_lt _ _ rfl a3
    have h15 : 10 ^ H.length ≤ 10 ^ 15 := Nat.pow_le_pow_right (by omega) (by omega)
    have e15 : (10 : Nat) ^ 15 = 1000000000000000 := by decide +kernel
    have hD : Decs s pre.length (pre.length + H.length) := by
      refine ⟨by omega, by omega, ?_, fun k hk1 hk2 hk3 => ?_, fun h => absurd h (by omega)⟩
      · rcases hp with ⟨e, _⟩ | ⟨e, _⟩ <;> omega
      · have := (bt_list s pre H _ hl2 (k - pre.length)).1 (by omega)
        rw [show pre.length + (k - pre.length) = k from by omega] at this
        rw [this]
        exact dig_bt (a3 _ (getD_mem (by omega)))
    refine ⟨pre.length, pre.length + H.length, val (H ++ []), 0, ?_, hD, hV.symm, by omega, by rw [List.append_nil]; omega, ?_, rfl⟩
    · rcases hp with ⟨e, h⟩ | ⟨e, h⟩
      · exact .inl ⟨e, h⟩
      · exact .inr ⟨e, h⟩
    · unfold rfExp
      rw [hV]
      split
      · rfl
      · rw [if_neg (by omega)]
        rfl
end Go.Proofs.YtdddbkghleblhaaGreatDoor.lx
namespace Go.Proofs.YtdddbkghleblhaaGreatDoor.lx
open Go.ChangeShapes Go.WideShapes Go.ChangeAt Go.RowKit
set_option linter.unusedVariables false
theorem strip_len (l : List UInt8) : (strip l).length ≤ l.length := by
  unfold strip
  split
  · simp
  · exact Nat.le_refl _
theorem headD_len (l : List UInt8) : (headD l).length ≤ l.length := by
  unfold headD
  exact (List.takeWhile_sublist _).length_le
theorem tailD_len (l : List UInt8) : (tailD l).length ≤ l.length := by
  unfold tailD
  have := (List.dropWhile_sublist (l := l) (fun c => c != 46)).length_le
  simp
  omega
theorem Qt.trans {a b c : World} (h : Qt a b) (k : Qt b c) : Qt a c := by
  obtain ⟨n, rfl⟩ := h
  obtain ⟨m, rfl⟩ := k
  exact ⟨n + m, by simp [World.drewN, Nat.add_assoc]⟩
theorem head_at (s : ByteArray) (h : 0 < s.size) : s.data.toList.head? = some s[0] := by
  have := bytes_drop s 0 h
  rw [List.drop_zero] at this
  rw [this]
  rfl
set_option maxRecDepth 100000 in
set_option maxHeartbeats 2000000 in
theorem isdecimal_any (s : ByteArray) (hs : s.size ≤ maxLen) (w : World) : Calls Tryz.prog 64 #[.string s] w fun e w' => e = .returned (.bool (decB s.data.toList)) ∧ Qt w w' := by
  have ht := trim_any s hs w
  have hc := fun (t : ByteArray) (h : t.size ≤ maxLen) => cut_any t h w
  have hsl : s.data.toList.length = s.size := by simp
  have HE : Hid (decB s.data.toList = (digsB (headD (strip s.data.toList)) 9 && !(decide (1 < (headD (strip s.data.toList)).length) && (headD (strip s.data.toList)).head? == some 48) && (!dotB (strip s.data.toList) || digsB (tailD (strip s.data.toList)) 6))) := Lib.hid rfl
  have hTl := strip_len s.data.toList
  rw [hsl] at hTl
  generalize strip s.data.toList = T at *
  have hHl := headD_len T
  have hPl := tailD_len T
  generalize decB s.data.toList = z at *
  have HC := Lib.hid hc
  clear hc hsl
  go_enter Tryz.func64, Tryz.ntmps64
  go_wp2_with fail
  refine ht.mono ?_
  rintro e w1 ⟨⟨t, rfl, ht1⟩, rfl⟩
  clear ht
  have htl : t.size = T.length := by rw [← ht1]; simp
  have hcc := HC.out t (by omega)
  rw [ht1] at hcc
  have HT := Lib.hid ht1
  have HTL := Lib.hid htl
  clear ht1 htl
  go_wp2_with fail
  refine hcc.mono ?_
  rintro e w2 ⟨⟨a, b, rfl, ha, hb⟩, hq⟩
  clear hcc
  have hal : a.size = (headD T).length := by rw [← ha]; simp
  have hbl : b.size = (tailD T).length := by rw [← hb]; simp
  have HQ := Lib.hid hq
  have dg := fun w => isdigits_any a (by omega) 9 (by omega) w
  have dp := fun w => isdigits_any b (by omega) 6 (by omega) w
  rw [ha] at dg
  rw [hb] at dp
  have HHl : Hid ((headD T).length = a.size) := Lib.hid hal.symm
  have hha : 0 < a.size → (headD T).head? = a.data.toList.head? := fun _ => by rw [ha]
  generalize headD T = H at *
  generalize tailD T = P at *
  generalize dotB T = dt at *
  have has : a.size ≤ 9223372036854775807 := by unfold maxLen at hs; omega
  have HA := Lib.hid hha
  clear hq ha hb hal hbl hHl hPl hTl hha hs
  cases h9 : digsB H 9
  · rw [h9] at dg HE
    have HZ : Hid (z = false) := Lib.hid (by rw [HE.out]; rfl)
    clear h9 HE dp
    go_wp2_with (go_at_call 71; refine (dg _).mono ?_; rintro e w3 ⟨rfl, rfl⟩)
    go_ret
    exact ⟨ret_bool HZ.out.symm, HQ.out⟩
  · rw [h9] at dg HE
    clear h9
    have hz0 : ∀ x : Bool, (decide (1 < H.length) && H.head? == some 48) = x → z = (!x && (!dt || digsB P 6)) := fun x hx => by rw [HE.out, hx]; simp
    have HZ0 := Lib.hid hz0
    clear hz0 HE
    by_cases h1 : 1 < a.size
    · by_cases h2 : a[0].toNat = 48
      · have k1 : ((a[0].toNat : Int) == 48) = true := by rw [h2]; rfl
        have HZ : Hid (z = false) := Lib.hid (by
          rw [HZ0.out true (by
            rw [HHl.out, decide_eq_true h1, HA.out (by omega), head_at a (by omega)]
            have : a[0] = 48 := UInt8.toNat_inj.1 h2
            rw [this]
            rfl)]
          rfl)
        clear h2 dp HZ0
        go_wp2_with (go_at_call 71; refine (dg _).mono ?_; rintro e w3 ⟨rfl, rfl⟩)
        go_ret
        exact ⟨ret_bool HZ.out.symm, HQ.out⟩
      · have k1 : ((a[0].toNat : Int) == 48) = false := by rw [beq_eq_false_iff_ne]; omega
        have HZ1 : Hid (z = (!false && (!dt || digsB P 6))) := Lib.hid (HZ0.out false (by
            rw [HHl.out, decide_eq_true h1, HA.out (by omega), head_at a (by omega)]
            rw [Bool.true_and, beq_eq_false_iff_ne]
            intro e
            have e2 := Option.some.inj e
            rw [e2] at h2
            exact h2 rfl))
        clear h2 HZ0
        cases dt
        · have HZ : Hid (z = true) := Lib.hid (by rw [HZ1.out]; rfl)
          clear HZ1 dp
          go_wp2_with (go_at_call 71; refine (dg _).mono ?_; rintro e w3 ⟨rfl, rfl⟩)
          go_ret
          exact ⟨ret_bool HZ.out.symm, HQ.out⟩
        · have HZ : Hid (z = digsB P 6) := Lib.hid (by rw [HZ1.out]; simp)
          clear HZ1
          go_wp2_with fail
          refine (dg _).mono ?_
          rintro e w3 ⟨rfl, rfl⟩
          clear dg
          go_wp2_with fail
          refine (dp _).mono ?_
          rintro e w4 ⟨rfl, rfl⟩
          clear dp
          go_wp2_with fail
          go_ret
          exact ⟨ret_bool HZ.out.symm, HQ.out⟩
    · have HZ1 : Hid (z = (!false && (!dt || digsB P 6))) := Lib.hid (HZ0.out false (by
          rw [HHl.out, decide_eq_false h1]
          rfl))
      clear HZ0
      cases dt
      · have HZ : Hid (z = true) := Lib.hid (by rw [HZ1.out]; rfl)
        clear HZ1 dp
        go_wp2_with (go_at_call 71; refine (dg _).mono ?_; rintro e w3 ⟨rfl, rfl⟩)
        go_ret
        exact ⟨ret_bool HZ.out.symm, HQ.out⟩
      · have HZ : Hid (z = digsB P 6) := Lib.hid (by rw [HZ1.out]; simp)
        clear HZ1
        go_wp2_with fail
        refine (dg _).mono ?_
        rintro e w3 ⟨rfl, rfl⟩
        clear dg
        go_wp2_with fail
        refine (dp _).mono ?_
        rintro e w4 ⟨rfl, rfl⟩
        clear dp
        go_wp2_with fail
        go_ret
        exact ⟨ret_bool HZ.out.symm, HQ.out⟩
/-! the number of a text -/
attribute [local go_sem] x_sfrombits x_frombits
theorem bool2_f (w : World) : Calls Tryz.prog 102 #[.bool false] w fun e w' => e = .returned (.int .u64 0) ∧ w = w' := by
  go_enter Tryz.func102, Tryz.ntmps102
  go_wp2
  go_ret
  exact ⟨rfl, rfl⟩
theorem bool2_t (w : World) : Calls Tryz.prog 102 #[.bool true] w fun e w' => e = .returned (.int .u64 1) ∧ w = w' := by
  go_enter Tryz.func102, Tryz.ntmps102
  go_wp2
  go_ret
  exact ⟨rfl, rfl⟩
theorem bits_or0 (x : Nat) (h : x < 18446744073709551616) : bits .or .u64 (x : Int) 0 = (x : Int) := by
  show IntKind.u64.wrap ((BitVec.ofInt 64 (x : Int) ||| BitVec.ofInt 64 0).toNat : Int) = _
  rw [BitVec.toNat_or, BitVec.toNat_ofInt, BitVec.toNat_ofInt, IntKind.wrap_u64]
  have : ((x : Int) % ((2 ^ 64 : Nat) : Int)).toNat = x := by
    have : ((2 ^ 64 : Nat) : Int) = 18446744073709551616 := by decide +kernel
    rw [this]
    omega
  rw [this]
  simp
  omega
set_option maxRecDepth 100000 in
set_option maxHeartbeats 2000000 in
theorem atof_any (s : ByteArray) (h : decB s.data.toList = true) (w : World) (b off : Nat) (hv : Vs w b off) : Calls Tryz.prog 86 #[.string s] w fun e w' => e = .returned (.tuple #[.float .f64 (decF s.data.toList), .int .i64 s.size, .nilIface]) ∧ Below w.heap.size w w' := by
  obtain ⟨p, d, V, k, hp, hD, hV, hk, hlt, hE, hF⟩ := dec_shape s h
  rw [hF]
  have h5 := hv.h5
  have e1 := exact_whole (s.data.toList.head? == some 45) V hlt w b off hv
  have e2 := fun h => exact_part (s.data.toList.head? == some 45) V k hlt ⟨h, hk⟩ w b off hv
  have z0 := flo.wt_zero (s.data.toList.head? == some 45) V (by omega)
  have zn := flo.wt_nought (s.data.toList.head? == some 45) k hk
  rcases hp with ⟨rfl, hn⟩ | ⟨rfl, hn, h45⟩
  all_goals
    rw [hn] at e1 e2 z0 zn ⊢
  · have hsp := special_pos s d hD w
    have hrf := rf_pos s d hD w
    rw [← hV, hE] at hrf
    have hs := hD.few
    clear h hF hn hD hV hE hv
    by_cases hV0 : V = 0
    · subst hV0
      rw [if_pos rfl] at hrf
      rw [zn]
      clear e1 e2 z0 zn
      go_enter Tryz.func86, Tryz.ntmps86
      go_wp2_with (first | (go_at_call 93; refine hsp.mono ?_; rintro e w1 ⟨rfl, rfl⟩) | (go_at_call 94; refine hrf.mono ?_; rintro e w2 ⟨rfl, rfl⟩) | (go_at_call 102; refine (bool2_f _).mono ?_; rintro e w3 ⟨rfl, rfl⟩))
      go_ret3
      exact ⟨rfl, Below.refl _ _⟩
    · rw [if_neg hV0] at hrf
      have m1 : ((V : Int) == 0) = false := by rw [beq_eq_false_iff_ne]; omega
      by_cases hk0 : k = 0
      · subst hk0
        rw [z0]
        clear e2 z0 zn hV0
        go_enter Tryz.func86, Tryz.ntmps86
        go_wp2_with (first | (go_at_call 93; refine hsp.mono ?_; rintro e w1 ⟨rfl, rfl⟩) | (go_at_call 94; refine hrf.mono ?_; rintro e w2 ⟨rfl, rfl⟩) | (go_at_call 102; refine (bool2_f _).mono ?_; rintro e w4 ⟨rfl, rfl⟩) | (go_at_call 104; refine e1.mono ?_; rintro e w3 ⟨rfl, rfl⟩))
        go_ret3
        exact ⟨rfl, Below.refl _ _⟩
      · have e2 := e2 (by omega)
        clear e1 z0 zn hV0
        go_enter Tryz.func86, Tryz.ntmps86
        go_wp2_with (first | (go_at_call 93; refine hsp.mono ?_; rintro e w1 ⟨rfl, rfl⟩) | (go_at_call 94; refine hrf.mono ?_; rintro e w2 ⟨rfl, rfl⟩) | (go_at_call 102; refine (bool2_f _).mono ?_; rintro e w4 ⟨rfl, rfl⟩) | (go_at_call 104; refine e2.mono ?_; rintro e w3 ⟨rfl, rfl⟩))
        go_ret3
        exact ⟨rfl, Below.refl _ _⟩
  · have hsp := special_neg s d hD h45 w
    have hrf := rf_neg s d hD h45 w
    rw [← hV, hE] at hrf
    have hs := hD.few
    clear h hF hn hD hV hE hv
    by_cases hV0 : V = 0
    · subst hV0
      rw [if_pos rfl] at hrf
      rw [zn]
      clear e1 e2 z0 zn
      go_enter Tryz.func86, Tryz.ntmps86
      go_wp2_with (first | (go_at_call 93; refine hsp.mono ?_; rintro e w1 ⟨rfl, rfl⟩) | (go_at_call 94; refine hrf.mono ?_; rintro e w2 ⟨rfl, rfl⟩) | (go_at_call 102; refine (bool2_t _).mono ?_; rintro e w3 ⟨rfl, rfl⟩))
      go_ret3
      exact ⟨rfl, Below.refl _ _⟩
    · rw [if_neg hV0] at hrf
      have m1 : ((V : Int) == 0) = false := by rw [beq_eq_false_iff_ne]; omega
      by_cases hk0 : k = 0
      · subst hk0
        rw [z0]
        clear e2 z0 zn hV0
        go_enter Tryz.func86, Tryz.ntmps86
        go_wp2_with (first | (go_at_call 93; refine hsp.mono ?_; rintro e w1 ⟨rfl, rfl⟩) | (go_at_call 94; refine hrf.mono ?_; rintro e w2 ⟨rfl, rfl⟩) | (go_at_call 102; refine (bool2_t _).mono ?_; rintro e w4 ⟨rfl, rfl⟩) | (go_at_call 104; refine e1.mono ?_; rintro e w3 ⟨rfl, rfl⟩))
        go_ret3
        exact ⟨rfl, Below.refl _ _⟩
      · have e2 := e2 (by omega)
        clear e1 z0 zn hV0
        go_enter Tryz.func86, Tryz.ntmps86
        go_wp2_with (first | (go_at_call 93; refine hsp.mono ?_; rintro e w1 ⟨rfl, rfl⟩) | (go_at_call 94; refine hrf.mono ?_; rintro e w2 ⟨rfl, rfl⟩) | (go_at_call 102; refine (bool2_t _).mono ?_; rintro e w4 ⟨rfl, rfl⟩) | (go_at_call 104; refine e2.mono ?_; rintro e w3 ⟨rfl, rfl⟩))
        go_ret3
        exact ⟨rfl, Below.refl _ _⟩
end Go.Proofs.YtdddbkghleblhaaGreatDoor.lx
namespace Go.Proofs.YtdddbkghleblhaaGreatDoor.lx
open Go.ChangeShapes Go.WideShapes Go.ChangeAt Go.RowKit
set_option linter.unusedVariables false
attribute [local go_sem] x_sfrombits x_frombits
set_option maxRecDepth 100000 in
set_option maxHeartbeats 1000000 in
theorem pf_any (s : ByteArray) (h : decB s.data.toList = true) (w : World) (b off : Nat) (hv : Vs w b off) : Calls Tryz.prog 72 #[.string s, .int .i64 64] w fun e w' => e = .returned (.tuple #[.float .f64 (decF s.data.toList), .nilIface]) ∧ Below w.heap.size w w' := by
  have ha := atof_any s h w b off hv
  clear h hv
  generalize decF s.data.toList = f at *
  go_enter Tryz.func72, Tryz.ntmps72
  go_wp2_with (first | (go_at_call 78; go_in) | (go_at_call 86; refine ha.mono ?_; rintro e w1 ⟨rfl, hb⟩))
  go_ret2
  exact ⟨rfl, hb⟩
set_option maxRecDepth 100000 in
set_option maxHeartbeats 1000000 in
theorem spf_any (s : ByteArray) (h : decB s.data.toList = true) (w : World) (b off : Nat) (hv : Vs w b off) : Calls Tryz.prog 65 #[.string s, .int .i64 64] w fun e w' => e = .returned (.tuple #[.float .f64 (decF s.data.toList), .nilIface]) ∧ Below w.heap.size w w' := by
  have ha := pf_any s h w b off hv
  clear h hv
  generalize decF s.data.toList = f at *
  go_enter Tryz.func65, Tryz.ntmps65
  go_wp2_with (first | (go_at_call 72; refine ha.mono ?_; rintro e w1 ⟨rfl, hb⟩))
  go_ret2
  exact ⟨rfl, hb⟩
set_option maxRecDepth 100000 in
set_option maxHeartbeats 1000000 in
theorem read_any (s : ByteArray) (hs : s.size ≤ maxLen) (w : World) (b off : Nat) (hv : Vs w b off) : Calls Tryz.prog 57 #[.string s] w fun e w' => e = .returned (.tuple #[.float .f64 (readF s.data.toList), .bool (readOk s.data.toList)]) ∧ Below w.heap.size w w' := by
  by_cases h1 : s.data.toList = [110, 97, 110]
  · have k1 : (s.toList == [110, 97, 110]) = true := by rw [← list_data, h1]; rfl
    rw [h1]
    have e1 : readF [110, 97, 110] = 9221120237041090561 := by decide +kernel
    have e2 : readOk [110, 97, 110] = true := by decide +kernel
    rw [e1, e2]
    clear e1 e2 h1 hv hs
    go_enter Tryz.func57, Tryz.ntmps57
    go_wp2
    go_ret2
    exact ⟨rfl, Below.refl _ _⟩
  · have k1 : (s.toList == [110, 97, 110]) = false := by rw [← list_data, beq_eq_false_iff_ne]; exact h1
    by_cases h2 : s.data.toList = [105, 110, 102]
    · have k2 : (s.toList == [105, 110, 102]) = true := by rw [← list_data, h2]; rfl
      rw [h2]
      have e1 : readF [105, 110, 102] = 9218868437227405312 := by decide +kernel
      have e2 : readOk [105, 110, 102] = true := by decide +kernel
      rw [e1, e2]
      clear e1 e2 h1 h2 hv hs
      go_enter Tryz.func57, Tryz.ntmps57
      go_wp2
      go_ret2
      exact ⟨rfl, Below.refl _ _⟩
    · have k2 : (s.toList == [105, 110, 102]) = false := by rw [← list_data, beq_eq_false_iff_ne]; exact h2
      by_cases h3 : s.data.toList = [45, 105, 110, 102]
      · have k3 : (s.toList == [45, 105, 110, 102]) = true := by rw [← list_data, h3]; rfl
        rw [h3]
        have e1 : readF [45, 105, 110, 102] = 18442240474082181120 := by decide +kernel
        have e2 : readOk [45, 105, 110, 102] = true := by decide +kernel
        rw [e1, e2]
        clear e1 e2 h1 h2 h3 hv hs
        go_enter Tryz.func57, Tryz.ntmps57
        go_wp2
        go_ret2
        exact ⟨rfl, Below.refl _ _⟩
      · have k3 : (s.toList == [45, 105, 110, 102]) = false := by rw [← list_data, beq_eq_false_iff_ne]; exact h3
        have eo : readOk s.data.toList = decB s.data.toList := by
          unfold readOk
          rw [beq_eq_false_iff_ne.2 h1, beq_eq_false_iff_ne.2 h2, beq_eq_false_iff_ne.2 h3]
          rfl
        have ef : readF s.data.toList = if decB s.data.toList = true then decF s.data.toList else 0 := by
          unfold readF
          rw [if_neg h1, if_neg h2, if_neg h3]
        rw [eo, ef]
        have hd := isdecimal_any s hs w
        cases hb : decB s.data.toList
        · rw [hb] at hd
          rw [if_neg (by decide)]
          clear h1 h2 h3 eo ef hb hv hs
          go_enter Tryz.func57, Tryz.ntmps57
          go_wp2_with (go_at_call 64; refine hd.mono ?_; rintro e w1 ⟨rfl, hq⟩; have HQ := Lib.hid hq; clear hq)
          go_ret2
          exact ⟨rfl, HQ.out.below⟩
        · rw [hb] at hd
          rw [if_pos rfl]
          have hp := fun w1 h => spf_any s hb w1 b off h
          generalize decF s.data.toList = f at *
          have HV := Lib.hid hv
          have HP := Lib.hid hp
          clear h1 h2 h3 eo ef hb hv hs hp
          go_enter Tryz.func57, Tryz.ntmps57
          go_wp2_with fail
          refine hd.mono ?_
          rintro e w1 ⟨rfl, hq⟩
          clear hd
          have HQ := Lib.hid hq
          clear hq
          have hpp := HP.out w1 (HV.out.below HQ.out.below)
          go_wp2_with (go_at_call 65; refine hpp.mono ?_; rintro e w2 ⟨rfl, hb2⟩; have HB := Lib.hid hb2; clear hb2)
          go_ret2
          exact ⟨rfl, (HQ.out.below (B := w.heap.size)).trans (HB.out.mono (HQ.out.below (B := w.heap.size)).size)⟩
end Go.Proofs.YtdddbkghleblhaaGreatDoor.lx
namespace Go.Proofs.YtdddbkghleblhaaGreatDoor.lx
open Go.ChangeShapes Go.WideShapes Go.ChangeAt Go.RowKit
set_option linter.unusedVariables false
/-! texts as lists of bytes; rows of a call's own -/
def S (l : List UInt8) : ByteArray := ⟨l.toArray⟩
theorem str_S {t : ByteArray} {l : List UInt8} (h : t.data.toList = l) : t = S l := by
  subst h
  rfl
theorem ext_S (s : ByteArray) (i j : Nat) : s.extract i j = S ((s.data.toList.drop i).take (j - i)) := str_S (ext_list s i j)
theorem S_list (l : List UInt8) : (S l).data.toList = l := rfl
theorem S_nil : S [] = ⟨#[]⟩ := rfl
theorem add0 (g i : Nat) : (⟨g, 0, none⟩ : Addr).add i = ⟨g, i, none⟩ := by
  simp [Addr.add]
  exact fun h => h.symm
theorem own_below {w w' : World} {base size n : Nat} {e : TypeId} {v : Value} {xs : List Value} (h : w.ownsRow base e size v n xs) (hb : Below w.heap.size w w') : w'.ownsRow base e size v n xs := by
  obtain ⟨hl, h | ⟨g, cap, cur, hv, hB, hh, r⟩⟩ := h
  · exact ⟨hl, .inl h⟩
  · have hg : g < w.heap.size := by
      rcases Nat.lt_or_ge g w.heap.size with h | h
      · exact h
      · rw [Array.getElem?_eq_none h] at hh; cases hh
    exact ⟨hl, .inr ⟨g, cap, cur, hv, hB, (hb.block g hg).trans hh, r⟩⟩
theorem own_base {w : World} {base base' size n : Nat} {e : TypeId} {v : Value} {xs : List Value} (h : w.ownsRow base e size v n xs) (hb : base' ≤ base) : w.ownsRow base' e size v n xs := by
  obtain ⟨hl, h | ⟨g, cap, cur, hv, hB, r⟩⟩ := h
  · exact ⟨hl, .inl h⟩
  · exact ⟨hl, .inr ⟨g, cap, cur, hv, by omega, r⟩⟩
theorem own_row {w : World} {base size n : Nat} {e : TypeId} {v : Value} {xs : List Value} (h : w.ownsRow base e size v n xs) : ∀ k, v.ownBlock = some k → base ≤ k := fun k e => (h.lt k e).1
theorem own_open {w : World} {base size n : Nat} {e : TypeId} {v : Value} {xs : List Value} (h : w.ownsRow base e size v n xs) (hn : 0 < n) : ∃ g cap, v = .slice (some ⟨g, 0, none⟩) n cap ∧ base ≤ g ∧ g < w.heap.size ∧ ∀ j u, xs[j]? = some u → w.cell? ⟨g, j, none⟩ = some u := by
  have h' := h
  obtain ⟨hl, h | ⟨g, cap, cur, hv, hB, hh, r⟩⟩ := h
  · omega
  · refine ⟨g, cap, hv, hB, ?_, fun j u hj => ?_⟩
    · rcases Nat.lt_or_ge g w.heap.size with h | h
      · exact h
      · rw [Array.getElem?_eq_none h] at hh; cases hh
    · have := h'.cells (show v.ownBlock = some g by rw [hv]; rfl) j u hj
      rwa [add0] at this
end Go.Proofs.YtdddbkghleblhaaGreatDoor.lx
namespace Go.Proofs.YtdddbkghleblhaaGreatDoor.lx
open Go.ChangeShapes Go.WideShapes Go.ChangeAt Go.RowKit
set_option linter.unusedVariables false
theorem run_store_float (P : Program) (w : World) (a : Addr) (m : Mode) (k : FloatKind) (b : Nat) : (store a (.float k b) m).run P w = stored P w a (.float k b) m := run_store P w a _ m rfl
attribute [local go_sem] run_store_float
/-- a word as the program has it -/
def TV (k a : Int) (t : List UInt8) (w : Nat) : Value := .agg #[.int .i64 k, .int .i64 a, .string (S t), .float .f64 w]
set_option maxRecDepth 100000 in
set_option maxHeartbeats 1000000 in
theorem skip_any (s : ByteArray) (hs : s.size ≤ maxLen) (a : Nat) (ha : a ≤ s.size) (w : World) : Calls Tryz.prog 25 #[.string s, .int .i64 a] w fun e w' => e = .returned (.int .i64 (nxt s.data.toList a : Nat)) ∧ Below w.heap.size w w' := by
  have hr := run_any skipS (fun r w' => Blk w' w.heap.size 4 #[.bool r] ∧ Below w.heap.size w w') 37 #[.pointer (some ⟨w.heap.size, 0, none⟩)] goes_skip s hs
    (fun r c w2 ⟨hb, hd⟩ => by
      refine (skip1_n r c.toNat (b_lt c) w2 w.heap.size hb).mono fun e w3 ⟨h1, h2⟩ => ?_
      have e1 : (c == 35 || (r && c != 10)) = (decide (c.toNat = 35) || (r && decide (c.toNat ≠ 10))) := by
        rw [beq_n]
        congr 2
        rw [Bool.eq_iff_iff]
        simp [← UInt8.toNat_inj]
      have e2 : blkB c = decide (c.toNat = 32 ∨ c.toNat = 9 ∨ c.toNat = 13 ∨ c.toNat = 10) := blk_n c
      unfold skipS
      rw [e1, e2]
      refine ⟨h1, ?_, ?_⟩
      · rw [h2]
        have := hb.set_ 0 (.bool (decide (c.toNat = 35) || (r && decide (c.toNat ≠ 10))))
        simpa using this
      · rw [h2]
        exact hd.setCell (Nat.le_refl _) _) false a ha (w.alloc (.cells #[.bool false] 4)) ⟨Blk.new w _ _, (Below.refl _ _).alloc (Nat.le_refl _) _⟩
  unfold nxt
  generalize a + runN skipS false (s.data.toList.drop a) = z at *
  have HR := Lib.hid hr
  clear hr
  go_enter Tryz.func25, Tryz.ntmps25
  go_wp2_with (go_at_call 21; refine HR.out.mono ?_; rintro e w1 ⟨rfl, x, hb, hd⟩; have HB := Lib.hid hb; have HD := Lib.hid hd; clear hb hd)
  go_ret
  exact ⟨rfl, HD.out⟩
theorem sgn_all : ∀ n, n < 256 → decide (0 ≤ firstIdx ⟨#[61, 59, 124, 40, 41, 63, 42, 43]⟩ n.toUInt8) = sgnB n.toUInt8 := by decide +kernel
attribute [local go_sem] x_index
set_option maxRecDepth 100000 in
set_option maxHeartbeats 1000000 in
theorem sign_any (c : UInt8) (w : World) : Calls Tryz.prog 42 #[.int .u8 c.toNat] w fun e w' => e = .returned (.bool (sgnB c)) ∧ w = w' := by
  have h := sgn_all c.toNat (b_lt c)
  have e : c.toNat.toUInt8 = c := by simp
  rw [e] at h
  rw [← h]
  clear h
  go_enter Tryz.func42, Tryz.ntmps42
  go_wp2
  go_ret
  exact ⟨rfl, rfl⟩
theorem drop_cons (s : ByteArray) (a : Nat) (h : a < s.size) : ∃ r, s.data.toList.drop a = s[a] :: r ∧ r = s.data.toList.drop (a + 1) ∧ r.length = s.size - a - 1 := ⟨_, bytes_drop s a h, rfl, by simp; omega⟩
set_option maxRecDepth 100000 in
set_option maxHeartbeats 1000000 in
theorem name_any (s : ByteArray) (hs : s.size ≤ maxLen) (a n : Nat) (ha : a ≤ s.size) (hn : runP namB (s.data.toList.drop a) = n) (w : World) : Calls Tryz.prog 39 #[.string s, .int .i64 a] w fun e w' => e = .returned (if n ≤ 24 then .tuple #[TV 1 0 ((s.data.toList.drop a).take n) 0, .int .i64 (a + n : Nat), .int .i64 0] else .tuple #[TV 0 0 [] 0, .int .i64 0, .int .i64 1]) ∧ Below w.heap.size w w' := by
  have hr := fun w => run_name s hs a ha w
  rw [hn] at hr
  have hle := runP_le namB (s.data.toList.drop a)
  rw [hn, List.length_drop, show s.data.toList.length = s.size by simp] at hle
  have hx := ext_S s a (a + n)
  rw [show a + n - a = n from by omega] at hx
  unfold maxLen at hs
  unfold TV
  rw [← hx]
  clear hx hn
  by_cases h : n ≤ 24
  · rw [if_pos h]
    go_enter Tryz.func39, Tryz.ntmps39
    go_wp2_with (go_at_call 21; refine (hr _).mono ?_; rintro e w1 ⟨rfl, rfl⟩)
    refine bodyPost_ret (v := .tuple #[.agg #[.int .i64 1, .int .i64 0, .string (s.extract a (a + n)), .float .f64 0], .int .i64 (a + n : Nat), .int .i64 0]) (by simp [results, Tryz.results39, go_sem]) rfl ⟨rfl, ?_⟩
    go_grown
  · rw [if_neg h]
    go_enter Tryz.func39, Tryz.ntmps39
    go_wp2_with (go_at_call 21; refine (hr _).mono ?_; rintro e w1 ⟨rfl, rfl⟩)
    refine bodyPost_ret (v := .tuple #[.agg #[.int .i64 0, .int .i64 0, .string ⟨#[]⟩, .float .f64 0], .int .i64 0, .int .i64 1]) (by simp [results, Tryz.results39, go_sem]) rfl ⟨rfl, ?_⟩
    go_grown
theorem quoteR (x : Nat) : Ending.returned (.tuple #[TV 0 0 [] 0, .int .i64 0, .int .i64 x]) = .returned (.tuple #[.agg #[.int .i64 0, .int .i64 0, .string ⟨#[]⟩, .float .f64 0], .int .i64 0, .int .i64 x]) := rfl
set_option maxRecDepth 100000 in
set_option maxHeartbeats 2000000 in
theorem quote_any (s : ByteArray) (hs : s.size ≤ maxLen) (a n : Nat) (ha : a < s.size) (hn : runP quoB (s.data.toList.drop (a + 1)) = n) (w : World) : Calls Tryz.prog 40 #[.string s, .int .i64 a] w fun e w' => e = .returned (if n = 0 ∨ ((s.data.toList.drop (a + 1)).drop n).head? ≠ some 39 then .tuple #[TV 0 0 [] 0, .int .i64 0, .int .i64 3] else if n ≤ 16 then .tuple #[TV 2 0 ((s.data.toList.drop (a + 1)).take n) 0, .int .i64 (a + (n + 1) + 1 : Nat), .int .i64 0] else .tuple #[TV 0 0 [] 0, .int .i64 0, .int .i64 1]) ∧ Below w.heap.size w w' := by
  have hr := fun w => run_quote s hs (a + 1) (by omega) w
  rw [hn] at hr
  have hle := runP_le quoB (s.data.toList.drop (a + 1))
  rw [hn, List.length_drop, show s.data.toList.length = s.size by simp] at hle
  have hx := ext_S s (a + 1) (a + 1 + n)
  rw [show a + 1 + n - (a + 1) = n from by omega] at hx
  have hd : ((s.data.toList.drop (a + 1)).drop n) = s.data.toList.drop (a + 1 + n) := by rw [List.drop_drop]
  rw [hd]
  unfold maxLen at hs
  unfold TV
  rw [← hx]
  clear hx hn hd
  by_cases h0 : n = 0
  · subst h0
    rw [if_pos (.inl rfl)]
    go_enter Tryz.func40, Tryz.ntmps40
    go_wp2_with (go_at_call 21; refine (hr _).mono ?_; rintro e w1 ⟨rfl, rfl⟩)
    refine bodyPost_ret (v := .tuple #[.agg #[.int .i64 0, .int .i64 0, .string ⟨#[]⟩, .float .f64 0], .int .i64 0, .int .i64 3]) (by simp [results, Tryz.results40, go_sem]) rfl ⟨rfl, ?_⟩
    go_grown
  · have m1 : ((a : Int) + 1 + n == (a : Int) + 1) = false := by rw [beq_eq_false_iff_ne]; omega
    by_cases h1 : a + 1 + n = s.size
    · have m2 : ((a : Int) + 1 + n == (s.size : Int)) = true := by rw [beq_iff_eq]; omega
      rw [if_pos (.inr (by rw [List.drop_eq_nil_of_le (by simp; omega)]; simp))]
      clear h0 h1
      go_enter Tryz.func40, Tryz.ntmps40
      go_wp2_with (go_at_call 21; refine (hr _).mono ?_; rintro e w1 ⟨rfl, rfl⟩)
      refine bodyPost_ret (v := .tuple #[.agg #[.int .i64 0, .int .i64 0, .string ⟨#[]⟩, .float .f64 0], .int .i64 0, .int .i64 3]) (by simp [results, Tryz.results40, go_sem]) rfl ⟨rfl, ?_⟩
      go_grown
    · have m2 : ((a : Int) + 1 + n == (s.size : Int)) = false := by rw [beq_eq_false_iff_ne]; omega
      have hlt : a + 1 + n < s.size := by omega
      have hd := bytes_drop s (a + 1 + n) hlt
      by_cases h2 : s[a + 1 + n] = 39
      · have m3 : ((s[a + 1 + n].toNat : Int) != 39) = false := by rw [h2]; decide
        rw [if_neg (by
          rw [hd, h2]
          simp [h0])]
        by_cases h3 : n ≤ 16
        · rw [if_pos h3]
          clear h0 h1 h2 hd
          go_enter Tryz.func40, Tryz.ntmps40
          go_wp2_with (go_at_call 21; refine (hr _).mono ?_; rintro e w1 ⟨rfl, rfl⟩)
          refine bodyPost_ret (v := .tuple #[.agg #[.int .i64 2, .int .i64 0, .string (s.extract (a + 1) (a + 1 + n)), .float .f64 0], .int .i64 (a + (n + 1) + 1 : Nat), .int .i64 0]) (by simp [results, Tryz.results40, go_sem]; omega) rfl ⟨rfl, ?_⟩
          go_grown
        · rw [if_neg h3]
          clear h0 h1 h2 hd
          go_enter Tryz.func40, Tryz.ntmps40
          go_wp2_with (go_at_call 21; refine (hr _).mono ?_; rintro e w1 ⟨rfl, rfl⟩)
          refine bodyPost_ret (v := .tuple #[.agg #[.int .i64 0, .int .i64 0, .string ⟨#[]⟩, .float .f64 0], .int .i64 0, .int .i64 1]) (by simp [results, Tryz.results40, go_sem]) rfl ⟨rfl, ?_⟩
          go_grown
      · have m3 : ((s[a + 1 + n].toNat : Int) != 39) = true := by
          rw [bne_iff_ne]
          intro e
          exact h2 (UInt8.toNat_inj.1 (by rw [show s[a + 1 + n].toNat = 39 from by omega]; rfl))
        rw [if_pos (.inr (by
          rw [hd]
          intro e
          exact h2 (Option.some.inj e)))]
        clear h0 h1 h2 hd
        go_enter Tryz.func40, Tryz.ntmps40
        go_wp2_with (go_at_call 21; refine (hr _).mono ?_; rintro e w1 ⟨rfl, rfl⟩)
        refine bodyPost_ret (v := .tuple #[.agg #[.int .i64 0, .int .i64 0, .string ⟨#[]⟩, .float .f64 0], .int .i64 0, .int .i64 3]) (by simp [results, Tryz.results40, go_sem]) rfl ⟨rfl, ?_⟩
        go_grown
end Go.Proofs.YtdddbkghleblhaaGreatDoor.lx
