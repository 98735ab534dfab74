import Derived.Test.YtdddbkghleblhaaGreatDoorKal
import Derived.Laws.BitsAllLaws
import Derived.BigQuiet
import Derived.Deep.Cut
namespace Go.Proofs.YtdddbkghleblhaaGreatDoor.lx
open Go.ChangeShapes Go.WideShapes Go.ChangeAt Go.RowKit
set_option linter.unusedVariables false
attribute [local go_sem] run_store_float
theorem below_alloc_draw (w : World) (o : Obj) (n : Nat) : Below w.heap.size w ((w.alloc o).drewN n) :=
  ((Below.refl w.heap.size w).alloc (Nat.le_refl _) o).trans (Qt.below (w := w.alloc o) (w' := (w.alloc o).drewN n) ⟨n, rfl⟩)
theorem rerr (a e : Nat) : rwordV a (.error e) = .tuple #[.agg #[.int .i64 0, .int .i64 0, .string ⟨#[]⟩, .float .f64 0], .int .i64 a, .int .i64 e] := rfl
set_option maxRecDepth 100000 in
set_option maxHeartbeats 4000000 in
theorem rword_quote (s : ByteArray) (hs : s.size ≤ maxLen) (a : Nat) (ha : a < s.size) (hc : s[a] = 39) (w : World) : Calls Tryz.prog 29 #[.string s, .int .i64 a] w fun e w' => e = .returned (rwordV a (wordAt (s.data.toList.drop a))) ∧ Below w.heap.size w w' := by
  have hlt := rletter_n 39 (by decide)
  rw [show letN 39 = false from by decide] at hlt
  have k39 : s[a].toNat = 39 := by rw [hc]; rfl
  have hl : s.data.toList.length = s.size := by simp
  have hst := Runs.start quoB s.data.toList (a + 1) (by omega)
  have HST := Lib.hid hst
  have HW : Hid (∀ n, runP quoB (s.data.toList.drop (a + 1)) = n → wordAt (s.data.toList.drop a) = if n = 0 ∨ (s.data.toList.drop (a + 1 + n)).head? ≠ some 39 then .error 3 else if n ≤ 16 then .ok (2, (s.data.toList.drop (a + 1)).take n, 0, n + 1) else .error 1) := Lib.hid (fun n hn => by
    rw [bytes_drop s a ha, hc, word_39, hn, List.drop_drop])
  have HX : Hid (∀ k, s.extract (a + 1) k = S ((s.data.toList.drop (a + 1)).take (k - (a + 1)))) := Lib.hid (fun k => ext_S s (a + 1) k)
  have HLT := Lib.hid hlt
  unfold maxLen at hs
  clear hl hst hc hlt
  go_enter Tryz.func29, Tryz.ntmps29
  go_wp2_with (go_at_call 47; refine (HLT.out _).mono ?_; rintro e w1 ⟨rfl, rfl⟩)
  go_loop [8] (fun i => ∃ k : Nat, i = .int .i64 k ∧ Runs quoB s.data.toList (a + 1) k) (fun i => s.size - (intOf i).toNat)
  case atStart => exact ⟨a + 1, by go_num, HST.out⟩
  case round =>
    obtain ⟨k, rfl, hr⟩ := hrel
    have hk1 : a + 1 ≤ k := hr.1
    have hk2 : k ≤ s.size := by have := hr.2.1; simpa using this
    have HR := Lib.hid hr
    clear hr k39
    by_cases hlk : k < s.size
    · have hin := rquot_n s[k].toNat (b_lt _)
      rw [← quo_n'] at hin
      cases hb : quoB s[k]
      · rw [hb] at hin
        have hn := HR.out.off hlk hb
        have hw := HW.out _ hn
        rw [show a + 1 + (k - (a + 1)) = k from by omega, bytes_drop s k hlk] at hw
        clear hb hn
        have hnk : ((k : Int) == (s.size : Int)) = false := by rw [beq_eq_false_iff_ne]; omega
        by_cases h39 : s[k] = 39
        · have m1 : ((s[k].toNat : Int) != 39) = false := by rw [h39]; decide
          by_cases h0 : k = a + 1
          · have m2 : ((k : Int) == (a : Int) + 1) = true := by rw [beq_iff_eq]; omega
            have HV : Hid (rwordV a (wordAt (s.data.toList.drop a)) = _) := Lib.hid (by rw [hw, if_pos (.inl (by omega)), rerr])
            clear hw h39 h0
            go_wp2_with (go_at_call 49; refine (hin _).mono ?_; rintro e w1 ⟨rfl, rfl⟩)
            refine bodyPost_ret (v := .tuple #[.agg #[.int .i64 0, .int .i64 0, .string ⟨#[]⟩, .float .f64 0], .int .i64 a, .int .i64 3]) (by simp [results, Tryz.results29, go_sem]) rfl ⟨by rw [HV.out]; rfl, ?_⟩
            go_grown
          · have m2 : ((k : Int) == (a : Int) + 1) = false := by rw [beq_eq_false_iff_ne]; omega
            have hcond : ¬ (k - (a + 1) = 0 ∨ (s[k] :: s.data.toList.drop (k + 1)).head? ≠ some 39) := by
              rw [h39]
              simp
              omega
            rw [if_neg hcond] at hw
            by_cases h16 : k - (a + 1) ≤ 16
            · have HV : Hid (rwordV a (wordAt (s.data.toList.drop a)) = .tuple #[.agg #[.int .i64 2, .int .i64 a, .string (s.extract (a + 1) k), .float .f64 0], .int .i64 (k + 1 : Nat), .int .i64 0]) := Lib.hid (by
                rw [hw, if_pos h16, HX.out]
                unfold rwordV TV
                simp only
                rw [show a + (k - (a + 1) + 1) + 1 = k + 1 from by omega]
                rfl)
              clear hw h39 hcond
              go_wp2_with (go_at_call 49; refine (hin _).mono ?_; rintro e w1 ⟨rfl, rfl⟩)
              refine bodyPost_ret (v := .tuple #[.agg #[.int .i64 2, .int .i64 a, .string (s.extract (a + 1) k), .float .f64 0], .int .i64 (k + 1 : Nat), .int .i64 0]) (by simp [results, Tryz.results29, go_sem]) rfl ⟨by rw [HV.out], ?_⟩
              go_grown
            · have HV : Hid (rwordV a (wordAt (s.data.toList.drop a)) = _) := Lib.hid (by rw [hw, if_neg h16, rerr])
              clear hw h39 hcond
              go_wp2_with (go_at_call 49; refine (hin _).mono ?_; rintro e w1 ⟨rfl, rfl⟩)
              refine bodyPost_ret (v := .tuple #[.agg #[.int .i64 0, .int .i64 0, .string ⟨#[]⟩, .float .f64 0], .int .i64 a, .int .i64 1]) (by simp [results, Tryz.results29, go_sem]) rfl ⟨by rw [HV.out]; rfl, ?_⟩
              go_grown
        · have m1 : ((s[k].toNat : Int) != 39) = true := by
            rw [bne_iff_ne]
            intro e
            exact h39 (UInt8.toNat_inj.1 (by rw [show s[k].toNat = 39 from by omega]; rfl))
          have HV : Hid (rwordV a (wordAt (s.data.toList.drop a)) = _) := Lib.hid (by rw [hw, if_pos (.inr (fun e => h39 (Option.some.inj e))), rerr])
          clear hw h39
          go_wp2_with (go_at_call 49; refine (hin _).mono ?_; rintro e w1 ⟨rfl, rfl⟩)
          refine bodyPost_ret (v := .tuple #[.agg #[.int .i64 0, .int .i64 0, .string ⟨#[]⟩, .float .f64 0], .int .i64 a, .int .i64 3]) (by simp [results, Tryz.results29, go_sem]) rfl ⟨by rw [HV.out]; rfl, ?_⟩
          go_grown
      · rw [hb] at hin
        have HR2 := Lib.hid (HR.out.on hlk hb)
        clear hb
        go_wp2_with (go_at_call 49; refine (hin _).mono ?_; rintro e w1 ⟨rfl, rfl⟩)
        go_round
        case rel => exact ⟨k + 1, by go_num, HR2.out⟩
        case measure => simp [intOf]; omega
    · obtain rfl : k = s.size := by omega
      have hn := HR.out.fin
      have hw := HW.out _ hn
      rw [show a + 1 + (s.size - (a + 1)) = s.size from by omega] at hw
      have HV : Hid (rwordV a (wordAt (s.data.toList.drop a)) = _) := Lib.hid (by rw [hw, if_pos (.inr (by rw [show s.data.toList.drop s.size = [] from List.drop_eq_nil_of_le (by simp)]; simp)), rerr])
      clear hn hw
      go_wp2_with fail
      refine bodyPost_ret (v := .tuple #[.agg #[.int .i64 0, .int .i64 0, .string ⟨#[]⟩, .float .f64 0], .int .i64 a, .int .i64 3]) (by simp [results, Tryz.results29, go_sem]) rfl ⟨by rw [HV.out]; rfl, ?_⟩
      go_grown
set_option maxRecDepth 100000 in
set_option maxHeartbeats 4000000 in
theorem rword_sign (s : ByteArray) (hs : s.size ≤ maxLen) (a : Nat) (ha : a < s.size) (h1 : letB s[a] = false) (h2 : s[a] ≠ 39) (h3 : s[a] ≠ 37) (w : World) : Calls Tryz.prog 29 #[.string s, .int .i64 a] w fun e w' => e = .returned (rwordV a (wordAt (s.data.toList.drop a))) ∧ Below w.heap.size w w' := by
  have hlt := rletter_n s[a].toNat (b_lt _)
  rw [← let_n, h1] at hlt
  have hsg := rsign4_any s[a]
  have k2 : ((s[a].toNat : Int) == 39) = false := by
    rw [beq_eq_false_iff_ne]
    intro e
    exact h2 (UInt8.toNat_inj.1 (by rw [show s[a].toNat = 39 from by omega]; rfl))
  have k3 : ((s[a].toNat : Int) == 37) = false := by
    rw [beq_eq_false_iff_ne]
    intro e
    exact h3 (UInt8.toNat_inj.1 (by rw [show s[a].toNat = 37 from by omega]; rfl))
  have hx : s.extract a (a + 1) = S [s[a]] := by
    rw [ext_S, show a + 1 - a = 1 from by omega, bytes_drop s a ha]
    rfl
  have HX := Lib.hid hx
  unfold maxLen at hs
  cases h4 : sgnB s[a]
  · rw [h4] at hsg
    have HV : Hid (rwordV a (wordAt (s.data.toList.drop a)) = .tuple #[.agg #[.int .i64 0, .int .i64 0, .string ⟨#[]⟩, .float .f64 0], .int .i64 a, .int .i64 2]) := Lib.hid (by
      rw [bytes_drop s a ha, word_cons, h1, h4, beq_eq_false_iff_ne.2 h2, beq_eq_false_iff_ne.2 h3]
      rfl)
    clear h1 h2 h3 h4 hx
    go_enter Tryz.func29, Tryz.ntmps29
    go_wp2_with (first | (go_at_call 47; refine (hlt _).mono ?_; rintro e w1 ⟨rfl, rfl⟩) | (go_at_call 51; refine (hsg _).mono ?_; rintro e w2 ⟨rfl, rfl⟩))
    refine bodyPost_ret (v := .tuple #[.agg #[.int .i64 0, .int .i64 0, .string ⟨#[]⟩, .float .f64 0], .int .i64 a, .int .i64 2]) (by simp [results, Tryz.results29, go_sem]) rfl ⟨by rw [HV.out], ?_⟩
    go_grown
  · rw [h4] at hsg
    have HV : Hid (rwordV a (wordAt (s.data.toList.drop a)) = .tuple #[.agg #[.int .i64 4, .int .i64 a, .string (s.extract a (a + 1)), .float .f64 0], .int .i64 (a + 1 : Nat), .int .i64 0]) := Lib.hid (by
      rw [bytes_drop s a ha, word_cons, h1, h4, beq_eq_false_iff_ne.2 h2, beq_eq_false_iff_ne.2 h3, HX.out]
      rfl)
    clear h1 h2 h3 h4 hx
    go_enter Tryz.func29, Tryz.ntmps29
    go_wp2_with (first | (go_at_call 47; refine (hlt _).mono ?_; rintro e w1 ⟨rfl, rfl⟩) | (go_at_call 51; refine (hsg _).mono ?_; rintro e w2 ⟨rfl, rfl⟩))
    refine bodyPost_ret (v := .tuple #[.agg #[.int .i64 4, .int .i64 a, .string (s.extract a (a + 1)), .float .f64 0], .int .i64 (a + 1 : Nat), .int .i64 0]) (by simp [results, Tryz.results29, go_sem]) rfl ⟨by rw [HV.out], ?_⟩
    go_grown
/-- what may stand in a weight, as the document asks it -/
theorem wgt_ways (c : UInt8) : (digB c = true ∧ wgtB c = true) ∨ (digB c = false ∧ letB c = true ∧ wgtB c = true) ∨ (digB c = false ∧ letB c = false ∧ c = 46 ∧ wgtB c = true) ∨ (digB c = false ∧ letB c = false ∧ c = 45 ∧ wgtB c = true) ∨ (digB c = false ∧ letB c = false ∧ c ≠ 46 ∧ c ≠ 45 ∧ wgtB c = false) := by
  unfold wgtB
  cases h1 : digB c
  · cases h2 : letB c
    · by_cases h3 : c = 46
      · subst h3
        simp
      · by_cases h4 : c = 45
        · subst h4
          simp
        · simp [h3, h4]
    · simp
  · simp
set_option maxRecDepth 100000 in
set_option maxHeartbeats 4000000 in
theorem rword_weight (s : ByteArray) (hs : s.size ≤ maxLen) (a : Nat) (ha : a < s.size) (hc : s[a] = 37) (w : World) : Calls Tryz.prog 29 #[.string s, .int .i64 a] w fun e w' => e = .returned (rwordV a (wordAt (s.data.toList.drop a))) ∧ Below w.heap.size w w' := by
  have hlt := rletter_n 37 (by decide)
  rw [show letN 37 = false from by decide] at hlt
  have k37 : s[a].toNat = 37 := by rw [hc]; rfl
  have hl : s.data.toList.length = s.size := by simp
  have hst := Runs.start wgtB s.data.toList (a + 1) (by omega)
  have HST := Lib.hid hst
  have HW : Hid (∀ n, runP wgtB (s.data.toList.drop (a + 1)) = n → wordAt (s.data.toList.drop a) = if readOk ((s.data.toList.drop (a + 1)).take n) = true then .ok (3, (s.data.toList.drop (a + 1)).take n, readF ((s.data.toList.drop (a + 1)).take n), n) else .error 4) := Lib.hid (fun n hn => by
    rw [bytes_drop s a ha, hc, word_37, hn])
  have HX : Hid (∀ k, s.extract (a + 1) k = S ((s.data.toList.drop (a + 1)).take (k - (a + 1)))) := Lib.hid (fun k => ext_S s (a + 1) k)
  have HXL : Hid (∀ k, (s.extract (a + 1) k).data.toList = (s.data.toList.drop (a + 1)).take (k - (a + 1))) := Lib.hid (fun k => ext_list s (a + 1) k)
  have HRD : Hid (∀ k w, Calls Tryz.prog 24 #[.string (s.extract (a + 1) k)] w fun e w' => e = .returned (.tuple #[.float .f64 (readF (s.extract (a + 1) k).data.toList), .bool (readOk (s.extract (a + 1) k).data.toList)]) ∧ Qt w w') := Lib.hid (fun k w => rread_any _ (by simp [ByteArray.size_extract]; omega) w)
  have HLT := Lib.hid hlt
  unfold maxLen at hs
  clear hl hst hc hlt
  go_enter Tryz.func29, Tryz.ntmps29
  go_wp2_with (go_at_call 47; refine (HLT.out _).mono ?_; rintro e w1 ⟨rfl, rfl⟩)
  go_loop [8] (fun i => ∃ k : Nat, i = .int .i64 k ∧ Runs wgtB s.data.toList (a + 1) k) (fun i => s.size - (intOf i).toNat)
  case atStart => exact ⟨a + 1, by go_num, HST.out⟩
  case round =>
    obtain ⟨k, rfl, hr⟩ := hrel
    have hk1 : a + 1 ≤ k := hr.1
    have hk2 : k ≤ s.size := by have := hr.2.1; simpa using this
    have HR := Lib.hid hr
    clear hr k37
    have hend : ∀ n, k = a + 1 + n → runP wgtB (s.data.toList.drop (a + 1)) = n → rwordV a (wordAt (s.data.toList.drop a)) = if readOk (s.extract (a + 1) k).data.toList = true then .tuple #[.agg #[.int .i64 3, .int .i64 a, .string (s.extract (a + 1) k), .float .f64 (readF (s.extract (a + 1) k).data.toList)], .int .i64 k, .int .i64 0] else .tuple #[.agg #[.int .i64 0, .int .i64 0, .string ⟨#[]⟩, .float .f64 0], .int .i64 a, .int .i64 4] := fun n e hn => by
      subst e
      rw [HW.out n hn, HXL.out, HX.out, show a + 1 + n - (a + 1) = n from by omega]
      split
      · unfold rwordV TV
        simp only
        rw [show a + n + 1 = a + 1 + n from by omega]
        rfl
      · exact rerr a 4
    have HE := Lib.hid hend
    clear hend
    by_cases hlk : k < s.size
    · have hdg := rdigit_n s[k].toNat (b_lt _)
      have hle := rletter_n s[k].toNat (b_lt _)
      rw [← dig_n] at hdg
      rw [← let_n] at hle
      rcases wgt_ways s[k] with ⟨h1, hb⟩ | ⟨h1, h2, hb⟩ | ⟨h1, h2, h3, hb⟩ | ⟨h1, h2, h3, hb⟩ | ⟨h1, h2, h3, h4, hb⟩
      · rw [h1] at hdg
        have HR2 := Lib.hid (HR.out.on hlk hb)
        clear h1 hb hle
        go_wp2_with (go_at_call 50; refine (hdg _).mono ?_; rintro e w1 ⟨rfl, rfl⟩)
        go_round
        case rel => exact ⟨k + 1, by go_num, HR2.out⟩
        case measure => simp [intOf]; omega
      · rw [h1] at hdg
        rw [h2] at hle
        have HR2 := Lib.hid (HR.out.on hlk hb)
        clear h1 h2 hb
        go_wp2_with (first | (go_at_call 50; refine (hdg _).mono ?_; rintro e w1 ⟨rfl, rfl⟩) | (go_at_call 47; refine (hle _).mono ?_; rintro e w1 ⟨rfl, rfl⟩))
        go_round
        case rel => exact ⟨k + 1, by go_num, HR2.out⟩
        case measure => simp [intOf]; omega
      · rw [h1] at hdg
        rw [h2] at hle
        have m1 : ((s[k].toNat : Int) == 46) = true := by rw [h3]; rfl
        have HR2 := Lib.hid (HR.out.on hlk hb)
        clear h1 h2 h3 hb
        go_wp2_with (first | (go_at_call 50; refine (hdg _).mono ?_; rintro e w1 ⟨rfl, rfl⟩) | (go_at_call 47; refine (hle _).mono ?_; rintro e w1 ⟨rfl, rfl⟩))
        go_round
        case rel => exact ⟨k + 1, by go_num, HR2.out⟩
        case measure => simp [intOf]; omega
      · rw [h1] at hdg
        rw [h2] at hle
        have m1 : ((s[k].toNat : Int) == 46) = false := by rw [h3]; decide
        have m2 : ((s[k].toNat : Int) == 45) = true := by rw [h3]; rfl
        have HR2 := Lib.hid (HR.out.on hlk hb)
        clear h1 h2 h3 hb
        go_wp2_with (first | (go_at_call 50; refine (hdg _).mono ?_; rintro e w1 ⟨rfl, rfl⟩) | (go_at_call 47; refine (hle _).mono ?_; rintro e w1 ⟨rfl, rfl⟩))
        go_round
        case rel => exact ⟨k + 1, by go_num, HR2.out⟩
        case measure => simp [intOf]; omega
      · rw [h1] at hdg
        rw [h2] at hle
        have m1 : ((s[k].toNat : Int) == 46) = false := by
          rw [beq_eq_false_iff_ne]
          intro e
          exact h3 (UInt8.toNat_inj.1 (by rw [show s[k].toNat = 46 from by omega]; rfl))
        have m2 : ((s[k].toNat : Int) == 45) = false := by
          rw [beq_eq_false_iff_ne]
          intro e
          exact h4 (UInt8.toNat_inj.1 (by rw [show s[k].toNat = 45 from by omega]; rfl))
        have hn := HR.out.off hlk hb
        have he := HE.out (k - (a + 1)) (by omega) hn
        have hrd := HRD.out k
        clear h1 h2 h3 h4 hb hn
        generalize readF (s.extract (a + 1) k).data.toList = f at *
        cases hok : readOk (s.extract (a + 1) k).data.toList
        · rw [hok] at hrd he
          have HV := Lib.hid he
          clear he hok
          go_wp2_with (first | (go_at_call 50; refine (hdg _).mono ?_; rintro e w1 ⟨rfl, rfl⟩) | (go_at_call 47; refine (hle _).mono ?_; rintro e w1 ⟨rfl, rfl⟩) | (go_at_call 24; refine (hrd _).mono ?_; rintro e w1 ⟨rfl, nq, rfl⟩))
          refine bodyPost_ret (v := .tuple #[.agg #[.int .i64 0, .int .i64 0, .string ⟨#[]⟩, .float .f64 0], .int .i64 a, .int .i64 4]) (by simp [results, Tryz.results29, go_sem]) rfl ⟨by rw [HV.out]; rfl, ?_⟩
          go_grown
          exact below_alloc_draw _ _ _
        · rw [hok] at hrd he
          have HV := Lib.hid he
          clear he hok
          go_wp2_with (first | (go_at_call 50; refine (hdg _).mono ?_; rintro e w1 ⟨rfl, rfl⟩) | (go_at_call 47; refine (hle _).mono ?_; rintro e w1 ⟨rfl, rfl⟩) | (go_at_call 24; refine (hrd _).mono ?_; rintro e w1 ⟨rfl, nq, rfl⟩))
          refine bodyPost_ret (v := .tuple #[.agg #[.int .i64 3, .int .i64 a, .string (s.extract (a + 1) k), .float .f64 f], .int .i64 k, .int .i64 0]) (by simp [results, Tryz.results29, go_sem]) rfl ⟨by rw [HV.out]; rfl, ?_⟩
          go_grown
          exact below_alloc_draw _ _ _
    · obtain rfl : k = s.size := by omega
      have hn := HR.out.fin
      have he := HE.out (s.size - (a + 1)) (by omega) hn
      have hrd := HRD.out s.size
      clear hn
      generalize readF (s.extract (a + 1) s.size).data.toList = f at *
      cases hok : readOk (s.extract (a + 1) s.size).data.toList
      · rw [hok] at hrd he
        have HV := Lib.hid he
        clear he hok
        go_wp2_with (go_at_call 24; refine (hrd _).mono ?_; rintro e w1 ⟨rfl, nq, rfl⟩)
        refine bodyPost_ret (v := .tuple #[.agg #[.int .i64 0, .int .i64 0, .string ⟨#[]⟩, .float .f64 0], .int .i64 a, .int .i64 4]) (by simp [results, Tryz.results29, go_sem]) rfl ⟨by rw [HV.out]; rfl, ?_⟩
        go_grown
        exact below_alloc_draw _ _ _
      · rw [hok] at hrd he
        have HV := Lib.hid he
        clear he hok
        go_wp2_with (go_at_call 24; refine (hrd _).mono ?_; rintro e w1 ⟨rfl, nq, rfl⟩)
        refine bodyPost_ret (v := .tuple #[.agg #[.int .i64 3, .int .i64 a, .string (s.extract (a + 1) s.size), .float .f64 f], .int .i64 s.size, .int .i64 0]) (by simp [results, Tryz.results29, go_sem]) rfl ⟨by rw [HV.out]; rfl, ?_⟩
        go_grown
        exact below_alloc_draw _ _ _
theorem rword_any (s : ByteArray) (hs : s.size ≤ maxLen) (a : Nat) (ha : a < s.size) (w : World) : Calls Tryz.prog 29 #[.string s, .int .i64 a] w fun e w' => e = .returned (rwordV a (wordAt (s.data.toList.drop a))) ∧ Below w.heap.size w w' := by
  cases h1 : letB s[a]
  · by_cases h2 : s[a] = 39
    · exact rword_quote s hs a ha h2 w
    · by_cases h3 : s[a] = 37
      · exact rword_weight s hs a ha h3 w
      · exact rword_sign s hs a ha h1 h2 h3 w
  · exact rword_name s hs a ha h1 w
end Go.Proofs.YtdddbkghleblhaaGreatDoor.lx
namespace Go.Proofs.YtdddbkghleblhaaGreatDoor.lx
open Go.ChangeShapes Go.WideShapes Go.ChangeAt Go.RowKit
set_option linter.unusedVariables false
attribute [local go_sem] run_store_float
theorem info_rtok : (Tryz.prog.info? 61).map (fun i => (i.zero, i.size, i.bytes)) = some (some (.agg tok0), 4, 40) := by kernel_rfl
/-- the answer of the document's All -/
def RAllV (B : Nat) (s : List UInt8) (e : Ending) (w : World) : Prop := ∃ v, e = .returned (.tuple #[v, .int .i64 (lexAll s).2.1, .int .i64 (lexAll s).2.2]) ∧ w.ownsRow B 61 4 v (lexAll s).1.length (tcells (lexAll s).1)
set_option maxRecDepth 100000 in
set_option maxHeartbeats 2000000 in
theorem rall_any (s : ByteArray) (hs : s.size ≤ maxLen) (w : World) : Calls Tryz.prog 16 #[.string s] w fun e w' => RAllV w.heap.size s.data.toList e w' ∧ Below w.heap.size w w' := by
  have hsl : s.data.toList.length = s.size := by simp
  have HM := Lib.hid hs
  unfold maxLen at hs
  by_cases hbig : 65536 < s.size
  · have e : ∀ w', RAllV w.heap.size s.data.toList (.returned (.tuple #[.slice none 0 0, .int .i64 1, .int .i64 0])) w' := fun w' => by
      have : lexAll s.data.toList = ([], 1, 0) := by
        unfold lexAll
        rw [if_pos (by omega)]
      unfold RAllV
      rw [this]
      exact ⟨_, rfl, World.ownsRow_nil _ _ _ _⟩
    have HE := Lib.hid e
    clear e hsl
    go_enter Tryz.func16, Tryz.ntmps16
    go_wp2_with fail
    refine bodyPost_ret (v := .tuple #[.slice none 0 0, .int .i64 1, .int .i64 0]) (by simp [results, Tryz.results16, go_sem]) rfl ⟨HE.out _, ?_⟩
    go_grown
  · obtain ⟨i1, ki, kz0, kz1, kz2⟩ := info_parts info_rtok
    have hsk := fun w => rskip_any s HM.out 0 (Nat.zero_le _) w
    have HL := Lib.hid hsl
    have HK := Lib.hid hsk
    clear hsl hsk
    have hst := LexRel.start s.data.toList
    generalize nxt s.data.toList 0 = k0 at *
    have HST := Lib.hid hst
    have HK0 : Hid (k0 ≤ s.size) := Lib.hid (by have := hst.2.2; rw [HL.out] at this; exact this)
    clear hst
    go_enter Tryz.func16, Tryz.ntmps16
    go_wp2_with (go_at_call 28; refine (HK.out _).mono ?_; rintro e w1 ⟨rfl, rfl⟩)
    go_loopw [5, 6] (fun v i wr => ∃ (k : Nat) (ts : List Tok), i = .int .i64 k ∧ k ≤ s.size ∧ wr.ownsRow w.heap.size 61 4 v ts.length (tcells ts) ∧ LexRel s.data.toList k ts ∧ Below w.heap.size w wr) (fun _ i _ => s.size - (intOf i).toNat)
    case atStart => exact ⟨k0, [], rfl, HK0.out, World.ownsRow_lit w #[] 0 (Nat.le_refl _) (by decide) rfl, HST.out, (Below.refl _ _).alloc (Nat.le_refl _) _⟩
    case round =>
      obtain ⟨k, ts, rfl, hk, hown, hrel, hbr⟩ := hrel
      have hzr := hbr.size
      have HO := Lib.hid hown
      have HR := Lib.hid hrel
      have HB := Lib.hid hbr
      have htl := hrel.2.1
      clear hown hrel hbr
      by_cases hlt : k < s.size
      · have hnx := rword_any s HM.out k hlt wr
        cases hwd : wordAt (s.data.toList.drop k) with
        | error e =>
          rw [hwd] at hnx
          have HE : Hid (lexAll s.data.toList = ([], e, k)) := Lib.hid (HR.out.err (by rw [HL.out]; exact hlt) hwd (by rw [HL.out]; omega))
          have he := word_e hwd
          have m1 : ((e : Int) != 0) = true := by rw [bne_iff_ne]; omega
          clear hwd he
          have hnx : Calls Tryz.prog 29 #[.string s, .int .i64 k] wr fun e_1 w' => e_1 = .returned (.tuple #[.agg #[.int .i64 0, .int .i64 0, .string ⟨#[]⟩, .float .f64 0], .int .i64 k, .int .i64 e]) ∧ Below wr.heap.size wr w' := hnx
          go_wp2_with (go_at_call 29; refine hnx.mono ?_; rintro e1 w2 ⟨rfl, hb2⟩)
          have hz2 := hb2.size
          refine bodyPost_ret (v := .tuple #[.slice none 0 0, .int .i64 e, .int .i64 k]) (by simp [results, Tryz.results16, go_sem]) rfl ⟨?_, ?_⟩
          · refine ⟨.slice none 0 0, ?_, ?_⟩
            · rw [HE.out]
            · rw [HE.out]
              exact World.ownsRow_nil _ _ _ _
          · have hq := (HB.out.trans (hb2.mono hzr)).alloc (o := .cells #[.int .i64 0, .int .i64 0, .string ⟨#[]⟩, .float .f64 0] 61) (by omega)
            first | exact hq | (go_grown; exact hq) | (go_grown; exact HB.out.trans (hb2.mono hzr))
        | ok x =>
          obtain ⟨kd, t, wt, n⟩ := x
          rw [hwd] at hnx
          obtain ⟨hr2, hn2⟩ := HR.out.step (by rw [HL.out]; exact hlt) hwd
          rw [HL.out] at hn2
          have HR2 := Lib.hid hr2
          have hsk := fun w => rskip_any s HM.out (k + n + 1) hn2 w
          have HK2 : Hid (nxt s.data.toList (k + n + 1) ≤ s.size ∧ k < nxt s.data.toList (k + n + 1)) := Lib.hid ⟨by have := nxt_le s.data.toList (k + n + 1) (by rw [HL.out]; omega); rw [HL.out] at this; exact this, by have := nxt_ge s.data.toList (k + n + 1); omega⟩
          generalize nxt s.data.toList (k + n + 1) = k2 at *
          have hnx : Calls Tryz.prog 29 #[.string s, .int .i64 k] wr fun e_1 w' => e_1 = .returned (.tuple #[.agg #[.int .i64 kd, .int .i64 k, .string (S t), .float .f64 wt], .int .i64 (k + n + 1 : Nat), .int .i64 0]) ∧ Below wr.heap.size wr w' := hnx
          have HSK := Lib.hid hsk
          clear hwd hr2 hsk
          go_wp2_with fail
          refine hnx.mono ?_
          rintro e1 w2 ⟨rfl, hb2⟩
          have HB2 := Lib.hid (HB.out.trans (hb2.mono hzr))
          have hz2 := hb2.size
          have HB2' := Lib.hid hb2
          clear hnx hb2
          have ho2 := own_below HO.out HB2'.out
          have HO2 := Lib.hid ho2
          have hz3 : w.heap.size ≤ w2.heap.size := by omega
          clear ho2
          go_wp2_with (at_builtin; refine wpList_append_own_at _ rfl (.tmp 31) (.tmp 33) 55 rfl w.heap.size 61 i1 (.agg tok0) 4 40 Tryz.underlying55 ki kz0 kz1 kz2 rfl (by decide) _ ts.length (tcells ts) rfl ((HO2.out.alloc _).alloc _) ⟨w2.heap.size + 1, 0, none⟩ 1 1 (tokC ⟨kd, k, t, wt⟩) rfl rfl (tok_new2 _ _ _ _) (tok_one _) (by unfold maxLen; omega) (by omega) (by simp; omega) ?_; intro v3 w3 hown3 hg3 _ _)
          have HO3 := Lib.hid hown3
          have HB3 := Lib.hid (((HB2.out.alloc hz3 (.cells #[.int .i64 kd, .int .i64 k, .string (S t), .float .f64 wt] 61)).alloc (by simp; omega) (.cells (tokC ⟨kd, k, t, wt⟩).toArray 61)).grown hg3 (by simp; omega) (own_row HO2.out))
          clear hown3 hg3
          refine (HSK.out w3).mono ?_
          rintro e1 w4 ⟨rfl, rfl⟩
          go_wp2_with fail
          refine ⟨⟨k2, ts ++ [⟨kd, k, t, wt⟩], rfl, HK2.out.1, ?_, HR2.out, HB3.out⟩, by simp only [intOf]; have := HK2.out.2; omega⟩
          rw [tcells_snoc, List.length_append]
          exact HO3.out
      · obtain rfl : k = s.size := by omega
        have hdn := HR.out
        rw [← HL.out] at hdn
        have HE : Hid (lexAll s.data.toList = (ts ++ [⟨0, s.size, [], 0⟩], 0, 0)) := Lib.hid (by rw [hdn.done (by rw [HL.out]; omega), HL.out])
        clear hdn
        go_wp2_with (at_builtin; refine wpList_append_own_at _ rfl (.tmp 38) (.tmp 41) 55 rfl w.heap.size 61 i1 (.agg tok0) 4 40 Tryz.underlying55 ki kz0 kz1 kz2 rfl (by decide) _ ts.length (tcells ts) rfl (HO.out.alloc _) ⟨wr.heap.size, 0, none⟩ 1 1 (tokC ⟨0, s.size, [], 0⟩) rfl rfl (tok_new _ _ _) (tok_one _) (by unfold maxLen; omega) (by omega) (by simp; omega) ?_; intro v3 w3 hown3 hg3 _ _)
        have HB3 := (HB.out.alloc hzr (.cells (tokC ⟨0, s.size, [], 0⟩).toArray 61)).grown hg3 (by simp; omega) (own_row HO.out)
        refine bodyPost_ret (v := .tuple #[v3, .int .i64 0, .int .i64 0]) (by simp [results, Tryz.results16, go_sem]) rfl ⟨?_, HB3⟩
        refine ⟨v3, ?_, ?_⟩
        · rw [HE.out]
          rfl
        · rw [HE.out, tcells_snoc, List.length_append]
          exact hown3
end Go.Proofs.YtdddbkghleblhaaGreatDoor.lx
namespace Go.Proofs.YtdddbkghleblhaaGreatDoor.lx
open Go.ChangeShapes Go.WideShapes Go.ChangeAt Go.RowKit
set_option linter.unusedVariables false
attribute [local go_sem] x_bits
set_option maxRecDepth 100000 in
theorem rnan_self (n : Nat) : ∃ c : Bool, ∀ w, Calls Tryz.prog 53 #[.float .f64 n] w fun e w' => e = .returned (.bool c) ∧ w = w' := by
  by_cases h : bits .and .u64 ((n : Int) / 4503599627370496) 2047 = 2047
  · refine ⟨(IntKind.u64.wrap ((n : Int) * 4096) != 0), fun w => ?_⟩
    go_enter Tryz.func53, Tryz.ntmps53
    go_wp2
    all_goals first | (exact absurd h (by assumption)) | (go_ret; exact ⟨rfl, rfl⟩)
  · refine ⟨false, fun w => ?_⟩
    go_enter Tryz.func53, Tryz.ntmps53
    go_wp2
    all_goals first | (exact absurd (by assumption) h) | (go_ret; exact ⟨rfl, rfl⟩)
set_option maxRecDepth 100000 in
theorem rbelow_self (n : Nat) : ∃ c : Bool, ∀ w, Calls Tryz.prog 54 #[.float .f64 n] w fun e w' => e = .returned (.bool c) ∧ w = w' := by
  refine ⟨((n : Int) / 9223372036854775808 == 1), fun w => ?_⟩
  go_enter Tryz.func54, Tryz.ntmps54
  go_wp2
  go_ret
  exact ⟨rfl, rfl⟩
set_option maxRecDepth 100000 in
theorem rless_self (n : Nat) (w : World) : Calls Tryz.prog 32 #[.float .f64 n, .float .f64 n] w fun e w' => e = .returned (.bool false) ∧ w = w' := by
  obtain ⟨c, hc⟩ := rnan_self n
  obtain ⟨d, hd⟩ := rbelow_self n
  have HC := Lib.hid hc
  have HD := Lib.hid hd
  have m1 : decide ((n : Int) < n) = false := by simp
  clear hc hd
  cases c <;> cases d
  all_goals
    go_enter Tryz.func32, Tryz.ntmps32
    go_wp2_with (first | (go_at_call 53; refine (HC.out _).mono ?_; rintro e w' ⟨rfl, rfl⟩) | (go_at_call 54; refine (HD.out _).mono ?_; rintro e w' ⟨rfl, rfl⟩))
    go_ret
    exact ⟨by simp, rfl⟩
set_option maxRecDepth 100000 in
theorem rsame_self (n : Nat) (w : World) : Calls Tryz.prog 19 #[.float .f64 n, .float .f64 n] w fun e w' => e = .returned (.bool true) ∧ w = w' := by
  go_enter Tryz.func19, Tryz.ntmps19
  go_wp2_with (go_at_call 32; refine (rless_self n _).mono ?_; rintro e w' ⟨rfl, rfl⟩)
  go_ret
  exact ⟨rfl, rfl⟩
end Go.Proofs.YtdddbkghleblhaaGreatDoor.lx
namespace Go.Proofs.YtdddbkghleblhaaGreatDoor.lx
open Go.ChangeShapes Go.WideShapes Go.ChangeAt Go.RowKit
set_option linter.unusedVariables false
/-! the document's Same, of two rows that lie for the same alternatives -/
/-- an element's cells, in any later world -/
theorem ListOf.at_ {α : Type} {c : Nat} {E : Elem α} {w : World} {A : Nat → Prop} {ao : Option Addr} {cap : Nat} {xs : List α} (h : ListOf c E w A (.slice ao xs.length cap) xs) {k : Nat} {x : α} (hx : xs[k]? = some x) : ∃ g, ao = some ⟨g, 0, none⟩ ∧ g < w.heap.size ∧ ∃ cs, cs.length = c ∧ (∀ j u, cs[j]? = some u → w.cell? ⟨g, k * c + j, none⟩ = some u) ∧ E w A x cs := by
  obtain ⟨_, ao', cap', e, h⟩ := h
  injection e with e1 e2 e3
  subst e1
  obtain ⟨hk, _⟩ := List.getElem?_eq_some_iff.1 hx
  obtain ⟨g, e, hg, _, h5⟩ := h (by omega)
  exact ⟨g, e, hg, h5 k x hx⟩
def SameT (P : World → (Nat → Prop) → Value → List Altn → Prop) : Prop := ∀ (w : World) (A B : Nat → Prop) (v1 v2 : Value) (bs : List Altn), P w A v1 bs → P w B v2 bs → Calls Tryz.prog 8 #[v1, v2] w fun e w' => e = .returned (.bool true) ∧ Below w.heap.size w w'
set_option maxRecDepth 100000 in
set_option maxHeartbeats 4000000 in
theorem dsame_list (P : World → (Nat → Prop) → Value → List Altn → Prop) (hP : KeepsP P) (hF : ∀ (w : World) (A : Nat → Prop) (v : Value) (bs : List Altn), P w A v bs → ∃ ao cap, v = .slice ao bs.length cap) (hrec : SameT P) : SameT (fun w A v bs => ListOf 3 (EAlt P) w A v bs) := by
  intro w A B v1 v2 bs h1 h2
  obtain ⟨ao, cap, rfl⟩ := ListOf.form h1
  obtain ⟨ao2, cap2, rfl⟩ := ListOf.form h2
  have hl := h1.1
  unfold maxLen at hl
  have H1 := Lib.hid h1
  have H2 := Lib.hid h2
  have HP := Lib.hid hP
  have HC := Lib.hid hrec
  have HF := Lib.hid hF
  generalize hn : bs.length = n at *
  have HN := Lib.hid hn
  clear h1 h2 hrec hP hF hn
  go_enter Tryz.func8, Tryz.ntmps8
  go_wp2_with fail
  go_loopw [5] (fun i wr => ∃ (k : Nat), i = .int .i64 k ∧ k ≤ n ∧ Below w.heap.size w wr) (fun i _ => n - (intOf i).toNat)
  case atStart => exact ⟨0, rfl, Nat.zero_le _, Below.refl _ _⟩
  case round =>
    obtain ⟨k, rfl, hk, hbr⟩ := hrel
    have HBR := Lib.hid hbr
    clear hbr
    by_cases hlt : k < n
    · obtain ⟨x, hx⟩ : ∃ x, bs[k]? = some x := ⟨_, List.getElem?_eq_getElem (by rw [HN.out]; exact hlt)⟩
      obtain ⟨g, rfl, hg, cs, _, hcs, iv, rfl, hiv⟩ := ListOf.at_ (by rw [HN.out]; exact H1.out) hx
      obtain ⟨g2, rfl, hg2, cs2, _, hcs2, iv2, rfl, hiv2⟩ := ListOf.at_ (by rw [HN.out]; exact H2.out) hx
      obtain ⟨ai, ci, rfl⟩ := hiv.form
      obtain ⟨ai2, ci2, rfl⟩ := hiv2.form
      obtain ⟨x1, x2, xs⟩ := x
      have hcell : ∀ (wq : World), Below w.heap.size w wq → wq.cell? ⟨g, k * 3, none⟩ = some (.int .i64 x1) ∧ wq.cell? ⟨g, k * 3 + 1, none⟩ = some (.float .f64 x2) ∧ wq.cell? ⟨g, k * 3 + 2, none⟩ = some (.slice ai xs.length ci) ∧ wq.cell? ⟨g2, k * 3, none⟩ = some (.int .i64 x1) ∧ wq.cell? ⟨g2, k * 3 + 1, none⟩ = some (.float .f64 x2) ∧ wq.cell? ⟨g2, k * 3 + 2, none⟩ = some (.slice ai2 xs.length ci2) := fun wq hb =>
        ⟨(hb.cell (p := ⟨g, k * 3, none⟩) hg).trans (hcs 0 _ rfl), (hb.cell (p := ⟨g, k * 3 + 1, none⟩) hg).trans (hcs 1 _ rfl), (hb.cell (p := ⟨g, k * 3 + 2, none⟩) hg).trans (hcs 2 _ rfl), (hb.cell (p := ⟨g2, k * 3, none⟩) hg2).trans (hcs2 0 _ rfl), (hb.cell (p := ⟨g2, k * 3 + 1, none⟩) hg2).trans (hcs2 1 _ rfl), (hb.cell (p := ⟨g2, k * 3 + 2, none⟩) hg2).trans (hcs2 2 _ rfl)⟩
      have HCELL := Lib.hid hcell
      have HIV := Lib.hid hiv
      have HIV2 := Lib.hid hiv2
      have hm := hiv.1
      have hiv : True := trivial
      clear hiv hiv2 hcs hcs2 hcell hx H1 H2
      obtain ⟨c0, c1, c2, d0, d1, d2⟩ := HCELL.out wr HBR.out
      have hm : xs.length ≤ maxLen := hm
      unfold maxLen at hm
      generalize hms : xs.length = m at *
      have HMS := Lib.hid hms
      clear hms
      have hgr : g < wr.heap.size := Nat.lt_of_lt_of_le hg HBR.out.size
      have hgr2 : g2 < wr.heap.size := Nat.lt_of_lt_of_le hg2 HBR.out.size
      go_upto_region 6 with fail
      go_quiet ((go_at_call 19; exact Calls.quiet_of_same ((rsame_self _ _).mono fun _ _ h => ⟨h.1, h.2.symm⟩)))
      have hq : Below wr.heap.size wr (wr.drewN nq) := ⟨rfl, by simp [World.drewN], rfl, Nat.le_refl _, fun _ _ => rfl⟩
      generalize wr.drewN nq = wq at *
      have HBQ := Lib.hid (HBR.out.trans (hq.mono HBR.out.size))
      clear hq c0 c1 c2 d0 d1 d2
      obtain ⟨c0, c1, c2, d0, d1, d2⟩ := HCELL.out wq HBQ.out
      go_wp2_with fail
      clear c0 c1 c2 d0 d1 d2
      go_loopw [6] (fun j wi => ∃ (i : Nat), j = .int .i64 i ∧ i ≤ m ∧ Below w.heap.size w wi) (fun j _ => m - (intOf j).toNat)
      case atStart => exact ⟨0, rfl, Nat.zero_le _, HBQ.out⟩
      case round =>
        obtain ⟨i, rfl, hi, hbi⟩ := hrel
        obtain ⟨c0, c1, c2, d0, d1, d2⟩ := HCELL.out wr hbi
        have HBI := Lib.hid hbi
        have hzi := hbi.size
        clear hbi
        by_cases hli : i < m
        · obtain ⟨y, hy⟩ : ∃ y, xs[i]? = some y := ⟨_, List.getElem?_eq_getElem (by rw [HMS.out]; exact hli)⟩
          obtain ⟨g3, rfl, hg3, cs3, _, hcs3, av, rfl, hav⟩ := ListOf.at_ (by rw [HMS.out]; exact HIV.out) hy
          obtain ⟨g4, rfl, hg4, cs4, _, hcs4, av4, rfl, hav4⟩ := ListOf.at_ (by rw [HMS.out]; exact HIV2.out) hy
          obtain ⟨ay, cy, rfl⟩ := HF.out _ _ _ _ hav
          obtain ⟨ay4, cy4, rfl⟩ := HF.out _ _ _ _ hav4
          have HAV := Lib.hid hav
          have HAV4 := Lib.hid hav4
          have e0 : wr.cell? ⟨g3, i * 5, none⟩ = some (.int .i64 y.at_) := (HBI.out.cell (p := ⟨g3, i * 5, none⟩) hg3).trans (hcs3 0 _ rfl)
          have e1 : wr.cell? ⟨g3, i * 5 + 1, none⟩ = some (.int .i64 y.kind) := (HBI.out.cell (p := ⟨g3, i * 5 + 1, none⟩) hg3).trans (hcs3 1 _ rfl)
          have e2 : wr.cell? ⟨g3, i * 5 + 2, none⟩ = some (.string (S y.text)) := (HBI.out.cell (p := ⟨g3, i * 5 + 2, none⟩) hg3).trans (hcs3 2 _ rfl)
          have e3 : wr.cell? ⟨g3, i * 5 + 3, none⟩ = some (.slice ay y.alts.length cy) := (HBI.out.cell (p := ⟨g3, i * 5 + 3, none⟩) hg3).trans (hcs3 3 _ rfl)
          have e4 : wr.cell? ⟨g3, i * 5 + 4, none⟩ = some (.int .u8 y.op) := (HBI.out.cell (p := ⟨g3, i * 5 + 4, none⟩) hg3).trans (hcs3 4 _ rfl)
          have HE : Hid (∀ wz, Below w.heap.size w wz → wz.cell? ⟨g4, i * 5, none⟩ = some (.int .i64 y.at_) ∧ wz.cell? ⟨g4, i * 5 + 1, none⟩ = some (.int .i64 y.kind) ∧ wz.cell? ⟨g4, i * 5 + 2, none⟩ = some (.string (S y.text)) ∧ wz.cell? ⟨g4, i * 5 + 3, none⟩ = some (.slice ay4 y.alts.length cy4) ∧ wz.cell? ⟨g4, i * 5 + 4, none⟩ = some (.int .u8 y.op)) := Lib.hid fun wz hb =>
            ⟨(hb.cell (p := ⟨g4, i * 5, none⟩) hg4).trans (hcs4 0 _ rfl), (hb.cell (p := ⟨g4, i * 5 + 1, none⟩) hg4).trans (hcs4 1 _ rfl), (hb.cell (p := ⟨g4, i * 5 + 2, none⟩) hg4).trans (hcs4 2 _ rfl), (hb.cell (p := ⟨g4, i * 5 + 3, none⟩) hg4).trans (hcs4 3 _ rfl), (hb.cell (p := ⟨g4, i * 5 + 4, none⟩) hg4).trans (hcs4 4 _ rfl)⟩
          clear hav hav4 hcs3 hcs4 hy
          obtain ⟨Y1, Y2, Y3, Y4, Y5⟩ := y
          simp only [Itm.at_, Itm.kind, Itm.text, Itm.alts, Itm.op] at e0 e1 e2 e3 e4 HE HAV HAV4
          go_upto_region 12 with fail
          have b7 := Blk.new wr 70 #[.int .i64 Y1, .int .i64 Y2, .string (S Y3), .slice ay Y4.length cy, .int .u8 Y5]
          have hb7 : Below wr.heap.size wr (wr.alloc (.cells #[.int .i64 Y1, .int .i64 Y2, .string (S Y3), .slice ay Y4.length cy, .int .u8 Y5] 70)) := (Below.refl _ _).alloc (Nat.le_refl _) _
          clear e0 e1 e2 e3 e4 c0 c1 c2 d0 d1 d2
          generalize wr.alloc (.cells #[.int .i64 Y1, .int .i64 Y2, .string (S Y3), .slice ay Y4.length cy, .int .u8 Y5] 70) = w7 at *
          have hbi7 := HBI.out.trans (hb7.mono hzi)
          have HBI7 := Lib.hid hbi7
          have B7 := Lib.hid b7
          obtain ⟨e0, e1, e2, e3, e4⟩ := HE.out w7 hbi7
          obtain ⟨c0, c1, c2, d0, d1, d2⟩ := HCELL.out w7 hbi7
          have hz7 := hbi7.size
          clear b7 hb7 hbi7
          go_upto_region 13 with fail
          have b8 := Blk.new w7 70 #[.int .i64 Y1, .int .i64 Y2, .string (S Y3), .slice ay4 Y4.length cy4, .int .u8 Y5]
          have hb8 : Below w7.heap.size w7 (w7.alloc (.cells #[.int .i64 Y1, .int .i64 Y2, .string (S Y3), .slice ay4 Y4.length cy4, .int .u8 Y5] 70)) := (Below.refl _ _).alloc (Nat.le_refl _) _
          clear e0 e1 e2 e3 e4 c0 c1 c2 d0 d1 d2
          generalize w7.alloc (.cells #[.int .i64 Y1, .int .i64 Y2, .string (S Y3), .slice ay4 Y4.length cy4, .int .u8 Y5] 70) = w8 at *
          have hbi8 := HBI7.out.trans (hb8.mono hz7)
          have HBI8 := Lib.hid hbi8
          have b7 := B7.out.below hb8 B7.out.lt
          have e0 : w8.cell? ⟨wr.heap.size, 0, none⟩ = some (.int .i64 Y1) := b7.cell 0
          have e1 : w8.cell? ⟨wr.heap.size, 1, none⟩ = some (.int .i64 Y2) := b7.cell 1
          have e2 : w8.cell? ⟨wr.heap.size, 2, none⟩ = some (.string (S Y3)) := b7.cell 2
          have e3 : w8.cell? ⟨wr.heap.size, 3, none⟩ = some (.slice ay Y4.length cy) := b7.cell 3
          have e4 : w8.cell? ⟨wr.heap.size, 4, none⟩ = some (.int .u8 Y5) := b7.cell 4
          have f0 : w8.cell? ⟨w7.heap.size, 0, none⟩ = some (.int .i64 Y1) := b8.cell 0
          have f1 : w8.cell? ⟨w7.heap.size, 1, none⟩ = some (.int .i64 Y2) := b8.cell 1
          have f2 : w8.cell? ⟨w7.heap.size, 2, none⟩ = some (.string (S Y3)) := b8.cell 2
          have f3 : w8.cell? ⟨w7.heap.size, 3, none⟩ = some (.slice ay4 Y4.length cy4) := b8.cell 3
          have f4 : w8.cell? ⟨w7.heap.size, 4, none⟩ = some (.int .u8 Y5) := b8.cell 4
          have hsm := HC.out w8 _ _ _ _ Y4 (HP.out _ _ _ _ _ _ HAV.out (fun g hg hA => ⟨hA, hbi8.block g hg⟩) hbi8.size) (HP.out _ _ _ _ _ _ HAV4.out (fun g hg hA => ⟨hA, hbi8.block g hg⟩) hbi8.size)
          have hz8 := hbi8.size
          clear b7 b8 hb8 hbi8
          go_wp2_with fail
          refine hsm.mono ?_
          rintro e w9 ⟨rfl, hb9⟩
          clear e0 e1 e2 e3 e4 f0 f1 f2 f3 f4 hsm
          go_wp2_with fail
          exact ⟨⟨i + 1, by go_num, hli, HBI8.out.trans (hb9.mono hz8)⟩, by simp only [intOf]; omega⟩
        · obtain rfl : i = m := by omega
          go_wp2_with fail
          exact ⟨⟨k + 1, by go_num, hlt, HBI.out⟩, by simp only [intOf]; omega⟩
    · obtain rfl : k = n := by omega
      go_wp2_with fail
      go_ret
      exact ⟨rfl, HBR.out⟩
theorem dsame_any : ∀ k, SameT (AltsAt k)
  | 0 => by
    intro w A B v1 v2 bs h1 h2
    obtain ⟨rfl, ao, cap, rfl⟩ := h1
    obtain ⟨_, ao2, cap2, rfl⟩ := h2
    exact dsame_list (fun _ _ _ _ => False) (fun _ _ _ _ _ _ h _ _ => h.elim) (fun _ _ _ _ h => h.elim) (fun _ _ _ _ _ _ h _ => h.elim) w A B _ _ [] ⟨by simp, ao, cap, rfl, fun h => absurd h (by simp)⟩ ⟨by simp, ao2, cap2, rfl, fun h => absurd h (by simp)⟩
  | k + 1 => dsame_list (AltsAt k) (keepsAlts k) (fun _ _ _ _ h => h.form) (dsame_any k)
end Go.Proofs.YtdddbkghleblhaaGreatDoor.lx
