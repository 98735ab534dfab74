import Derived.Test.YtffbkhebkhbanaaGreatDoorLxw
namespace Go.Proofs.YtffbkhebkhbanaaGreatDoor.lx
open Go.ChangeShapes Go.WideShapes Go.ChangeAt Go.RowKit
set_option linter.unusedVariables false
attribute [local go_sem] run_store_float
theorem below_alloc_draw (w : World) (o : Obj) (n : Nat) : Below w.heap.size w ((w.alloc o).drewN n) :=
  ((Below.refl w.heap.size w).alloc (Nat.le_refl _) o).trans (Qt.below (w := w.alloc o) (w' := (w.alloc o).drewN n) ⟨n, rfl⟩)
theorem rerr (a e : Nat) : rwordV a (.error e) = .tuple #[.agg #[.int .i64 0, .int .i64 0, .string ⟨#[]⟩, .float .f64 0], .int .i64 a, .int .i64 e] := rfl
set_option maxRecDepth 100000 in
set_option maxHeartbeats 4000000 in
theorem rword_quote (s : ByteArray) (hs : s.size ≤ maxLen) (a : Nat) (ha : a < s.size) (hc : s[a] = 39) (w : World) : Calls Tryz.prog 29 #[.string s, .int .i64 a] w fun e w' => e = .returned (rwordV a (wordAt (s.data.toList.drop a))) ∧ Below w.heap.size w w' := by
  have hlt := rletter_n 39 (by decide)
  rw [show letN 39 = false from by decide] at hlt
  have k39 : s[a].toNat = 39 := by rw [hc]; rfl
  have hl : s.data.toList.length = s.size := by simp
  have hst := Runs.start quoB s.data.toList (a + 1) (by omega)
  have HST := Lib.hid hst
  have HW : Hid (∀ n, runP quoB (s.data.toList.drop (a + 1)) = n → wordAt (s.data.toList.drop a) = if n = 0 ∨ (s.data.toList.drop (a + 1 + n)).head? ≠ some 39 then .error 3 else if n ≤ 16 then .ok (2, (s.data.toList.drop (a + 1)).take n, 0, n + 1) else .error 1) := Lib.hid (fun n hn => by
    rw [bytes_drop s a ha, hc, word_39, hn, List.drop_drop])
  have HX : Hid (∀ k, s.extract (a + 1) k = S ((s.data.toList.drop (a + 1)).take (k - (a + 1)))) := Lib.hid (fun k => ext_S s (a + 1) k)
  have HLT := Lib.hid hlt
  unfold maxLen at hs
  clear hl hst hc hlt
  go_enter Tryz.func29, Tryz.ntmps29
  go_wp2_with (go_at_call 33; refine (HLT.out _).mono ?_; rintro e w1 ⟨rfl, rfl⟩)
  go_loop [8] (fun i => ∃ k : Nat, i = .int .i64 k ∧ Runs quoB s.data.toList (a + 1) k) (fun i => s.size - (intOf i).toNat)
  case atStart => exact ⟨a + 1, by go_num, HST.out⟩
  case round =>
    obtain ⟨k, rfl, hr⟩ := hrel
    have hk1 : a + 1 ≤ k := hr.1
    have hk2 : k ≤ s.size := by have := hr.2.1; simpa using this
    have HR := Lib.hid hr
    clear hr k39
    by_cases hlk : k < s.size
    · have hin := rquot_n s[k].toNat (b_lt _)
      rw [← quo_n'] at hin
      cases hb : quoB s[k]
      · rw [hb] at hin
        have hn := HR.out.off hlk hb
        have hw := HW.out _ hn
        rw [show a + 1 + (k - (a + 1)) = k from by omega, bytes_drop s k hlk] at hw
        clear hb hn
        have hnk : ((k : Int) == (s.size : Int)) = false := by rw [beq_eq_false_iff_ne]; omega
        by_cases h39 : s[k] = 39
        · have m1 : ((s[k].toNat : Int) != 39) = false := by rw [h39]; decide
          by_cases h0 : k = a + 1
          · have m2 : ((k : Int) == (a : Int) + 1) = true := by rw [beq_iff_eq]; omega
            have HV : Hid (rwordV a (wordAt (s.data.toList.drop a)) = _) := Lib.hid (by rw [hw, if_pos (.inl (by omega)), rerr])
            clear hw h39 h0
            go_wp2_with (go_at_call 36; refine (hin _).mono ?_; rintro e w1 ⟨rfl, rfl⟩)
            refine bodyPost_ret (v := .tuple #[.agg #[.int .i64 0, .int .i64 0, .string ⟨#[]⟩, .float .f64 0], .int .i64 a, .int .i64 3]) (by simp [results, Tryz.results29, go_sem]) rfl ⟨by rw [HV.out]; rfl, ?_⟩
            go_grown
          · have m2 : ((k : Int) == (a : Int) + 1) = false := by rw [beq_eq_false_iff_ne]; omega
            have hcond : ¬ (k - (a + 1) = 0 ∨ (s[k] :: s.data.toList.drop (k + 1)).head? ≠ some 39) := by
              rw [h39]
              simp
              omega
            rw [if_neg hcond] at hw
            by_cases h16 : k - (a + 1) ≤ 16
            · have HV : Hid (rwordV a (wordAt (s.data.toList.drop a)) = .tuple #[.agg #[.int .i64 2, .int .i64 a, .string (s.extract (a + 1) k), .float .f64 0], .int .i64 (k + 1 : Nat), .int .i64 0]) := Lib.hid (by
                rw [hw, if_pos h16, HX.out]
                unfold rwordV TV
                simp only
                rw [show a + (k - (a + 1) + 1) + 1 = k + 1 from by omega]
                rfl)
              clear hw h39 hcond
              go_wp2_with (go_at_call 36; refine (hin _).mono ?_; rintro e w1 ⟨rfl, rfl⟩)
              refine bodyPost_ret (v := .tuple #[.agg #[.int .i64 2, .int .i64 a, .string (s.extract (a + 1) k), .float .f64 0], .int .i64 (k + 1 : Nat), .int .i64 0]) (by simp [results, Tryz.results29, go_sem]) rfl ⟨by rw [HV.out], ?_⟩
              go_grown
            · have HV : Hid (rwordV a (wordAt (s.data.toList.drop a)) = _) := Lib.hid (by rw [hw, if_neg h16, rerr])
              clear hw h39 hcond
              go_wp2_with (go_at_call 36; refine (hin _).mono ?_; rintro e w1 ⟨rfl, rfl⟩)
              refine bodyPost_ret (v := .tuple #[.agg #[.int .i64 0, .int .i64 0, .string ⟨#[]⟩, .float .f64 0], .int .i64 a, .int .i64 1]) (by simp [results, Tryz.results29, go_sem]) rfl ⟨by rw [HV.out]; rfl, ?_⟩
              go_grown
        · have m1 : ((s[k].toNat : Int) != 39) = true := by
            rw [bne_iff_ne]
            intro e
            exact h39 (UInt8.toNat_inj.1 (by rw [show s[k].toNat = 39 from by omega]; rfl))
          have HV : Hid (rwordV a (wordAt (s.data.toList.drop a)) = _) := Lib.hid (by rw [hw, if_pos (.inr (fun e => h39 (Option.some.inj e))), rerr])
          clear hw h39
          go_wp2_with (go_at_call 36; refine (hin _).mono ?_; rintro e w1 ⟨rfl, rfl⟩)
          refine bodyPost_ret (v := .tuple #[.agg #[.int .i64 0, .int .i64 0, .string ⟨#[]⟩, .float .f64 0], .int .i64 a, .int .i64 3]) (by simp [results, Tryz.results29, go_sem]) rfl ⟨by rw [HV.out]; rfl, ?_⟩
          go_grown
      · rw [hb] at hin
        have HR2 := Lib.hid (HR.out.on hlk hb)
        clear hb
        go_wp2_with (go_at_call 36; refine (hin _).mono ?_; rintro e w1 ⟨rfl, rfl⟩)
        go_round
        case rel => exact ⟨k + 1, by go_num, HR2.out⟩
        case measure => simp [intOf]; omega
    · obtain rfl : k = s.size := by omega
      have hn := HR.out.fin
      have hw := HW.out _ hn
      rw [show a + 1 + (s.size - (a + 1)) = s.size from by omega] at hw
      have HV : Hid (rwordV a (wordAt (s.data.toList.drop a)) = _) := Lib.hid (by rw [hw, if_pos (.inr (by rw [show s.data.toList.drop s.size = [] from List.drop_eq_nil_of_le (by simp)]; simp)), rerr])
      clear hn hw
      go_wp2_with fail
      refine bodyPost_ret (v := .tuple #[.agg #[.int .i64 0, .int .i64 0, .string ⟨#[]⟩, .float .f64 0], .int .i64 a, .int .i64 3]) (by simp [results, Tryz.results29, go_sem]) rfl ⟨by rw [HV.out]; rfl, ?_⟩
      go_grown
set_option maxRecDepth 100000 in
set_option maxHeartbeats 4000000 in
theorem rword_sign (s : ByteArray) (hs : s.size ≤ maxLen) (a : Nat) (ha : a < s.size) (h1 : letB s[a] = false) (h2 : s[a] ≠ 39) (h3 : s[a] ≠ 37) (w : World) : Calls Tryz.prog 29 #[.string s, .int .i64 a] w fun e w' => e = .returned (rwordV a (wordAt (s.data.toList.drop a))) ∧ Below w.heap.size w w' := by
  have hlt := rletter_n s[a].toNat (b_lt _)
  rw [← let_n, h1] at hlt
  have hsg := rsign_any s[a]
  have k2 : ((s[a].toNat : Int) == 39) = false := by
    rw [beq_eq_false_iff_ne]
    intro e
    exact h2 (UInt8.toNat_inj.1 (by rw [show s[a].toNat = 39 from by omega]; rfl))
  have k3 : ((s[a].toNat : Int) == 37) = false := by
    rw [beq_eq_false_iff_ne]
    intro e
    exact h3 (UInt8.toNat_inj.1 (by rw [show s[a].toNat = 37 from by omega]; rfl))
  have hx : s.extract a (a + 1) = S [s[a]] := by
    rw [ext_S, show a + 1 - a = 1 from by omega, bytes_drop s a ha]
    rfl
  have HX := Lib.hid hx
  unfold maxLen at hs
  cases h4 : sgnB s[a]
  · rw [h4] at hsg
    have HV : Hid (rwordV a (wordAt (s.data.toList.drop a)) = .tuple #[.agg #[.int .i64 0, .int .i64 0, .string ⟨#[]⟩, .float .f64 0], .int .i64 a, .int .i64 2]) := Lib.hid (by
      rw [bytes_drop s a ha, word_cons, h1, h4, beq_eq_false_iff_ne.2 h2, beq_eq_false_iff_ne.2 h3]
      rfl)
    clear h1 h2 h3 h4 hx
    go_enter Tryz.func29, Tryz.ntmps29
    go_wp2_with (first | (go_at_call 33; refine (hlt _).mono ?_; rintro e w1 ⟨rfl, rfl⟩) | (go_at_call 51; refine (hsg _).mono ?_; rintro e w2 ⟨rfl, rfl⟩))
    refine bodyPost_ret (v := .tuple #[.agg #[.int .i64 0, .int .i64 0, .string ⟨#[]⟩, .float .f64 0], .int .i64 a, .int .i64 2]) (by simp [results, Tryz.results29, go_sem]) rfl ⟨by rw [HV.out], ?_⟩
    go_grown
  · rw [h4] at hsg
    have HV : Hid (rwordV a (wordAt (s.data.toList.drop a)) = .tuple #[.agg #[.int .i64 4, .int .i64 a, .string (s.extract a (a + 1)), .float .f64 0], .int .i64 (a + 1 : Nat), .int .i64 0]) := Lib.hid (by
      rw [bytes_drop s a ha, word_cons, h1, h4, beq_eq_false_iff_ne.2 h2, beq_eq_false_iff_ne.2 h3, HX.out]
      rfl)
    clear h1 h2 h3 h4 hx
    go_enter Tryz.func29, Tryz.ntmps29
    go_wp2_with (first | (go_at_call 33; refine (hlt _).mono ?_; rintro e w1 ⟨rfl, rfl⟩) | (go_at_call 51; refine (hsg _).mono ?_; rintro e w2 ⟨rfl, rfl⟩))
    refine bodyPost_ret (v := .tuple #[.agg #[.int .i64 4, .int .i64 a, .string (s.extract a (a + 1)), .float .f64 0], .int .i64 (a + 1 : Nat), .int .i64 0]) (by simp [results, Tryz.results29, go_sem]) rfl ⟨by rw [HV.out], ?_⟩
    go_grown
/-- what may stand in a weight, as the document asks it -/
theorem wgt_ways (c : UInt8) : (digB c = true ∧ wgtB c = true) ∨ (digB c = false ∧ letB c = true ∧ wgtB c = true) ∨ (digB c = false ∧ letB c = false ∧ c = 46 ∧ wgtB c = true) ∨ (digB c = false ∧ letB c = false ∧ c = 45 ∧ wgtB c = true) ∨ (digB c = false ∧ letB c = false ∧ c ≠ 46 ∧ c ≠ 45 ∧ wgtB c = false) := by
  unfold wgtB
  cases h1 : digB c
  · cases h2 : letB c
    · by_cases h3 : c = 46
      · subst h3
        simp
      · by_cases h4 : c = 45
        · subst h4
          simp
        · simp [h3, h4]
    · simp
  · simp
set_option maxRecDepth 100000 in
set_option maxHeartbeats 4000000 in
theorem rword_weight (s : ByteArray) (hs : s.size ≤ maxLen) (a : Nat) (ha : a < s.size) (hc : s[a] = 37) (w : World) : Calls Tryz.prog 29 #[.string s, .int .i64 a] w fun e w' => e = .returned (rwordV a (wordAt (s.data.toList.drop a))) ∧ Below w.heap.size w w' := by
  have hlt := rletter_n 37 (by decide)
  rw [show letN 37 = false from by decide] at hlt
  have k37 : s[a].toNat = 37 := by rw [hc]; rfl
  have hl : s.data.toList.length = s.size := by simp
  have hst := Runs.start wgtB s.data.toList (a + 1) (by omega)
  have HST := Lib.hid hst
  have HW : Hid (∀ n, runP wgtB (s.data.toList.drop (a + 1)) = n → wordAt (s.data.toList.drop a) = if readOk ((s.data.toList.drop (a + 1)).take n) = true then .ok (3, (s.data.toList.drop (a + 1)).take n, readF ((s.data.toList.drop (a + 1)).take n), n) else .error 4) := Lib.hid (fun n hn => by
    rw [bytes_drop s a ha, hc, word_37, hn])
  have HX : Hid (∀ k, s.extract (a + 1) k = S ((s.data.toList.drop (a + 1)).take (k - (a + 1)))) := Lib.hid (fun k => ext_S s (a + 1) k)
  have HXL : Hid (∀ k, (s.extract (a + 1) k).data.toList = (s.data.toList.drop (a + 1)).take (k - (a + 1))) := Lib.hid (fun k => ext_list s (a + 1) k)
  have HRD : Hid (∀ k w, Calls Tryz.prog 43 #[.string (s.extract (a + 1) k)] w fun e w' => e = .returned (.tuple #[.float .f64 (readF (s.extract (a + 1) k).data.toList), .bool (readOk (s.extract (a + 1) k).data.toList)]) ∧ Qt w w') := Lib.hid (fun k w => rread_any _ (by simp [ByteArray.size_extract]; omega) w)
  have HLT := Lib.hid hlt
  unfold maxLen at hs
  clear hl hst hc hlt
  go_enter Tryz.func29, Tryz.ntmps29
  go_wp2_with (go_at_call 33; refine (HLT.out _).mono ?_; rintro e w1 ⟨rfl, rfl⟩)
  go_loop [8] (fun i => ∃ k : Nat, i = .int .i64 k ∧ Runs wgtB s.data.toList (a + 1) k) (fun i => s.size - (intOf i).toNat)
  case atStart => exact ⟨a + 1, by go_num, HST.out⟩
  case round =>
    obtain ⟨k, rfl, hr⟩ := hrel
    have hk1 : a + 1 ≤ k := hr.1
    have hk2 : k ≤ s.size := by have := hr.2.1; simpa using this
    have HR := Lib.hid hr
    clear hr k37
    have hend : ∀ n, k = a + 1 + n → runP wgtB (s.data.toList.drop (a + 1)) = n → rwordV a (wordAt (s.data.toList.drop a)) = if readOk (s.extract (a + 1) k).data.toList = true then .tuple #[.agg #[.int .i64 3, .int .i64 a, .string (s.extract (a + 1) k), .float .f64 (readF (s.extract (a + 1) k).data.toList)], .int .i64 k, .int .i64 0] else .tuple #[.agg #[.int .i64 0, .int .i64 0, .string ⟨#[]⟩, .float .f64 0], .int .i64 a, .int .i64 4] := fun n e hn => by
      subst e
      rw [HW.out n hn, HXL.out, HX.out, show a + 1 + n - (a + 1) = n from by omega]
      split
      · unfold rwordV TV
        simp only
        rw [show a + n + 1 = a + 1 + n from by omega]
        rfl
      · exact rerr a 4
    have HE := Lib.hid hend
    clear hend
    by_cases hlk : k < s.size
    · have hdg := rdigit_n s[k].toNat (b_lt _)
      have hle := rletter_n s[k].toNat (b_lt _)
      rw [← dig_n] at hdg
      rw [← let_n] at hle
      rcases wgt_ways s[k] with ⟨h1, hb⟩ | ⟨h1, h2, hb⟩ | ⟨h1, h2, h3, hb⟩ | ⟨h1, h2, h3, hb⟩ | ⟨h1, h2, h3, h4, hb⟩
      · rw [h1] at hdg
        have HR2 := Lib.hid (HR.out.on hlk hb)
        clear h1 hb hle
        go_wp2_with (go_at_call 50; refine (hdg _).mono ?_; rintro e w1 ⟨rfl, rfl⟩)
        go_round
        case rel => exact ⟨k + 1, by go_num, HR2.out⟩
        case measure => simp [intOf]; omega
      · rw [h1] at hdg
        rw [h2] at hle
        have HR2 := Lib.hid (HR.out.on hlk hb)
        clear h1 h2 hb
        go_wp2_with (first | (go_at_call 50; refine (hdg _).mono ?_; rintro e w1 ⟨rfl, rfl⟩) | (go_at_call 33; refine (hle _).mono ?_; rintro e w1 ⟨rfl, rfl⟩))
        go_round
        case rel => exact ⟨k + 1, by go_num, HR2.out⟩
        case measure => simp [intOf]; omega
      · rw [h1] at hdg
        rw [h2] at hle
        have m1 : ((s[k].toNat : Int) == 46) = true := by rw [h3]; rfl
        have HR2 := Lib.hid (HR.out.on hlk hb)
        clear h1 h2 h3 hb
        go_wp2_with (first | (go_at_call 50; refine (hdg _).mono ?_; rintro e w1 ⟨rfl, rfl⟩) | (go_at_call 33; refine (hle _).mono ?_; rintro e w1 ⟨rfl, rfl⟩))
        go_round
        case rel => exact ⟨k + 1, by go_num, HR2.out⟩
        case measure => simp [intOf]; omega
      · rw [h1] at hdg
        rw [h2] at hle
        have m1 : ((s[k].toNat : Int) == 46) = false := by rw [h3]; decide
        have m2 : ((s[k].toNat : Int) == 45) = true := by rw [h3]; rfl
        have HR2 := Lib.hid (HR.out.on hlk hb)
        clear h1 h2 h3 hb
        go_wp2_with (first | (go_at_call 50; refine (hdg _).mono ?_; rintro e w1 ⟨rfl, rfl⟩) | (go_at_call 33; refine (hle _).mono ?_; rintro e w1 ⟨rfl, rfl⟩))
        go_round
        case rel => exact ⟨k + 1, by go_num, HR2.out⟩
        case measure => simp [intOf]; omega
      · rw [h1] at hdg
        rw [h2] at hle
        have m1 : ((s[k].toNat : Int) == 46) = false := by
          rw [beq_eq_false_iff_ne]
          intro e
          exact h3 (UInt8.toNat_inj.1 (by rw [show s[k].toNat = 46 from by omega]; rfl))
        have m2 : ((s[k].toNat : Int) == 45) = false := by
          rw [beq_eq_false_iff_ne]
          intro e
          exact h4 (UInt8.toNat_inj.1 (by rw [show s[k].toNat = 45 from by omega]; rfl))
        have hn := HR.out.off hlk hb
        have he := HE.out (k - (a + 1)) (by omega) hn
        have hrd := HRD.out k
        clear h1 h2 h3 h4 hb hn
        generalize readF (s.extract (a + 1) k).data.toList = f at *
        cases hok : readOk (s.extract (a + 1) k).data.toList
        · rw [hok] at hrd he
          have HV := Lib.hid he
          clear he hok
          go_wp2_with (first | (go_at_call 50; refine (hdg _).mono ?_; rintro e w1 ⟨rfl, rfl⟩) | (go_at_call 33; refine (hle _).mono ?_; rintro e w1 ⟨rfl, rfl⟩) | (go_at_call 43; refine (hrd _).mono ?_; rintro e w1 ⟨rfl, nq, rfl⟩))
          refine bodyPost_ret (v := .tuple #[.agg #[.int .i64 0, .int .i64 0, .string ⟨#[]⟩, .float .f64 0], .int .i64 a, .int .i64 4]) (by simp [results, Tryz.results29, go_sem]) rfl ⟨by rw [HV.out]; rfl, ?_⟩
          go_grown
          exact below_alloc_draw _ _ _
        · rw [hok] at hrd he
          have HV := Lib.hid he
          clear he hok
          go_wp2_with (first | (go_at_call 50; refine (hdg _).mono ?_; rintro e w1 ⟨rfl, rfl⟩) | (go_at_call 33; refine (hle _).mono ?_; rintro e w1 ⟨rfl, rfl⟩) | (go_at_call 43; refine (hrd _).mono ?_; rintro e w1 ⟨rfl, nq, rfl⟩))
          refine bodyPost_ret (v := .tuple #[.agg #[.int .i64 3, .int .i64 a, .string (s.extract (a + 1) k), .float .f64 f], .int .i64 k, .int .i64 0]) (by simp [results, Tryz.results29, go_sem]) rfl ⟨by rw [HV.out]; rfl, ?_⟩
          go_grown
          exact below_alloc_draw _ _ _
    · obtain rfl : k = s.size := by omega
      have hn := HR.out.fin
      have he := HE.out (s.size - (a + 1)) (by omega) hn
      have hrd := HRD.out s.size
      clear hn
      generalize readF (s.extract (a + 1) s.size).data.toList = f at *
      cases hok : readOk (s.extract (a + 1) s.size).data.toList
      · rw [hok] at hrd he
        have HV := Lib.hid he
        clear he hok
        go_wp2_with (go_at_call 43; refine (hrd _).mono ?_; rintro e w1 ⟨rfl, nq, rfl⟩)
        refine bodyPost_ret (v := .tuple #[.agg #[.int .i64 0, .int .i64 0, .string ⟨#[]⟩, .float .f64 0], .int .i64 a, .int .i64 4]) (by simp [results, Tryz.results29, go_sem]) rfl ⟨by rw [HV.out]; rfl, ?_⟩
        go_grown
        exact below_alloc_draw _ _ _
      · rw [hok] at hrd he
        have HV := Lib.hid he
        clear he hok
        go_wp2_with (go_at_call 43; refine (hrd _).mono ?_; rintro e w1 ⟨rfl, nq, rfl⟩)
        refine bodyPost_ret (v := .tuple #[.agg #[.int .i64 3, .int .i64 a, .string (s.extract (a + 1) s.size), .float .f64 f], .int .i64 s.size, .int .i64 0]) (by simp [results, Tryz.results29, go_sem]) rfl ⟨by rw [HV.out]; rfl, ?_⟩
        go_grown
        exact below_alloc_draw _ _ _
theorem rword_any (s : ByteArray) (hs : s.size ≤ maxLen) (a : Nat) (ha : a < s.size) (w : World) : Calls Tryz.prog 29 #[.string s, .int .i64 a] w fun e w' => e = .returned (rwordV a (wordAt (s.data.toList.drop a))) ∧ Below w.heap.size w w' := by
  cases h1 : letB s[a]
  · by_cases h2 : s[a] = 39
    · exact rword_quote s hs a ha h2 w
    · by_cases h3 : s[a] = 37
      · exact rword_weight s hs a ha h3 w
      · exact rword_sign s hs a ha h1 h2 h3 w
  · exact rword_name s hs a ha h1 w
end Go.Proofs.YtffbkhebkhbanaaGreatDoor.lx
