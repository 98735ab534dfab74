import Derived.Test.YtldamieigigncaaGreatDoorVcbg
namespace Go.Proofs.YtldamieigigncaaGreatDoor.lx
open Go.ChangeShapes Go.WideShapes Go.ChangeAt Go.RowKit Go.Shelf
set_option linter.unusedVariables false
theorem Qq.bel {B : Nat} {w w' : World} (h : Qq w w') : Below B w w' := by
  obtain ⟨n, rfl⟩ := h
  exact ⟨rfl, by simp [World.drewN], rfl, Nat.le_refl _, fun _ _ => rfl⟩
theorem ScAt.qq {w w' : World} {b hi lo : Nat} {s : Int} (h : ScAt w b hi lo s) (hq : Qq w w') : ScAt w' b hi lo s := by
  obtain ⟨n, rfl⟩ := hq
  exact ⟨h.c0, h.c1, h.c2⟩
theorem sc_set (w : World) (hi lo : Nat) (s : Int) (b : Nat) (t : TypeId) (v0 v1 v2 : Value) (hb : Blk w b t #[v0, v1, v2]) : ScAt (((w.setCell ⟨b, 0, none⟩ (.int .u64 (hi : Nat))).setCell ⟨b, 1, none⟩ (.int .u64 (lo : Nat))).setCell ⟨b, 2, none⟩ (.int .i64 s)) b hi lo s := by
  have h := ((hb.set_ 0 (.int .u64 (hi : Nat))).set_ 1 (.int .u64 (lo : Nat))).set_ 2 (.int .i64 s)
  exact ⟨h.cell 0, h.cell 1, h.cell 2⟩
theorem set_bel (w : World) (B b : Nat) (hB : B ≤ b) (v0 v1 v2 : Value) : Below B w (((w.setCell ⟨b, 0, none⟩ v0).setCell ⟨b, 1, none⟩ v1).setCell ⟨b, 2, none⟩ v2) := (((Below.refl _ _).setCell (p := ⟨b, 0, none⟩) hB v0).setCell (p := ⟨b, 1, none⟩) hB v1).setCell (p := ⟨b, 2, none⟩) hB v2
theorem odd_at (v : Nat) : bits .and .i64 (v : Int) 1 = ((v % 2 : Nat) : Int) := by
  have h : bits .and .i64 (v : Int) 1 = (v : Int) % 2 := and_nat v 1 1 (by decide) (by decide) (by decide)
  rw [h]
  omega
set_option maxRecDepth 100000 in
set_option maxHeartbeats 4000000 in
theorem short_two (m : Nat) (e : Int) (hm : 9223372036854775808 ≤ m) (hm2 : m < 18446744073709550592) (hs : m ≠ 9223372036854775808) (he : -1085 ≤ e) (he2 : e ≤ 960) (w : World) (hv : Ps w) : Calls Tryz.prog 192 #[.int .u64 m, .int .i64 e] w fun r w' => r = .returned (.tuple #[.int .u64 ((fm.shortN TT m e).1 : Nat), .int .i64 (fm.shortN TT m e).2]) ∧ Below w.heap.size w w' := by
  have he5 : -2000 ≤ e ∧ e ≤ 2000 := by omega
  have hl := l10_any (e + 11) (by omega) (by omega)
  have hT : fm.shortN TT m e = fm.tailN TT (m - 1024) (m + 1024) m (m / 2048 % 2) e (-fm.l10 (e + 11)) := by unfold fm.shortN; rw [if_neg (by omega), if_pos (by omega)]
  rw [hT]
  clear hT
  have hB : ((m : Int) == 9223372036854775808) = false := by rw [beq_eq_false_iff_ne]; omega
  have hG : decide (-1085 ≤ e) = true := by exact decide_eq_true (by omega)
  have hpp : -1000 ≤ fm.l10 (e + 11) ∧ fm.l10 (e + 11) ≤ 1000 := by unfold fm.l10; omega
  obtain ⟨Q, hQ⟩ : ∃ Q : Int, -fm.l10 (e + 11) = Q := ⟨_, rfl⟩
  rw [hQ]
  have hQ5 : 0 ≤ Q + 348 ∧ Q + 348 < 696 := by rw [← hQ]; unfold fm.l10; omega
  generalize fm.l10 (e + 11) = P at *
  obtain ⟨mn, hmn⟩ : ∃ mn : Nat, m - 1024 = mn := ⟨_, rfl⟩
  obtain ⟨mx, hmx⟩ : ∃ mx : Nat, m + 1024 = mx := ⟨_, rfl⟩
  obtain ⟨od, hodd⟩ : ∃ od : Nat, m / 2048 % 2 = od := ⟨_, rfl⟩
  rw [hmn, hmx, hodd]
  have hmn64 : mn < 18446744073709551616 := by omega
  have hmx64 : mx < 18446744073709551616 := by omega
  have hod : od ≤ 1 := by omega
  have imn : ((m : Int) - 1024) = (mn : Int) := by omega
  have imx : ((m : Int) + 1024) = (mx : Int) := by omega
  have iod : bits .and .i64 ((m : Int) / 2048) 1 = (od : Int) := by rw [← hodd]; exact odd_at (m / 2048)
  clear hmn hmx hodd hpp hs he
  obtain ⟨i, hi⟩ : ∃ i : Nat, Q = (i : Int) - 348 := ⟨(Q + 348).toNat, by omega⟩
  have hi6 : i < 696 := by omega
  have ei : (Q + 348).toNat = i := by omega
  have hl2 := l2p_any Q (by omega) (by omega)
  have hL : -5000 ≤ fm.l2p Q ∧ fm.l2p Q ≤ 5000 := by unfold fm.l2p; omega
  unfold fm.tailN
  simp only [ei]
  have htt := tt_small i hi6
  simp only [Bool.and_eq_true, decide_eq_true_eq] at htt
  obtain ⟨t1, t2⟩ := htt
  have hpre := fun (lp : Int) (h : -5000 ≤ lp ∧ lp ≤ 5000) => prescale_any i hi6 e Q lp hi (by omega) h
  generalize (TT i).1 = A at *
  generalize (TT i).2 = B at *
  generalize fm.l2p Q = L at *
  have hpr := fun w b v0 v1 v2 hv hb => hpre L hL w b v0 v1 v2 hv hb
  have us := fun x hx w b h => uscale_any x A B (-(e + L + 3)) hx t1 t2 w b h
  have u1l := usc_lt mn A B ((-(e + L + 3)) % 64).toNat hmn64 t1
  have u2l := usc_lt mx A B ((-(e + L + 3)) % 64).toNat hmx64 t1
  have u3l := usc_lt m A B ((-(e + L + 3)) % 64).toNat (by omega) t1
  have us1 := us mn hmn64
  have us2 := us mx hmx64
  have us3 := us m (by omega)
  generalize ((-(e + L + 3)) % 64).toNat = S at *
  generalize fm.uscN mn A B S = U1 at *
  generalize fm.uscN mx A B S = U2 at *
  generalize fm.uscN m A B S = U3 at *
  have nu := nudge_up U1 od
  have nd := nudge_dn U2 od u2l hod
  have ce := ceil_any ((U1 + od) % 18446744073709551616)
  have fl := floor_any ((U2 + 18446744073709551616 - od) % 18446744073709551616) (Nat.mod_lt _ (by decide))
  have rn := round_any U3 u3l
  have dmn : ((U1 + od) % 18446744073709551616 + 3) % 18446744073709551616 / 4 < 4611686018427387904 := by omega
  have dmx : (U2 + 18446744073709551616 - od) % 18446744073709551616 / 4 < 4611686018427387904 := by omega
  generalize ((U1 + od) % 18446744073709551616 + 3) % 18446744073709551616 / 4 = dmin at *
  generalize (U1 + od) % 18446744073709551616 = N1 at *
  generalize (U2 + 18446744073709551616 - od) % 18446744073709551616 / 4 = dmax at *
  generalize (U2 + 18446744073709551616 - od) % 18446744073709551616 = N2 at *
  generalize (U3 + 1 + U3 / 4 % 2) % 18446744073709551616 / 4 = R at *
  have hQ1 : (Q - 1 : Int) = Q - 1 := rfl
  have hzz := (Below.refl w.heap.size w).alloc (Nat.le_refl _) (.cells #[.int .u64 0, .int .u64 0, .int .i64 0] 259)
  have hprr := hpr _ w.heap.size _ _ _ (hv.below hzz) (Blk.new w 259 #[.int .u64 0, .int .u64 0, .int .i64 0])
  have hsc := sc_set _ A B (-(e + L + 3)) w.heap.size 259 _ _ _ (Blk.new w 259 #[.int .u64 0, .int .u64 0, .int .i64 0])
  have hbl := hzz.trans (set_bel (w.alloc (.cells #[.int .u64 0, .int .u64 0, .int .i64 0] 259)) w.heap.size w.heap.size (Nat.le_refl _) (.int .u64 (A : Nat)) (.int .u64 (B : Nat)) (.int .i64 (-(e + L + 3))))
  have hd0 : ((dmax : Int) / 10) = ((dmax / 10 : Nat) : Int) := by omega
  have HPR := Lib.hid hprr
  have HSC := Lib.hid hsc
  have HBL := Lib.hid hbl
  have HUL := Lib.hid (And.intro u1l (And.intro u2l u3l))
  clear hpre hpr us hL hi ei hi6 t1 t2 hv hprr hsc hbl hzz u1l u2l u3l hQ1 hmn64 hmx64
  by_cases c1 : dmin ≤ dmax / 10 * 10
  · rw [if_pos c1]
    have C1 : decide (dmin ≤ dmax / 10 * 10) = true := decide_eq_true c1
    clear us3 rn c1
    generalize hDD : dmax / 10 = D at *
    have hd1 : IntKind.u64.wrap ((D : Int) * 10) = ((D * 10 : Nat) : Int) := by rw [IntKind.wrap_u64]; omega
    have hd2 : ((D : Int) * 10) = ((D * 10 : Nat) : Int) := by omega
    have hd3 : IntKind.u64.wrap (D : Int) = (D : Int) := by rw [IntKind.wrap_u64]; omega
    have hd4 : IntKind.u64.wrap ((D * 10 : Nat) : Int) = ((D * 10 : Nat) : Int) := by rw [IntKind.wrap_u64]; omega
    clear hDD dmx dmn
    generalize D * 10 = D10 at *
    go_enter Tryz.func192, Tryz.ntmps192
    go_wp2_with fail
    refine (hl _).mono ?_
    rintro r w1 ⟨rfl, rfl⟩
    clear hl
    go_wp2_with fail
    refine (hl2 _).mono ?_
    rintro r w1 ⟨rfl, rfl⟩
    clear hl2
    go_wp2_with fail
    refine HPR.out.mono ?_
    rintro r w1 ⟨rfl, hw1⟩
    have HS1 : Hid (ScAt w1 w.heap.size A B (-(e + L + 3))) := Lib.hid (by rw [hw1]; exact HSC.out)
    have HB1 : Hid (Below w.heap.size w w1) := Lib.hid (by rw [hw1]; exact HBL.out)
    clear hw1 HPR HSC HBL
    go_wp2_with fail
    refine (us1 _ _ HS1.out).mono ?_
    rintro r w2 ⟨rfl, hq⟩
    have HS2 := Lib.hid (HS1.out.qq hq)
    have HB2 := Lib.hid (HB1.out.trans (Qq.bel hq))
    clear hq HS1 HB1 us1
    go_wp2_with fail
    refine (nu _).mono ?_
    rintro r w1 ⟨rfl, rfl⟩
    clear nu
    go_wp2_with fail
    refine (ce _).mono ?_
    rintro r w1 ⟨rfl, rfl⟩
    clear ce
    go_wp2_with fail
    refine (us2 _ _ HS2.out).mono ?_
    rintro r w1 ⟨rfl, hq⟩
    have HS3 := Lib.hid (HS2.out.qq hq)
    have HB3 := Lib.hid (HB2.out.trans (Qq.bel hq))
    clear hq HS2 HB2 us2
    go_wp2_with fail
    refine (nd _).mono ?_
    rintro r w1 ⟨rfl, rfl⟩
    clear nd
    go_wp2_with fail
    refine (fl _).mono ?_
    rintro r w1 ⟨rfl, rfl⟩
    clear fl
    go_wp2_with fail
    go_ret2
    exact ⟨rfl, HB3.out⟩
  · rw [if_neg c1]
    have C1 : decide (dmin ≤ dmax / 10 * 10) = false := decide_eq_false c1
    by_cases c2 : dmin < dmax
    · rw [if_pos c2]
      have C2 : decide (dmin < dmax) = true := decide_eq_true c2
      clear c1 c2
      generalize hDD : dmax / 10 = D at *
      have hd1 : IntKind.u64.wrap ((D : Int) * 10) = ((D * 10 : Nat) : Int) := by rw [IntKind.wrap_u64]; omega
      have hd2 : ((D : Int) * 10) = ((D * 10 : Nat) : Int) := by omega
      have hd3 : IntKind.u64.wrap (D : Int) = (D : Int) := by rw [IntKind.wrap_u64]; omega
      have hd4 : IntKind.u64.wrap ((D * 10 : Nat) : Int) = ((D * 10 : Nat) : Int) := by rw [IntKind.wrap_u64]; omega
      clear hDD dmx dmn
      generalize D * 10 = D10 at *
      go_enter Tryz.func192, Tryz.ntmps192
      go_wp2_with fail
      refine (hl _).mono ?_
      rintro r w1 ⟨rfl, rfl⟩
      clear hl
      go_wp2_with fail
      refine (hl2 _).mono ?_
      rintro r w1 ⟨rfl, rfl⟩
      clear hl2
      go_wp2_with fail
      refine HPR.out.mono ?_
      rintro r w1 ⟨rfl, hw1⟩
      have HS1 : Hid (ScAt w1 w.heap.size A B (-(e + L + 3))) := Lib.hid (by rw [hw1]; exact HSC.out)
      have HB1 : Hid (Below w.heap.size w w1) := Lib.hid (by rw [hw1]; exact HBL.out)
      clear hw1 HPR HSC HBL
      go_wp2_with fail
      refine (us1 _ _ HS1.out).mono ?_
      rintro r w2 ⟨rfl, hq⟩
      have HS2 := Lib.hid (HS1.out.qq hq)
      have HB2 := Lib.hid (HB1.out.trans (Qq.bel hq))
      clear hq HS1 HB1 us1
      go_wp2_with fail
      refine (nu _).mono ?_
      rintro r w1 ⟨rfl, rfl⟩
      clear nu
      go_wp2_with fail
      refine (ce _).mono ?_
      rintro r w1 ⟨rfl, rfl⟩
      clear ce
      go_wp2_with fail
      refine (us2 _ _ HS2.out).mono ?_
      rintro r w1 ⟨rfl, hq⟩
      have HS3 := Lib.hid (HS2.out.qq hq)
      have HB3 := Lib.hid (HB2.out.trans (Qq.bel hq))
      clear hq HS2 HB2 us2
      go_wp2_with fail
      refine (nd _).mono ?_
      rintro r w1 ⟨rfl, rfl⟩
      clear nd
      go_wp2_with fail
      refine (fl _).mono ?_
      rintro r w1 ⟨rfl, rfl⟩
      clear fl
      go_wp2_with fail
      refine (us3 _ _ HS3.out).mono ?_
      rintro r w3 ⟨rfl, hq⟩
      have HB4 := Lib.hid (HB3.out.trans (Qq.bel hq))
      clear us3 HS3 hq
      go_wp2_with fail
      refine (rn _).mono ?_
      rintro r w4 ⟨rfl, rfl⟩
      clear rn
      go_wp2_with fail
      go_ret2
      exact ⟨rfl, HB4.out⟩
    · rw [if_neg c2]
      have C2 : decide (dmin < dmax) = false := decide_eq_false c2
      clear c1 c2 us3 rn
      generalize hDD : dmax / 10 = D at *
      have hd1 : IntKind.u64.wrap ((D : Int) * 10) = ((D * 10 : Nat) : Int) := by rw [IntKind.wrap_u64]; omega
      have hd2 : ((D : Int) * 10) = ((D * 10 : Nat) : Int) := by omega
      have hd3 : IntKind.u64.wrap (D : Int) = (D : Int) := by rw [IntKind.wrap_u64]; omega
      have hd4 : IntKind.u64.wrap ((D * 10 : Nat) : Int) = ((D * 10 : Nat) : Int) := by rw [IntKind.wrap_u64]; omega
      clear hDD dmx dmn
      generalize D * 10 = D10 at *
      go_enter Tryz.func192, Tryz.ntmps192
      go_wp2_with fail
      refine (hl _).mono ?_
      rintro r w1 ⟨rfl, rfl⟩
      clear hl
      go_wp2_with fail
      refine (hl2 _).mono ?_
      rintro r w1 ⟨rfl, rfl⟩
      clear hl2
      go_wp2_with fail
      refine HPR.out.mono ?_
      rintro r w1 ⟨rfl, hw1⟩
      have HS1 : Hid (ScAt w1 w.heap.size A B (-(e + L + 3))) := Lib.hid (by rw [hw1]; exact HSC.out)
      have HB1 : Hid (Below w.heap.size w w1) := Lib.hid (by rw [hw1]; exact HBL.out)
      clear hw1 HPR HSC HBL
      go_wp2_with fail
      refine (us1 _ _ HS1.out).mono ?_
      rintro r w2 ⟨rfl, hq⟩
      have HS2 := Lib.hid (HS1.out.qq hq)
      have HB2 := Lib.hid (HB1.out.trans (Qq.bel hq))
      clear hq HS1 HB1 us1
      go_wp2_with fail
      refine (nu _).mono ?_
      rintro r w1 ⟨rfl, rfl⟩
      clear nu
      go_wp2_with fail
      refine (ce _).mono ?_
      rintro r w1 ⟨rfl, rfl⟩
      clear ce
      go_wp2_with fail
      refine (us2 _ _ HS2.out).mono ?_
      rintro r w1 ⟨rfl, hq⟩
      have HS3 := Lib.hid (HS2.out.qq hq)
      have HB3 := Lib.hid (HB2.out.trans (Qq.bel hq))
      clear hq HS2 HB2 us2
      go_wp2_with fail
      refine (nd _).mono ?_
      rintro r w1 ⟨rfl, rfl⟩
      clear nd
      go_wp2_with fail
      refine (fl _).mono ?_
      rintro r w1 ⟨rfl, rfl⟩
      clear fl
      go_wp2_with fail
      go_ret2
      exact ⟨rfl, HB3.out⟩
set_option maxRecDepth 100000 in
set_option maxHeartbeats 4000000 in
theorem short_two_b (m : Nat) (e : Int) (hm : 9223372036854775808 ≤ m) (hm2 : m < 18446744073709550592) (hs : m = 9223372036854775808) (he : -1085 = e) (w : World) (hv : Ps w) : Calls Tryz.prog 192 #[.int .u64 m, .int .i64 e] w fun r w' => r = .returned (.tuple #[.int .u64 ((fm.shortN TT m e).1 : Nat), .int .i64 (fm.shortN TT m e).2]) ∧ Below w.heap.size w w' := by
  have he5 : -2000 ≤ e ∧ e ≤ 2000 := by omega
  have hl := l10_any (e + 11) (by omega) (by omega)
  have hT : fm.shortN TT m e = fm.tailN TT (m - 1024) (m + 1024) m (m / 2048 % 2) e (-fm.l10 (e + 11)) := by unfold fm.shortN; rw [if_neg (by omega), if_pos (by omega)]
  rw [hT]
  clear hT
  have hB : ((m : Int) == 9223372036854775808) = true := by rw [beq_iff_eq]; omega
  have hC : decide (-1085 < e) = false := decide_eq_false (by omega)
  have hG : decide (-1085 ≤ e) = true := by exact decide_eq_true (by omega)
  have hpp : -1000 ≤ fm.l10 (e + 11) ∧ fm.l10 (e + 11) ≤ 1000 := by unfold fm.l10; omega
  obtain ⟨Q, hQ⟩ : ∃ Q : Int, -fm.l10 (e + 11) = Q := ⟨_, rfl⟩
  rw [hQ]
  have hQ5 : 0 ≤ Q + 348 ∧ Q + 348 < 696 := by rw [← hQ]; unfold fm.l10; omega
  generalize fm.l10 (e + 11) = P at *
  obtain ⟨mn, hmn⟩ : ∃ mn : Nat, m - 1024 = mn := ⟨_, rfl⟩
  obtain ⟨mx, hmx⟩ : ∃ mx : Nat, m + 1024 = mx := ⟨_, rfl⟩
  obtain ⟨od, hodd⟩ : ∃ od : Nat, m / 2048 % 2 = od := ⟨_, rfl⟩
  rw [hmn, hmx, hodd]
  have hmn64 : mn < 18446744073709551616 := by omega
  have hmx64 : mx < 18446744073709551616 := by omega
  have hod : od ≤ 1 := by omega
  have imn : ((m : Int) - 1024) = (mn : Int) := by omega
  have imx : ((m : Int) + 1024) = (mx : Int) := by omega
  have iod : bits .and .i64 ((m : Int) / 2048) 1 = (od : Int) := by rw [← hodd]; exact odd_at (m / 2048)
  clear hmn hmx hodd hpp hs he
  obtain ⟨i, hi⟩ : ∃ i : Nat, Q = (i : Int) - 348 := ⟨(Q + 348).toNat, by omega⟩
  have hi6 : i < 696 := by omega
  have ei : (Q + 348).toNat = i := by omega
  have hl2 := l2p_any Q (by omega) (by omega)
  have hL : -5000 ≤ fm.l2p Q ∧ fm.l2p Q ≤ 5000 := by unfold fm.l2p; omega
  unfold fm.tailN
  simp only [ei]
  have htt := tt_small i hi6
  simp only [Bool.and_eq_true, decide_eq_true_eq] at htt
  obtain ⟨t1, t2⟩ := htt
  have hpre := fun (lp : Int) (h : -5000 ≤ lp ∧ lp ≤ 5000) => prescale_any i hi6 e Q lp hi (by omega) h
  generalize (TT i).1 = A at *
  generalize (TT i).2 = B at *
  generalize fm.l2p Q = L at *
  have hpr := fun w b v0 v1 v2 hv hb => hpre L hL w b v0 v1 v2 hv hb
  have us := fun x hx w b h => uscale_any x A B (-(e + L + 3)) hx t1 t2 w b h
  have u1l := usc_lt mn A B ((-(e + L + 3)) % 64).toNat hmn64 t1
  have u2l := usc_lt mx A B ((-(e + L + 3)) % 64).toNat hmx64 t1
  have u3l := usc_lt m A B ((-(e + L + 3)) % 64).toNat (by omega) t1
  have us1 := us mn hmn64
  have us2 := us mx hmx64
  have us3 := us m (by omega)
  generalize ((-(e + L + 3)) % 64).toNat = S at *
  generalize fm.uscN mn A B S = U1 at *
  generalize fm.uscN mx A B S = U2 at *
  generalize fm.uscN m A B S = U3 at *
  have nu := nudge_up U1 od
  have nd := nudge_dn U2 od u2l hod
  have ce := ceil_any ((U1 + od) % 18446744073709551616)
  have fl := floor_any ((U2 + 18446744073709551616 - od) % 18446744073709551616) (Nat.mod_lt _ (by decide))
  have rn := round_any U3 u3l
  have dmn : ((U1 + od) % 18446744073709551616 + 3) % 18446744073709551616 / 4 < 4611686018427387904 := by omega
  have dmx : (U2 + 18446744073709551616 - od) % 18446744073709551616 / 4 < 4611686018427387904 := by omega
  generalize ((U1 + od) % 18446744073709551616 + 3) % 18446744073709551616 / 4 = dmin at *
  generalize (U1 + od) % 18446744073709551616 = N1 at *
  generalize (U2 + 18446744073709551616 - od) % 18446744073709551616 / 4 = dmax at *
  generalize (U2 + 18446744073709551616 - od) % 18446744073709551616 = N2 at *
  generalize (U3 + 1 + U3 / 4 % 2) % 18446744073709551616 / 4 = R at *
  have hQ1 : (Q - 1 : Int) = Q - 1 := rfl
  have hzz := (Below.refl w.heap.size w).alloc (Nat.le_refl _) (.cells #[.int .u64 0, .int .u64 0, .int .i64 0] 259)
  have hprr := hpr _ w.heap.size _ _ _ (hv.below hzz) (Blk.new w 259 #[.int .u64 0, .int .u64 0, .int .i64 0])
  have hsc := sc_set _ A B (-(e + L + 3)) w.heap.size 259 _ _ _ (Blk.new w 259 #[.int .u64 0, .int .u64 0, .int .i64 0])
  have hbl := hzz.trans (set_bel (w.alloc (.cells #[.int .u64 0, .int .u64 0, .int .i64 0] 259)) w.heap.size w.heap.size (Nat.le_refl _) (.int .u64 (A : Nat)) (.int .u64 (B : Nat)) (.int .i64 (-(e + L + 3))))
  have hd0 : ((dmax : Int) / 10) = ((dmax / 10 : Nat) : Int) := by omega
  have HPR := Lib.hid hprr
  have HSC := Lib.hid hsc
  have HBL := Lib.hid hbl
  have HUL := Lib.hid (And.intro u1l (And.intro u2l u3l))
  clear hpre hpr us hL hi ei hi6 t1 t2 hv hprr hsc hbl hzz u1l u2l u3l hQ1 hmn64 hmx64
  by_cases c1 : dmin ≤ dmax / 10 * 10
  · rw [if_pos c1]
    have C1 : decide (dmin ≤ dmax / 10 * 10) = true := decide_eq_true c1
    clear us3 rn c1
    generalize hDD : dmax / 10 = D at *
    have hd1 : IntKind.u64.wrap ((D : Int) * 10) = ((D * 10 : Nat) : Int) := by rw [IntKind.wrap_u64]; omega
    have hd2 : ((D : Int) * 10) = ((D * 10 : Nat) : Int) := by omega
    have hd3 : IntKind.u64.wrap (D : Int) = (D : Int) := by rw [IntKind.wrap_u64]; omega
    have hd4 : IntKind.u64.wrap ((D * 10 : Nat) : Int) = ((D * 10 : Nat) : Int) := by rw [IntKind.wrap_u64]; omega
    clear hDD dmx dmn
    generalize D * 10 = D10 at *
    go_enter Tryz.func192, Tryz.ntmps192
    go_wp2_with fail
    refine (hl _).mono ?_
    rintro r w1 ⟨rfl, rfl⟩
    clear hl
    go_wp2_with fail
    refine (hl2 _).mono ?_
    rintro r w1 ⟨rfl, rfl⟩
    clear hl2
    go_wp2_with fail
    refine HPR.out.mono ?_
    rintro r w1 ⟨rfl, hw1⟩
    have HS1 : Hid (ScAt w1 w.heap.size A B (-(e + L + 3))) := Lib.hid (by rw [hw1]; exact HSC.out)
    have HB1 : Hid (Below w.heap.size w w1) := Lib.hid (by rw [hw1]; exact HBL.out)
    clear hw1 HPR HSC HBL
    go_wp2_with fail
    refine (us1 _ _ HS1.out).mono ?_
    rintro r w2 ⟨rfl, hq⟩
    have HS2 := Lib.hid (HS1.out.qq hq)
    have HB2 := Lib.hid (HB1.out.trans (Qq.bel hq))
    clear hq HS1 HB1 us1
    go_wp2_with fail
    refine (nu _).mono ?_
    rintro r w1 ⟨rfl, rfl⟩
    clear nu
    go_wp2_with fail
    refine (ce _).mono ?_
    rintro r w1 ⟨rfl, rfl⟩
    clear ce
    go_wp2_with fail
    refine (us2 _ _ HS2.out).mono ?_
    rintro r w1 ⟨rfl, hq⟩
    have HS3 := Lib.hid (HS2.out.qq hq)
    have HB3 := Lib.hid (HB2.out.trans (Qq.bel hq))
    clear hq HS2 HB2 us2
    go_wp2_with fail
    refine (nd _).mono ?_
    rintro r w1 ⟨rfl, rfl⟩
    clear nd
    go_wp2_with fail
    refine (fl _).mono ?_
    rintro r w1 ⟨rfl, rfl⟩
    clear fl
    go_wp2_with fail
    go_ret2
    exact ⟨rfl, HB3.out⟩
  · rw [if_neg c1]
    have C1 : decide (dmin ≤ dmax / 10 * 10) = false := decide_eq_false c1
    by_cases c2 : dmin < dmax
    · rw [if_pos c2]
      have C2 : decide (dmin < dmax) = true := decide_eq_true c2
      clear c1 c2
      generalize hDD : dmax / 10 = D at *
      have hd1 : IntKind.u64.wrap ((D : Int) * 10) = ((D * 10 : Nat) : Int) := by rw [IntKind.wrap_u64]; omega
      have hd2 : ((D : Int) * 10) = ((D * 10 : Nat) : Int) := by omega
      have hd3 : IntKind.u64.wrap (D : Int) = (D : Int) := by rw [IntKind.wrap_u64]; omega
      have hd4 : IntKind.u64.wrap ((D * 10 : Nat) : Int) = ((D * 10 : Nat) : Int) := by rw [IntKind.wrap_u64]; omega
      clear hDD dmx dmn
      generalize D * 10 = D10 at *
      go_enter Tryz.func192, Tryz.ntmps192
      go_wp2_with fail
      refine (hl _).mono ?_
      rintro r w1 ⟨rfl, rfl⟩
      clear hl
      go_wp2_with fail
      refine (hl2 _).mono ?_
      rintro r w1 ⟨rfl, rfl⟩
      clear hl2
      go_wp2_with fail
      refine HPR.out.mono ?_
      rintro r w1 ⟨rfl, hw1⟩
      have HS1 : Hid (ScAt w1 w.heap.size A B (-(e + L + 3))) := Lib.hid (by rw [hw1]; exact HSC.out)
      have HB1 : Hid (Below w.heap.size w w1) := Lib.hid (by rw [hw1]; exact HBL.out)
      clear hw1 HPR HSC HBL
      go_wp2_with fail
      refine (us1 _ _ HS1.out).mono ?_
      rintro r w2 ⟨rfl, hq⟩
      have HS2 := Lib.hid (HS1.out.qq hq)
      have HB2 := Lib.hid (HB1.out.trans (Qq.bel hq))
      clear hq HS1 HB1 us1
      go_wp2_with fail
      refine (nu _).mono ?_
      rintro r w1 ⟨rfl, rfl⟩
      clear nu
      go_wp2_with fail
      refine (ce _).mono ?_
      rintro r w1 ⟨rfl, rfl⟩
      clear ce
      go_wp2_with fail
      refine (us2 _ _ HS2.out).mono ?_
      rintro r w1 ⟨rfl, hq⟩
      have HS3 := Lib.hid (HS2.out.qq hq)
      have HB3 := Lib.hid (HB2.out.trans (Qq.bel hq))
      clear hq HS2 HB2 us2
      go_wp2_with fail
      refine (nd _).mono ?_
      rintro r w1 ⟨rfl, rfl⟩
      clear nd
      go_wp2_with fail
      refine (fl _).mono ?_
      rintro r w1 ⟨rfl, rfl⟩
      clear fl
      go_wp2_with fail
      refine (us3 _ _ HS3.out).mono ?_
      rintro r w3 ⟨rfl, hq⟩
      have HB4 := Lib.hid (HB3.out.trans (Qq.bel hq))
      clear us3 HS3 hq
      go_wp2_with fail
      refine (rn _).mono ?_
      rintro r w4 ⟨rfl, rfl⟩
      clear rn
      go_wp2_with fail
      go_ret2
      exact ⟨rfl, HB4.out⟩
    · rw [if_neg c2]
      have C2 : decide (dmin < dmax) = false := decide_eq_false c2
      clear c1 c2 us3 rn
      generalize hDD : dmax / 10 = D at *
      have hd1 : IntKind.u64.wrap ((D : Int) * 10) = ((D * 10 : Nat) : Int) := by rw [IntKind.wrap_u64]; omega
      have hd2 : ((D : Int) * 10) = ((D * 10 : Nat) : Int) := by omega
      have hd3 : IntKind.u64.wrap (D : Int) = (D : Int) := by rw [IntKind.wrap_u64]; omega
      have hd4 : IntKind.u64.wrap ((D * 10 : Nat) : Int) = ((D * 10 : Nat) : Int) := by rw [IntKind.wrap_u64]; omega
      clear hDD dmx dmn
      generalize D * 10 = D10 at *
      go_enter Tryz.func192, Tryz.ntmps192
      go_wp2_with fail
      refine (hl _).mono ?_
      rintro r w1 ⟨rfl, rfl⟩
      clear hl
      go_wp2_with fail
      refine (hl2 _).mono ?_
      rintro r w1 ⟨rfl, rfl⟩
      clear hl2
      go_wp2_with fail
      refine HPR.out.mono ?_
      rintro r w1 ⟨rfl, hw1⟩
      have HS1 : Hid (ScAt w1 w.heap.size A B (-(e + L + 3))) := Lib.hid (by rw [hw1]; exact HSC.out)
      have HB1 : Hid (Below w.heap.size w w1) := Lib.hid (by rw [hw1]; exact HBL.out)
      clear hw1 HPR HSC HBL
      go_wp2_with fail
      refine (us1 _ _ HS1.out).mono ?_
      rintro r w2 ⟨rfl, hq⟩
      have HS2 := Lib.hid (HS1.out.qq hq)
      have HB2 := Lib.hid (HB1.out.trans (Qq.bel hq))
      clear hq HS1 HB1 us1
      go_wp2_with fail
      refine (nu _).mono ?_
      rintro r w1 ⟨rfl, rfl⟩
      clear nu
      go_wp2_with fail
      refine (ce _).mono ?_
      rintro r w1 ⟨rfl, rfl⟩
      clear ce
      go_wp2_with fail
      refine (us2 _ _ HS2.out).mono ?_
      rintro r w1 ⟨rfl, hq⟩
      have HS3 := Lib.hid (HS2.out.qq hq)
      have HB3 := Lib.hid (HB2.out.trans (Qq.bel hq))
      clear hq HS2 HB2 us2
      go_wp2_with fail
      refine (nd _).mono ?_
      rintro r w1 ⟨rfl, rfl⟩
      clear nd
      go_wp2_with fail
      refine (fl _).mono ?_
      rintro r w1 ⟨rfl, rfl⟩
      clear fl
      go_wp2_with fail
      go_ret2
      exact ⟨rfl, HB3.out⟩
set_option maxRecDepth 100000 in
set_option maxHeartbeats 4000000 in
theorem short_one (m : Nat) (e : Int) (hm : 9223372036854775808 ≤ m) (hm2 : m < 18446744073709550592) (hs : m = 9223372036854775808) (he : -1085 < e) (he2 : e ≤ 960) (w : World) (hv : Ps w) : Calls Tryz.prog 192 #[.int .u64 m, .int .i64 e] w fun r w' => r = .returned (.tuple #[.int .u64 ((fm.shortN TT m e).1 : Nat), .int .i64 (fm.shortN TT m e).2]) ∧ Below w.heap.size w w' := by
  have he5 : -2000 ≤ e ∧ e ≤ 2000 := by omega
  have hl := skw_any (e + 11) (by omega) (by omega)
  have hT : fm.shortN TT m e = fm.tailN TT (m - 512) (m + 1024) m (m / 2048 % 2) e (-fm.skw (e + 11)) := by unfold fm.shortN; rw [if_pos (by omega)]
  rw [hT]
  clear hT
  have hB : ((m : Int) == 9223372036854775808) = true := by rw [beq_iff_eq]; omega
  have hC : decide (-1085 < e) = true := decide_eq_true (by omega)
  have hG : decide (-1085 ≤ e) = true := by exact decide_eq_true (by omega)
  have hpp : -1000 ≤ fm.skw (e + 11) ∧ fm.skw (e + 11) ≤ 1000 := by unfold fm.skw; omega
  obtain ⟨Q, hQ⟩ : ∃ Q : Int, -fm.skw (e + 11) = Q := ⟨_, rfl⟩
  rw [hQ]
  have hQ5 : 0 ≤ Q + 348 ∧ Q + 348 < 696 := by rw [← hQ]; unfold fm.skw; omega
  generalize fm.skw (e + 11) = P at *
  obtain ⟨mn, hmn⟩ : ∃ mn : Nat, m - 512 = mn := ⟨_, rfl⟩
  obtain ⟨mx, hmx⟩ : ∃ mx : Nat, m + 1024 = mx := ⟨_, rfl⟩
  obtain ⟨od, hodd⟩ : ∃ od : Nat, m / 2048 % 2 = od := ⟨_, rfl⟩
  rw [hmn, hmx, hodd]
  have hmn64 : mn < 18446744073709551616 := by omega
  have hmx64 : mx < 18446744073709551616 := by omega
  have hod : od ≤ 1 := by omega
  have imn : ((m : Int) - 512) = (mn : Int) := by omega
  have imx : ((m : Int) + 1024) = (mx : Int) := by omega
  have iod : bits .and .i64 ((m : Int) / 2048) 1 = (od : Int) := by rw [← hodd]; exact odd_at (m / 2048)
  clear hmn hmx hodd hpp hs he
  obtain ⟨i, hi⟩ : ∃ i : Nat, Q = (i : Int) - 348 := ⟨(Q + 348).toNat, by omega⟩
  have hi6 : i < 696 := by omega
  have ei : (Q + 348).toNat = i := by omega
  have hl2 := l2p_any Q (by omega) (by omega)
  have hL : -5000 ≤ fm.l2p Q ∧ fm.l2p Q ≤ 5000 := by unfold fm.l2p; omega
  unfold fm.tailN
  simp only [ei]
  have htt := tt_small i hi6
  simp only [Bool.and_eq_true, decide_eq_true_eq] at htt
  obtain ⟨t1, t2⟩ := htt
  have hpre := fun (lp : Int) (h : -5000 ≤ lp ∧ lp ≤ 5000) => prescale_any i hi6 e Q lp hi (by omega) h
  generalize (TT i).1 = A at *
  generalize (TT i).2 = B at *
  generalize fm.l2p Q = L at *
  have hpr := fun w b v0 v1 v2 hv hb => hpre L hL w b v0 v1 v2 hv hb
  have us := fun x hx w b h => uscale_any x A B (-(e + L + 3)) hx t1 t2 w b h
  have u1l := usc_lt mn A B ((-(e + L + 3)) % 64).toNat hmn64 t1
  have u2l := usc_lt mx A B ((-(e + L + 3)) % 64).toNat hmx64 t1
  have u3l := usc_lt m A B ((-(e + L + 3)) % 64).toNat (by omega) t1
  have us1 := us mn hmn64
  have us2 := us mx hmx64
  have us3 := us m (by omega)
  generalize ((-(e + L + 3)) % 64).toNat = S at *
  generalize fm.uscN mn A B S = U1 at *
  generalize fm.uscN mx A B S = U2 at *
  generalize fm.uscN m A B S = U3 at *
  have nu := nudge_up U1 od
  have nd := nudge_dn U2 od u2l hod
  have ce := ceil_any ((U1 + od) % 18446744073709551616)
  have fl := floor_any ((U2 + 18446744073709551616 - od) % 18446744073709551616) (Nat.mod_lt _ (by decide))
  have rn := round_any U3 u3l
  have dmn : ((U1 + od) % 18446744073709551616 + 3) % 18446744073709551616 / 4 < 4611686018427387904 := by omega
  have dmx : (U2 + 18446744073709551616 - od) % 18446744073709551616 / 4 < 4611686018427387904 := by omega
  generalize ((U1 + od) % 18446744073709551616 + 3) % 18446744073709551616 / 4 = dmin at *
  generalize (U1 + od) % 18446744073709551616 = N1 at *
  generalize (U2 + 18446744073709551616 - od) % 18446744073709551616 / 4 = dmax at *
  generalize (U2 + 18446744073709551616 - od) % 18446744073709551616 = N2 at *
  generalize (U3 + 1 + U3 / 4 % 2) % 18446744073709551616 / 4 = R at *
  have hQ1 : (Q - 1 : Int) = Q - 1 := rfl
  have hzz := (Below.refl w.heap.size w).alloc (Nat.le_refl _) (.cells #[.int .u64 0, .int .u64 0, .int .i64 0] 259)
  have hprr := hpr _ w.heap.size _ _ _ (hv.below hzz) (Blk.new w 259 #[.int .u64 0, .int .u64 0, .int .i64 0])
  have hsc := sc_set _ A B (-(e + L + 3)) w.heap.size 259 _ _ _ (Blk.new w 259 #[.int .u64 0, .int .u64 0, .int .i64 0])
  have hbl := hzz.trans (set_bel (w.alloc (.cells #[.int .u64 0, .int .u64 0, .int .i64 0] 259)) w.heap.size w.heap.size (Nat.le_refl _) (.int .u64 (A : Nat)) (.int .u64 (B : Nat)) (.int .i64 (-(e + L + 3))))
  have hd0 : ((dmax : Int) / 10) = ((dmax / 10 : Nat) : Int) := by omega
  have HPR := Lib.hid hprr
  have HSC := Lib.hid hsc
  have HBL := Lib.hid hbl
  have HUL := Lib.hid (And.intro u1l (And.intro u2l u3l))
  clear hpre hpr us hL hi ei hi6 t1 t2 hv hprr hsc hbl hzz u1l u2l u3l hQ1 hmn64 hmx64
  by_cases c1 : dmin ≤ dmax / 10 * 10
  · rw [if_pos c1]
    have C1 : decide (dmin ≤ dmax / 10 * 10) = true := decide_eq_true c1
    clear us3 rn c1
    generalize hDD : dmax / 10 = D at *
    have hd1 : IntKind.u64.wrap ((D : Int) * 10) = ((D * 10 : Nat) : Int) := by rw [IntKind.wrap_u64]; omega
    have hd2 : ((D : Int) * 10) = ((D * 10 : Nat) : Int) := by omega
    have hd3 : IntKind.u64.wrap (D : Int) = (D : Int) := by rw [IntKind.wrap_u64]; omega
    have hd4 : IntKind.u64.wrap ((D * 10 : Nat) : Int) = ((D * 10 : Nat) : Int) := by rw [IntKind.wrap_u64]; omega
    clear hDD dmx dmn
    generalize D * 10 = D10 at *
    go_enter Tryz.func192, Tryz.ntmps192
    go_wp2_with fail
    refine (hl _).mono ?_
    rintro r w1 ⟨rfl, rfl⟩
    clear hl
    go_wp2_with fail
    refine (hl2 _).mono ?_
    rintro r w1 ⟨rfl, rfl⟩
    clear hl2
    go_wp2_with fail
    refine HPR.out.mono ?_
    rintro r w1 ⟨rfl, hw1⟩
    have HS1 : Hid (ScAt w1 w.heap.size A B (-(e + L + 3))) := Lib.hid (by rw [hw1]; exact HSC.out)
    have HB1 : Hid (Below w.heap.size w w1) := Lib.hid (by rw [hw1]; exact HBL.out)
    clear hw1 HPR HSC HBL
    go_wp2_with fail
    refine (us1 _ _ HS1.out).mono ?_
    rintro r w2 ⟨rfl, hq⟩
    have HS2 := Lib.hid (HS1.out.qq hq)
    have HB2 := Lib.hid (HB1.out.trans (Qq.bel hq))
    clear hq HS1 HB1 us1
    go_wp2_with fail
    refine (nu _).mono ?_
    rintro r w1 ⟨rfl, rfl⟩
    clear nu
    go_wp2_with fail
    refine (ce _).mono ?_
    rintro r w1 ⟨rfl, rfl⟩
    clear ce
    go_wp2_with fail
    refine (us2 _ _ HS2.out).mono ?_
    rintro r w1 ⟨rfl, hq⟩
    have HS3 := Lib.hid (HS2.out.qq hq)
    have HB3 := Lib.hid (HB2.out.trans (Qq.bel hq))
    clear hq HS2 HB2 us2
    go_wp2_with fail
    refine (nd _).mono ?_
    rintro r w1 ⟨rfl, rfl⟩
    clear nd
    go_wp2_with fail
    refine (fl _).mono ?_
    rintro r w1 ⟨rfl, rfl⟩
    clear fl
    go_wp2_with fail
    go_ret2
    exact ⟨rfl, HB3.out⟩
  · rw [if_neg c1]
    have C1 : decide (dmin ≤ dmax / 10 * 10) = false := decide_eq_false c1
    by_cases c2 : dmin < dmax
    · rw [if_pos c2]
      have C2 : decide (dmin < dmax) = true := decide_eq_true c2
      clear c1 c2
      generalize hDD : dmax / 10 = D at *
      have hd1 : IntKind.u64.wrap ((D : Int) * 10) = ((D * 10 : Nat) : Int) := by rw [IntKind.wrap_u64]; omega
      have hd2 : ((D : Int) * 10) = ((D * 10 : Nat) : Int) := by omega
      have hd3 : IntKind.u64.wrap (D : Int) = (D : Int) := by rw [IntKind.wrap_u64]; omega
      have hd4 : IntKind.u64.wrap ((D * 10 : Nat) : Int) = ((D * 10 : Nat) : Int) := by rw [IntKind.wrap_u64]; omega
      clear hDD dmx dmn
      generalize D * 10 = D10 at *
      go_enter Tryz.func192, Tryz.ntmps192
      go_wp2_with fail
      refine (hl _).mono ?_
      rintro r w1 ⟨rfl, rfl⟩
      clear hl
      go_wp2_with fail
      refine (hl2 _).mono ?_
      rintro r w1 ⟨rfl, rfl⟩
      clear hl2
      go_wp2_with fail
      refine HPR.out.mono ?_
      rintro r w1 ⟨rfl, hw1⟩
      have HS1 : Hid (ScAt w1 w.heap.size A B (-(e + L + 3))) := Lib.hid (by rw [hw1]; exact HSC.out)
      have HB1 : Hid (Below w.heap.size w w1) := Lib.hid (by rw [hw1]; exact HBL.out)
      clear hw1 HPR HSC HBL
      go_wp2_with fail
      refine (us1 _ _ HS1.out).mono ?_
      rintro r w2 ⟨rfl, hq⟩
      have HS2 := Lib.hid (HS1.out.qq hq)
      have HB2 := Lib.hid (HB1.out.trans (Qq.bel hq))
      clear hq HS1 HB1 us1
      go_wp2_with fail
      refine (nu _).mono ?_
      rintro r w1 ⟨rfl, rfl⟩
      clear nu
      go_wp2_with fail
      refine (ce _).mono ?_
      rintro r w1 ⟨rfl, rfl⟩
      clear ce
      go_wp2_with fail
      refine (us2 _ _ HS2.out).mono ?_
      rintro r w1 ⟨rfl, hq⟩
      have HS3 := Lib.hid (HS2.out.qq hq)
      have HB3 := Lib.hid (HB2.out.trans (Qq.bel hq))
      clear hq HS2 HB2 us2
      go_wp2_with fail
      refine (nd _).mono ?_
      rintro r w1 ⟨rfl, rfl⟩
      clear nd
      go_wp2_with fail
      refine (fl _).mono ?_
      rintro r w1 ⟨rfl, rfl⟩
      clear fl
      go_wp2_with fail
      refine (us3 _ _ HS3.out).mono ?_
      rintro r w3 ⟨rfl, hq⟩
      have HB4 := Lib.hid (HB3.out.trans (Qq.bel hq))
      clear us3 HS3 hq
      go_wp2_with fail
      refine (rn _).mono ?_
      rintro r w4 ⟨rfl, rfl⟩
      clear rn
      go_wp2_with fail
      go_ret2
      exact ⟨rfl, HB4.out⟩
    · rw [if_neg c2]
      have C2 : decide (dmin < dmax) = false := decide_eq_false c2
      clear c1 c2 us3 rn
      generalize hDD : dmax / 10 = D at *
      have hd1 : IntKind.u64.wrap ((D : Int) * 10) = ((D * 10 : Nat) : Int) := by rw [IntKind.wrap_u64]; omega
      have hd2 : ((D : Int) * 10) = ((D * 10 : Nat) : Int) := by omega
      have hd3 : IntKind.u64.wrap (D : Int) = (D : Int) := by rw [IntKind.wrap_u64]; omega
      have hd4 : IntKind.u64.wrap ((D * 10 : Nat) : Int) = ((D * 10 : Nat) : Int) := by rw [IntKind.wrap_u64]; omega
      clear hDD dmx dmn
      generalize D * 10 = D10 at *
      go_enter Tryz.func192, Tryz.ntmps192
      go_wp2_with fail
      refine (hl _).mono ?_
      rintro r w1 ⟨rfl, rfl⟩
      clear hl
      go_wp2_with fail
      refine (hl2 _).mono ?_
      rintro r w1 ⟨rfl, rfl⟩
      clear hl2
      go_wp2_with fail
      refine HPR.out.mono ?_
      rintro r w1 ⟨rfl, hw1⟩
      have HS1 : Hid (ScAt w1 w.heap.size A B (-(e + L + 3))) := Lib.hid (by rw [hw1]; exact HSC.out)
      have HB1 : Hid (Below w.heap.size w w1) := Lib.hid (by rw [hw1]; exact HBL.out)
      clear hw1 HPR HSC HBL
      go_wp2_with fail
      refine (us1 _ _ HS1.out).mono ?_
      rintro r w2 ⟨rfl, hq⟩
      have HS2 := Lib.hid (HS1.out.qq hq)
      have HB2 := Lib.hid (HB1.out.trans (Qq.bel hq))
      clear hq HS1 HB1 us1
      go_wp2_with fail
      refine (nu _).mono ?_
      rintro r w1 ⟨rfl, rfl⟩
      clear nu
      go_wp2_with fail
      refine (ce _).mono ?_
      rintro r w1 ⟨rfl, rfl⟩
      clear ce
      go_wp2_with fail
      refine (us2 _ _ HS2.out).mono ?_
      rintro r w1 ⟨rfl, hq⟩
      have HS3 := Lib.hid (HS2.out.qq hq)
      have HB3 := Lib.hid (HB2.out.trans (Qq.bel hq))
      clear hq HS2 HB2 us2
      go_wp2_with fail
      refine (nd _).mono ?_
      rintro r w1 ⟨rfl, rfl⟩
      clear nd
      go_wp2_with fail
      refine (fl _).mono ?_
      rintro r w1 ⟨rfl, rfl⟩
      clear fl
      go_wp2_with fail
      go_ret2
      exact ⟨rfl, HB3.out⟩
end Go.Proofs.YtldamieigigncaaGreatDoor.lx

