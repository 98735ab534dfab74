import Derived.Test.YthcnffieoocnkaaRcut
namespace Go.Proofs.Ythcnffieoocnkaa.st
open Go.ChangeShapes Go.WideShapes Go.ChangeAt Go.RowKit Go.Maps Go.WideMaps Go.WideElems
set_option linter.unusedVariables false
theorem ltW_asym {a b : List Int} (h : ltW a b = true) : ltW b a = false := by
  cases e : ltW b a with
  | false => rfl
  | true => rw [← ltW_irr a, ltW_trans h e]
set_option maxRecDepth 100000 in
set_option maxHeartbeats 1000000 in
theorem wcut_any (w : World) (v : Value) (xs : List Int) (k : Int) (hv : RowAt w v xs) (hx : xs.length ≤ 1000) (hk : In64 k) : Calls Try.prog 12 #[v, .int .i64 k] w fun e w' => ∃ u, e = .returned u ∧ WordAt w' u (xs.take k.toNat) ∧ Below w.heap.size w w' := by
  have hw := hv.word
  obtain ⟨ao, ca, rfl, h1, h2, h3, hin, hc⟩ := hv
  have c := join_any w ao none ca 0 xs [] k hw ⟨none, 0, rfl, by simp, fun i hi => absurd hi (Nat.not_lt_zero _)⟩ hx (by simp) h1 (Nat.zero_le _) h3 (fun _ => rfl) hk
  rw [List.append_nil] at c
  clear hw hc hin h1 h2 h3
  go_enter Try.func12, Try.ntmps12
  go_wp2_with fail
  refine c.mono ?_
  rintro e w1 ⟨u, rfl, hu, hb⟩
  have HU := Lib.hid hu
  clear c hu
  go_wp2_with fail
  go_ret
  exact ⟨u, rfl, HU.out, hb⟩
theorem wjoin_any (w : World) (v u : Value) (xs ys : List Int) (k : Int) (hv : RowAt w v xs) (hu : RowAt w u ys) (hx : xs.length ≤ 1000) (hy : ys.length ≤ 1000) (hk : In64 k) : Calls Try.prog 14 #[v, u, .int .i64 k] w fun e w' => ∃ r, e = .returned r ∧ WordAt w' r ((xs ++ ys).take k.toNat) ∧ Below w.heap.size w w' := by
  have hw := hv.word
  have hw2 := hu.word
  obtain ⟨ao, ca, rfl, h1, h2, h3, hin, hc⟩ := hv
  obtain ⟨bo, cb, rfl, g1, g2, g3, hin2, hc2⟩ := hu
  exact join_any w ao bo ca cb xs ys k hw hw2 hx hy h1 g1 h3 g3 hk
/-- from the comparison on -/
theorem less_q (w : World) (v u : Value) (xs ys : List Int) (hv : WordAt w v xs) (hu : WordAt w u ys) (hx : xs.length ≤ 1000) (hy : ys.length ≤ 1000) : Calls Try.prog 9 #[v, u] w fun e w' => e = .returned (.bool (ltW xs ys)) ∧ Below w.heap.size w w' :=
  (less_any w v u xs ys hv hu hx hy).mono fun e w' ⟨h, n, hn⟩ => ⟨h, (show Qt w w' from ⟨n, hn⟩).below⟩
theorem comp_q (w : World) (v u : Value) (xs ys : List Int) (hv : WordAt w v xs) (hu : WordAt w u ys) (hx : xs.length ≤ 1000) (hy : ys.length ≤ 1000) : Calls Try.prog 10 #[v, u] w fun e w' => e = .returned (.int .i64 (cmpW xs ys)) ∧ Below w.heap.size w w' :=
  (compare_any w v u xs ys hv hu hx hy).mono fun e w' ⟨h, n, hn⟩ => ⟨h, (show Qt w w' from ⟨n, hn⟩).below⟩
theorem rsame_q (w : World) (v u : Value) (xs : List Int) (hv : WordAt w v xs) (hu : WordAt w u xs) (hx : xs.length ≤ 1000) : Calls Try.prog 11 #[v, u] w fun e w' => e = .returned (.bool true) ∧ Below w.heap.size w w' :=
  (rsame_any w v u xs xs hv hu hx hx).mono fun e w' ⟨h, n, hn⟩ => ⟨by rw [h]; simp, (show Qt w w' from ⟨n, hn⟩).below⟩
set_option maxRecDepth 100000 in
set_option maxHeartbeats 4000000 in
theorem words_lt (w : World) (ao bo : Option Addr) (ca cb : Nat) (xs ys : List Int) (k : Int) (hv : RowAt w (.slice ao xs.length ca) xs) (hu : RowAt w (.slice bo ys.length cb) ys) (la : xs.length ≤ 20) (lb : ys.length ≤ 20) (hk : In64 k) (h1 : ltW xs ys = true) (h2 : ltW ys xs = false) : Calls Try.prog 3 #[.slice ao xs.length ca, .slice bo ys.length cb, .int .i64 k] w fun e w' => e = .returned (.bool true) ∧ Below w.heap.size w w' := by
  have hcmp : cmpW xs ys = -1 := by unfold cmpW; rw [h1, h2]; rfl
  have HV := Lib.hid hv
  have HU := Lib.hid hu
  have H1 := Lib.hid h1
  have H2 := Lib.hid h2
  have HC := Lib.hid hcmp
  have HK := Lib.hid hk
  clear hv hu h1 h2 hcmp hk
  go_enter Try.func3, Try.ntmps3
  go_wp2_with fail
  refine (alive_any _).mono ?_
  rintro e w1 ⟨rfl, b1⟩
  have HD1 := Lib.hid b1
  clear b1
  have c := less_q w1 _ _ xs ys (HV.out.below HD1.out).word (HU.out.below HD1.out).word (by omega) (by omega)
  rw [H1.out] at c
  go_wp2_with fail
  refine c.mono ?_
  rintro e w2 ⟨rfl, b2⟩
  clear c
  have HD2 := Lib.hid (HD1.out.trans (b2.mono HD1.out.size))
  clear b2
  have c := less_q w2 _ _ ys xs (HU.out.below HD2.out).word (HV.out.below HD2.out).word (by omega) (by omega)
  rw [H2.out] at c
  go_wp2_with fail
  refine c.mono ?_
  rintro e w3 ⟨rfl, b3⟩
  clear c
  have HD3 := Lib.hid (HD2.out.trans (b3.mono HD2.out.size))
  clear b3
  have c := comp_q w3 _ _ xs ys (HV.out.below HD3.out).word (HU.out.below HD3.out).word (by omega) (by omega)
  rw [HC.out] at c
  go_wp2_with fail
  refine c.mono ?_
  rintro e w4 ⟨rfl, b4⟩
  clear c
  have HD4 := Lib.hid (HD3.out.trans (b4.mono HD3.out.size))
  clear b4
  have c := wcut_any w4 _ xs k (HV.out.below HD4.out) (by omega) HK.out
  go_wp2_with fail
  refine c.mono ?_
  rintro e w5 ⟨r1, rfl, hr1, b5⟩
  clear c
  have HR1 := Lib.hid hr1
  clear hr1
  have HD5 := Lib.hid (HD4.out.trans (b5.mono HD4.out.size))
  clear b5
  have c := rcut_any w5 _ xs k (HV.out.below HD5.out).word (by omega)
  go_wp2_with fail
  refine c.mono ?_
  rintro e w6 ⟨r2, rfl, hr2, b6⟩
  clear c
  have HR2 := Lib.hid hr2
  clear hr2
  have HD6 := Lib.hid (HD5.out.trans (b6.mono HD5.out.size))
  have HR1b := Lib.hid (HR1.out.below b6)
  clear b6
  have c := rsame_q w6 r1 r2 _ HR1b.out HR2.out (by simp; omega)
  go_wp2_with fail
  refine c.mono ?_
  rintro e w7 ⟨rfl, b7⟩
  clear c
  have HD7 := Lib.hid (HD6.out.trans (b7.mono HD6.out.size))
  clear b7
  have c := wjoin_any w7 _ _ xs ys k (HV.out.below HD7.out) (HU.out.below HD7.out) (by omega) (by omega) HK.out
  go_wp2_with fail
  refine c.mono ?_
  rintro e w8 ⟨r3, rfl, hr3, b8⟩
  clear c
  have HR3 := Lib.hid hr3
  clear hr3
  have HD8 := Lib.hid (HD7.out.trans (b8.mono HD7.out.size))
  clear b8
  have c := rjoin_any w8 _ _ xs ys k (HV.out.below HD8.out) (HU.out.below HD8.out) (by omega) (by omega)
  go_wp2_with fail
  refine c.mono ?_
  rintro e w9 ⟨r4, rfl, hr4, b9⟩
  clear c
  have HR4 := Lib.hid hr4
  clear hr4
  have HD9 := Lib.hid (HD8.out.trans (b9.mono HD8.out.size))
  have HR3b := Lib.hid (HR3.out.below b9)
  clear b9
  have c := rsame_q w9 r3 r4 _ HR3b.out HR4.out (by simp; omega)
  go_wp2_with fail
  refine c.mono ?_
  rintro e w10 ⟨rfl, b10⟩
  clear c
  have HD10 := Lib.hid (HD9.out.trans (b10.mono HD9.out.size))
  clear b10
  go_wp2_with fail
  go_ret
  exact ⟨rfl, HD10.out⟩
set_option maxRecDepth 100000 in
set_option maxHeartbeats 4000000 in
theorem words_gt (w : World) (ao bo : Option Addr) (ca cb : Nat) (xs ys : List Int) (k : Int) (hv : RowAt w (.slice ao xs.length ca) xs) (hu : RowAt w (.slice bo ys.length cb) ys) (la : xs.length ≤ 20) (lb : ys.length ≤ 20) (hk : In64 k) (h1 : ltW xs ys = false) (h2 : ltW ys xs = true) : Calls Try.prog 3 #[.slice ao xs.length ca, .slice bo ys.length cb, .int .i64 k] w fun e w' => e = .returned (.bool true) ∧ Below w.heap.size w w' := by
  have hcmp : cmpW xs ys = 1 := by unfold cmpW; rw [h1, h2]; rfl
  have HV := Lib.hid hv
  have HU := Lib.hid hu
  have H1 := Lib.hid h1
  have H2 := Lib.hid h2
  have HC := Lib.hid hcmp
  have HK := Lib.hid hk
  clear hv hu h1 h2 hcmp hk
  go_enter Try.func3, Try.ntmps3
  go_wp2_with fail
  refine (alive_any _).mono ?_
  rintro e w1 ⟨rfl, b1⟩
  have HD1 := Lib.hid b1
  clear b1
  have c := less_q w1 _ _ xs ys (HV.out.below HD1.out).word (HU.out.below HD1.out).word (by omega) (by omega)
  rw [H1.out] at c
  go_wp2_with fail
  refine c.mono ?_
  rintro e w2 ⟨rfl, b2⟩
  clear c
  have HD2 := Lib.hid (HD1.out.trans (b2.mono HD1.out.size))
  clear b2
  have c := less_q w2 _ _ ys xs (HU.out.below HD2.out).word (HV.out.below HD2.out).word (by omega) (by omega)
  rw [H2.out] at c
  go_wp2_with fail
  refine c.mono ?_
  rintro e w3 ⟨rfl, b3⟩
  clear c
  have HD3 := Lib.hid (HD2.out.trans (b3.mono HD2.out.size))
  clear b3
  have c := comp_q w3 _ _ xs ys (HV.out.below HD3.out).word (HU.out.below HD3.out).word (by omega) (by omega)
  rw [HC.out] at c
  go_wp2_with fail
  refine c.mono ?_
  rintro e w4 ⟨rfl, b4⟩
  clear c
  have HD4 := Lib.hid (HD3.out.trans (b4.mono HD3.out.size))
  clear b4
  have c := wcut_any w4 _ xs k (HV.out.below HD4.out) (by omega) HK.out
  go_wp2_with fail
  refine c.mono ?_
  rintro e w5 ⟨r1, rfl, hr1, b5⟩
  clear c
  have HR1 := Lib.hid hr1
  clear hr1
  have HD5 := Lib.hid (HD4.out.trans (b5.mono HD4.out.size))
  clear b5
  have c := rcut_any w5 _ xs k (HV.out.below HD5.out).word (by omega)
  go_wp2_with fail
  refine c.mono ?_
  rintro e w6 ⟨r2, rfl, hr2, b6⟩
  clear c
  have HR2 := Lib.hid hr2
  clear hr2
  have HD6 := Lib.hid (HD5.out.trans (b6.mono HD5.out.size))
  have HR1b := Lib.hid (HR1.out.below b6)
  clear b6
  have c := rsame_q w6 r1 r2 _ HR1b.out HR2.out (by simp; omega)
  go_wp2_with fail
  refine c.mono ?_
  rintro e w7 ⟨rfl, b7⟩
  clear c
  have HD7 := Lib.hid (HD6.out.trans (b7.mono HD6.out.size))
  clear b7
  have c := wjoin_any w7 _ _ xs ys k (HV.out.below HD7.out) (HU.out.below HD7.out) (by omega) (by omega) HK.out
  go_wp2_with fail
  refine c.mono ?_
  rintro e w8 ⟨r3, rfl, hr3, b8⟩
  clear c
  have HR3 := Lib.hid hr3
  clear hr3
  have HD8 := Lib.hid (HD7.out.trans (b8.mono HD7.out.size))
  clear b8
  have c := rjoin_any w8 _ _ xs ys k (HV.out.below HD8.out) (HU.out.below HD8.out) (by omega) (by omega)
  go_wp2_with fail
  refine c.mono ?_
  rintro e w9 ⟨r4, rfl, hr4, b9⟩
  clear c
  have HR4 := Lib.hid hr4
  clear hr4
  have HD9 := Lib.hid (HD8.out.trans (b9.mono HD8.out.size))
  have HR3b := Lib.hid (HR3.out.below b9)
  clear b9
  have c := rsame_q w9 r3 r4 _ HR3b.out HR4.out (by simp; omega)
  go_wp2_with fail
  refine c.mono ?_
  rintro e w10 ⟨rfl, b10⟩
  clear c
  have HD10 := Lib.hid (HD9.out.trans (b10.mono HD9.out.size))
  clear b10
  go_wp2_with fail
  go_ret
  exact ⟨rfl, HD10.out⟩
set_option maxRecDepth 100000 in
set_option maxHeartbeats 4000000 in
theorem words_eq (w : World) (ao bo : Option Addr) (ca cb : Nat) (xs ys : List Int) (k : Int) (hv : RowAt w (.slice ao xs.length ca) xs) (hu : RowAt w (.slice bo ys.length cb) ys) (la : xs.length ≤ 20) (lb : ys.length ≤ 20) (hk : In64 k) (h1 : ltW xs ys = false) (h2 : ltW ys xs = false) : Calls Try.prog 3 #[.slice ao xs.length ca, .slice bo ys.length cb, .int .i64 k] w fun e w' => e = .returned (.bool true) ∧ Below w.heap.size w w' := by
  have hcmp : cmpW xs ys = 0 := by unfold cmpW; rw [h1, h2]; rfl
  have HV := Lib.hid hv
  have HU := Lib.hid hu
  have H1 := Lib.hid h1
  have H2 := Lib.hid h2
  have HC := Lib.hid hcmp
  have HK := Lib.hid hk
  clear hv hu h1 h2 hcmp hk
  go_enter Try.func3, Try.ntmps3
  go_wp2_with fail
  refine (alive_any _).mono ?_
  rintro e w1 ⟨rfl, b1⟩
  have HD1 := Lib.hid b1
  clear b1
  have c := less_q w1 _ _ xs ys (HV.out.below HD1.out).word (HU.out.below HD1.out).word (by omega) (by omega)
  rw [H1.out] at c
  go_wp2_with fail
  refine c.mono ?_
  rintro e w2 ⟨rfl, b2⟩
  clear c
  have HD2 := Lib.hid (HD1.out.trans (b2.mono HD1.out.size))
  clear b2
  have c := less_q w2 _ _ ys xs (HU.out.below HD2.out).word (HV.out.below HD2.out).word (by omega) (by omega)
  rw [H2.out] at c
  go_wp2_with fail
  refine c.mono ?_
  rintro e w3 ⟨rfl, b3⟩
  clear c
  have HD3 := Lib.hid (HD2.out.trans (b3.mono HD2.out.size))
  clear b3
  have c := comp_q w3 _ _ xs ys (HV.out.below HD3.out).word (HU.out.below HD3.out).word (by omega) (by omega)
  rw [HC.out] at c
  go_wp2_with fail
  refine c.mono ?_
  rintro e w4 ⟨rfl, b4⟩
  clear c
  have HD4 := Lib.hid (HD3.out.trans (b4.mono HD3.out.size))
  clear b4
  have c := wcut_any w4 _ xs k (HV.out.below HD4.out) (by omega) HK.out
  go_wp2_with fail
  refine c.mono ?_
  rintro e w5 ⟨r1, rfl, hr1, b5⟩
  clear c
  have HR1 := Lib.hid hr1
  clear hr1
  have HD5 := Lib.hid (HD4.out.trans (b5.mono HD4.out.size))
  clear b5
  have c := rcut_any w5 _ xs k (HV.out.below HD5.out).word (by omega)
  go_wp2_with fail
  refine c.mono ?_
  rintro e w6 ⟨r2, rfl, hr2, b6⟩
  clear c
  have HR2 := Lib.hid hr2
  clear hr2
  have HD6 := Lib.hid (HD5.out.trans (b6.mono HD5.out.size))
  have HR1b := Lib.hid (HR1.out.below b6)
  clear b6
  have c := rsame_q w6 r1 r2 _ HR1b.out HR2.out (by simp; omega)
  go_wp2_with fail
  refine c.mono ?_
  rintro e w7 ⟨rfl, b7⟩
  clear c
  have HD7 := Lib.hid (HD6.out.trans (b7.mono HD6.out.size))
  clear b7
  have c := wjoin_any w7 _ _ xs ys k (HV.out.below HD7.out) (HU.out.below HD7.out) (by omega) (by omega) HK.out
  go_wp2_with fail
  refine c.mono ?_
  rintro e w8 ⟨r3, rfl, hr3, b8⟩
  clear c
  have HR3 := Lib.hid hr3
  clear hr3
  have HD8 := Lib.hid (HD7.out.trans (b8.mono HD7.out.size))
  clear b8
  have c := rjoin_any w8 _ _ xs ys k (HV.out.below HD8.out) (HU.out.below HD8.out) (by omega) (by omega)
  go_wp2_with fail
  refine c.mono ?_
  rintro e w9 ⟨r4, rfl, hr4, b9⟩
  clear c
  have HR4 := Lib.hid hr4
  clear hr4
  have HD9 := Lib.hid (HD8.out.trans (b9.mono HD8.out.size))
  have HR3b := Lib.hid (HR3.out.below b9)
  clear b9
  have c := rsame_q w9 r3 r4 _ HR3b.out HR4.out (by simp; omega)
  go_wp2_with fail
  refine c.mono ?_
  rintro e w10 ⟨rfl, b10⟩
  clear c
  have HD10 := Lib.hid (HD9.out.trans (b10.mono HD9.out.size))
  clear b10
  go_wp2_with fail
  go_ret
  exact ⟨rfl, HD10.out⟩
end Go.Proofs.Ythcnffieoocnkaa.st
