import Derived.Test.YthcnffieoocnkaaStak
import Derived.Test.YthcnffieoocnkaaTmsb
import Derived.Test.YthcnffieoocnkaaArgs
namespace Go.Proofs.Ythcnffieoocnkaa.st
open Go.ChangeShapes Go.WideShapes Go.ChangeAt Go.RowKit Go.Maps Go.WideMaps Go.WideElems
set_option linter.unusedVariables false
theorem rows_m {w : World} {v : Value} {X : List (List Int)} (h : RowsAt w v X) (hf : FewP X) : WordsM w v X := by
  obtain ⟨ao, cap, e, hm, hc⟩ := h
  refine ⟨ao, cap, e, fun i hi => ?_⟩
  obtain ⟨a, u, e2, hab, hcell, hw⟩ := hc i hi
  have hx := hf.2 (X.getD i []) (by rw [List.getD_eq_getElem?_getD, List.getElem?_eq_getElem hi]; exact List.getElem_mem hi)
  exact ⟨a, u, e2, hab, hcell, hw.wordN (by omega)⟩
theorem alike_q (w : World) (v u : Value) (L M : List (List Int)) (b : Bool) (hv : WordsAt w v L) (hu : WordsN w u M) (hl : L.length ≤ 4000) (hm : M.length ≤ 4000) (hb : decide (L = M) = b) : Calls Try.prog 19 #[v, u] w fun e w' => e = .returned (.bool b) ∧ Below w.heap.size w w' :=
  (alike_any w v u L M hv hu.words (by unfold maxLen; omega) (by unfold maxLen; omega)).mono fun e w' ⟨h, n, hn⟩ => ⟨by rw [h, hb], (show Qt w w' from ⟨n, hn⟩).below⟩
theorem rhas_q (w : World) (v u : Value) (L : List (List Int)) (y : List Int) (b : Bool) (hv : WordsN w v L) (hu : WordAt w u y) (hL : L.length ≤ 4000) (hy : y.length ≤ 1000) (hb : decide (y ∈ L) = b) : Calls Try.prog 23 #[v, u] w fun e w' => e = .returned (.bool b) ∧ Below w.heap.size w w' :=
  (rhas_any w v u L y hv.words hu (by unfold maxLen; omega) hy).mono fun e w' ⟨h, n, hn⟩ => ⟨by rw [h, hb], (show Qt w w' from ⟨n, hn⟩).below⟩
theorem cells_below {w w' : World} {ao : Option Addr} {us : List Value} (c : ∀ ad, ao = some ad → ∀ j u, us[j]? = some u → w.cell? (ad.add j) = some u) (hb : Below w.heap.size w w') : ∀ ad, ao = some ad → ∀ j u, us[j]? = some u → w'.cell? (ad.add j) = some u :=
  fun ad e j u h => (hb.cell (p := ad.add j) (blk_lt (c ad e j u h))).trans (c ad e j u h)
theorem us_one {w : World} {L : List (List Int)} {us : List Value} (h : us.length = L.length) (e : ∀ i, i < L.length → ∃ u, us[i]? = some u ∧ WordN w u (L.getD i [])) : ∀ u ∈ us, u.oneCell' = true := by
  intro u hu
  obtain ⟨i, hi, rfl⟩ := List.mem_iff_getElem.1 hu
  obtain ⟨u', e1, hw⟩ := e i (by omega)
  rw [List.getElem?_eq_getElem hi] at e1
  rw [Option.some.inj e1]
  obtain ⟨_, ao, cap, e2, _⟩ := hw
  rw [e2]
  rfl
theorem both_m {B n : Nat} {w : World} {v : Value} {L1 L2 : List (List Int)} {us1 us2 : List Value} (hown : w.ownsRow B 22 1 v n (us1 ++ us2)) (hn : n = (L1 ++ L2).length) (h1 : us1.length = L1.length) (e1 : ∀ i, i < L1.length → ∃ u, us1[i]? = some u ∧ WordN w u (L1.getD i [])) (e2 : ∀ i, i < L2.length → ∃ u, us2[i]? = some u ∧ WordN w u (L2.getD i [])) : WordsM w v (L1 ++ L2) := by
  subst hn
  have he : ∀ i, i < (L1 ++ L2).length → ∃ u, (us1 ++ us2)[i]? = some u ∧ WordN w u ((L1 ++ L2).getD i []) := fun i hi => by
    by_cases hlt : i < L1.length
    · obtain ⟨u, h, hw⟩ := e1 i hlt
      refine ⟨u, by rw [List.getElem?_append_left (by omega)]; exact h, ?_⟩
      rw [List.getD_eq_getElem?_getD, List.getElem?_append_left hlt, ← List.getD_eq_getElem?_getD]
      exact hw
    · obtain ⟨u, h, hw⟩ := e2 (i - L1.length) (by simp at hi; omega)
      refine ⟨u, by rw [List.getElem?_append_right (by omega), h1]; exact h, ?_⟩
      rw [List.getD_eq_getElem?_getD, List.getElem?_append_right (by omega), ← List.getD_eq_getElem?_getD]
      exact hw
  have h' := hown
  rcases hown.2 with ⟨hv, h0⟩ | ⟨g, cap, cur, hv, hB, _, hc, hm, _⟩
  · subst hv
    exact ⟨none, 0, by rw [h0], fun i hi => by omega⟩
  · subst hv
    refine ⟨_, cap, rfl, fun i hlt => ?_⟩
    obtain ⟨u, hu, hw⟩ := he i hlt
    exact ⟨_, u, rfl, own_lt h', own_cells' h' i u hu, hw⟩
theorem set_words {X : List (List Int)} {n : Nat} (h : ∀ x ∈ X, x.length ≤ n) : ∀ x ∈ setW X, x.length ≤ n := fun x hx => h x ((mem_setW _ _).1 hx)
theorem WordsM.below2 {w w' : World} {v : Value} {L : List (List Int)} (h : WordsM w v L) (hb : Below w.heap.size w w') : WordsM w' v L := by
  obtain ⟨ao, cap, e, hc⟩ := h
  refine ⟨ao, cap, e, fun i hi => ?_⟩
  obtain ⟨a, u, e2, hab, hcell, hw⟩ := hc i hi
  exact ⟨a, u, e2, Nat.lt_of_lt_of_le hab hb.size, (hb.cell (p := a.add i) (by rw [add_block]; exact hab)).trans hcell, hw.below hb⟩
set_option maxRecDepth 100000 in
set_option maxHeartbeats 2000000 in
theorem sets_tt (w : World) (aa ab ao : Option Addr) (ca cb cc : Nat) (A C : List (List Int)) (q : List Int) (k : Int) (ha : RowsAt w (.slice aa A.length ca) A) (hb : RowsAt w (.slice ab C.length cb) C) (hq : RowAt w (.slice ao q.length cc) q) (fa : FewP A) (fb : FewP C) (fq : q.length ≤ 20) (hk : In64 k) (hdq : decide (q ∈ setW A) = true) (hds : decide (setW A = setW C) = true) : Calls Try.prog 4 #[.slice aa A.length ca, .slice ab C.length cb, .slice ao q.length cc, .int .i64 k] w fun e w' => e = .returned (.bool true) ∧ Below w.heap.size w w' := by
  have HFQ : Hid (Fine q) := Lib.hid (by obtain ⟨_, _, _, _, _, _, hin, _⟩ := hq; exact ⟨hin, by omega⟩)
  have HA := Lib.hid ha
  have HC := Lib.hid hb
  have HQ := Lib.hid hq
  have HFA := Lib.hid fa
  have HFB := Lib.hid fb
  have HK := Lib.hid hk
  have HDQ := Lib.hid hdq
  have HDS := Lib.hid hds
  have la : A.length ≤ 20 := fa.1
  have lb : C.length ≤ 20 := fb.1
  have na : (setW A).length ≤ 20 := Nat.le_trans (setW_len _) la
  have nc : (setW C).length ≤ 20 := Nat.le_trans (setW_len _) lb
  have nb : (setW (A ++ C)).length ≤ 40 := Nat.le_trans (setW_len _) (by simp; omega)
  have nt : (setW (timesW A C k.toNat)).length ≤ 400 := Nat.le_trans (setW_len _) (by rw [timesW_len]; exact Nat.mul_le_mul la lb)
  have nm : (setW (meetW A C)).length ≤ 20 := Nat.le_trans (setW_len _) (Nat.le_trans (List.length_filter_le _ _) la)
  have nq : (setW (A ++ [q])).length ≤ 21 := Nat.le_trans (setW_len _) (by simp; omega)
  obtain ⟨i1, ki, kz0, kz1, kz2⟩ := info_parts info_ints
  clear ha hb hq fa fb hk hdq hds
  go_enter Try.func4, Try.ntmps4
  go_wp2_with fail
  refine (alive_any _).mono ?_
  rintro e w1 ⟨rfl, b1⟩
  have HD1 := Lib.hid b1
  clear b1
  have c := few_any w1 (.slice aa A.length ca) A (HA.out.below HD1.out)
  rw [decide_eq_true HFA.out] at c
  go_wp2_with fail
  refine c.mono ?_
  rintro e w2 ⟨rfl, rfl⟩
  clear c
  have c := few_any w1 (.slice ab C.length cb) C (HC.out.below HD1.out)
  rw [decide_eq_true HFB.out] at c
  go_wp2_with fail
  refine c.mono ?_
  rintro e w2 ⟨rfl, rfl⟩
  clear c
  have c := of_x w1 _ _ ((HA.out.below HD1.out).words HFA.out) (HA.out.fine HFA.out) (by omega)
  go_wp2_with fail
  refine c.mono ?_
  rintro e w2 ⟨s, ms, Ks, rfl, hs, sl, b2⟩
  clear c
  have HB2 := Lib.hid b2
  have HD2 := Lib.hid (HD1.out.trans (b2.mono HD1.out.size))
  clear b2
  have Hs := Lib.hid hs
  clear hs
  have sz := Hs.out.set.lt
  have c := of_x w2 _ _ ((HC.out.below HD2.out).words HFB.out) (HC.out.fine HFB.out) (by omega)
  go_wp2_with fail
  refine c.mono ?_
  rintro e w3 ⟨t, mt, Kt, rfl, ht, tl, b3⟩
  clear c
  have Hs_3 := Lib.hid (Hs.out.below b3)
  have HB3 := Lib.hid b3
  have HD3 := Lib.hid (HD2.out.trans (b3.mono HD2.out.size))
  clear b3
  have Ht := Lib.hid ht
  clear ht
  have hst : s ≠ t := by have := Ht.out.lo; omega
  have hmm : ∀ b, ms = some b → mt ≠ some b := fun b e1 e2 => by have h1 := Ht.out.mlo b e2; have h2 := SetIs.lt_map (e1 ▸ Hs.out.set); omega
  have HMM := Lib.hid hmm
  clear hmm
  have c := rof_any w3 _ _ ((rows_m HA.out HFA.out).below2 HD3.out) (by omega)
  go_wp2_with fail
  refine c.mono ?_
  rintro e w4 ⟨x, rfl, hx, b4⟩
  clear c
  have Hs_4 := Lib.hid (Hs_3.out.below b4)
  have Ht_4 := Lib.hid (Ht.out.below b4)
  have HB4 := Lib.hid b4
  have HD4 := Lib.hid (HD3.out.trans (b4.mono HD3.out.size))
  clear b4
  try clear Hs
  have Hx := Lib.hid hx
  clear hx
  obtain ⟨xo, xc, rfl, _⟩ := id Hx.out
  have c := rof_any w4 _ _ ((rows_m HC.out HFB.out).below2 HD4.out) (by omega)
  go_wp2_with fail
  refine c.mono ?_
  rintro e w5 ⟨y, rfl, hy, b5⟩
  clear c
  have Hs_5 := Lib.hid (Hs_4.out.below b5)
  have Ht_5 := Lib.hid (Ht_4.out.below b5)
  have Hx_5 := Lib.hid (Hx.out.below b5)
  have HB5 := Lib.hid b5
  have HD5 := Lib.hid (HD4.out.trans (b5.mono HD4.out.size))
  clear b5
  try clear Hs_3
  try clear Ht
  have Hy := Lib.hid hy
  clear hy
  obtain ⟨yo, yc, rfl, _⟩ := id Hy.out
  have c := all_x w5 s ms Ks _ (setW (A)) Hs_5.out (setW_up _) (mem_setW _)
  go_wp2_with fail
  refine c.mono ?_
  rintro e w6 ⟨v1, rfl, _, hv1, b6⟩
  clear c
  have Hs_6 := Lib.hid (Hs_5.out.below b6)
  have Ht_6 := Lib.hid (Ht_5.out.below b6)
  have Hx_6 := Lib.hid (Hx_5.out.below b6)
  have Hy_6 := Lib.hid (Hy.out.below b6)
  have HB6 := Lib.hid b6
  have HD6 := Lib.hid (HD5.out.trans (b6.mono HD5.out.size))
  clear b6
  try clear Hs_4
  try clear Ht_4
  try clear Hx
  have Hv1 := Lib.hid hv1
  clear hv1
  have c := alike_q w6 v1 (.slice xo (setW A).length xc) _ _ true Hv1.out Hx_6.out (by omega) (by omega) (decide_eq_true rfl)
  go_wp2_with fail
  refine c.mono ?_
  rintro e w7 ⟨rfl, b7⟩
  clear c
  have Hs_7 := Lib.hid (Hs_6.out.below b7)
  have Ht_7 := Lib.hid (Ht_6.out.below b7)
  have Hx_7 := Lib.hid (Hx_6.out.below b7)
  have Hy_7 := Lib.hid (Hy_6.out.below b7)
  have Hv1_7 := Lib.hid (Hv1.out.below b7)
  have HB7 := Lib.hid b7
  have HD7 := Lib.hid (HD6.out.trans (b7.mono HD6.out.size))
  clear b7
  try clear Hs_5
  try clear Ht_5
  try clear Hx_5
  try clear Hy
  have c := len_s w7 s _ ms Ks Hs_7.out
  go_wp2_with fail
  refine c.mono ?_
  rintro e w8 ⟨rfl, rfl⟩
  clear c
  have c := has_s w7 s _ ms Ks _ q Hs_7.out (HQ.out.below HD7.out).word HFQ.out
  rw [HDQ.out] at c
  go_wp2_with fail
  refine c.mono ?_
  rintro e w8 ⟨rfl, b8⟩
  clear c
  have Hs_8 := Lib.hid (Hs_7.out.below b8)
  have Ht_8 := Lib.hid (Ht_7.out.below b8)
  have Hx_8 := Lib.hid (Hx_7.out.below b8)
  have Hy_8 := Lib.hid (Hy_7.out.below b8)
  have HB8 := Lib.hid b8
  have HD8 := Lib.hid (HD7.out.trans (b8.mono HD7.out.size))
  clear b8
  try clear Hs_6
  try clear Ht_6
  try clear Hx_6
  try clear Hy_6
  try clear Hv1
  have c := rhas_q w8 (.slice xo (setW A).length xc) _ _ q _ Hx_8.out (HQ.out.below HD8.out).word (by omega) (by omega) HDQ.out
  go_wp2_with fail
  refine c.mono ?_
  rintro e w9 ⟨rfl, b9⟩
  clear c
  have Hs_9 := Lib.hid (Hs_8.out.below b9)
  have Ht_9 := Lib.hid (Ht_8.out.below b9)
  have Hx_9 := Lib.hid (Hx_8.out.below b9)
  have Hy_9 := Lib.hid (Hy_8.out.below b9)
  have HB9 := Lib.hid b9
  have HD9 := Lib.hid (HD8.out.trans (b9.mono HD8.out.size))
  clear b9
  try clear Hs_7
  try clear Ht_7
  try clear Hx_7
  try clear Hy_7
  have c := same_s w9 s t _ _ ms mt Ks Kt Hs_9.out Ht_9.out
  rw [HDS.out] at c
  go_wp2_with fail
  refine c.mono ?_
  rintro e w10 ⟨rfl, b10⟩
  clear c
  have Hs_10 := Lib.hid (Hs_9.out.below b10)
  have Ht_10 := Lib.hid (Ht_9.out.below b10)
  have Hx_10 := Lib.hid (Hx_9.out.below b10)
  have Hy_10 := Lib.hid (Hy_9.out.below b10)
  have HB10 := Lib.hid b10
  have HD10 := Lib.hid (HD9.out.trans (b10.mono HD9.out.size))
  clear b10
  try clear Hs_8
  try clear Ht_8
  try clear Hx_8
  try clear Hy_8
  have c := alike_q w10 (.slice xo (setW A).length xc) (.slice yo (setW C).length yc) _ _ true Hx_10.out.words Hy_10.out (by omega) (by omega) HDS.out
  go_wp2_with fail
  refine c.mono ?_
  rintro e w11 ⟨rfl, b11⟩
  clear c
  have Hs_11 := Lib.hid (Hs_10.out.below b11)
  have Ht_11 := Lib.hid (Ht_10.out.below b11)
  have Hx_11 := Lib.hid (Hx_10.out.below b11)
  have Hy_11 := Lib.hid (Hy_10.out.below b11)
  have HB11 := Lib.hid b11
  have HD11 := Lib.hid (HD10.out.trans (b11.mono HD10.out.size))
  clear b11
  try clear Hs_9
  try clear Ht_9
  try clear Hx_9
  try clear Hy_9
  have c := times_x w11 s t ms mt A C Ks Kt k Hs_11.out Ht_11.out (fine_len HFA.out.2 HFB.out.2 (by decide)) HK.out (Nat.le_trans (Nat.mul_le_mul sl tl) (Nat.le_trans (Nat.mul_le_mul la lb) (by decide)))
  go_wp2_with fail
  refine c.mono ?_
  rintro e w12 ⟨o, mo, Ko, rfl, ho, ol, b12⟩
  clear c
  have Hs_12 := Lib.hid (Hs_11.out.below b12)
  have Ht_12 := Lib.hid (Ht_11.out.below b12)
  have Hx_12 := Lib.hid (Hx_11.out.below b12)
  have Hy_12 := Lib.hid (Hy_11.out.below b12)
  have HB12 := Lib.hid b12
  have HD12 := Lib.hid (HD11.out.trans (b12.mono HD11.out.size))
  clear b12
  try clear Hs_10
  try clear Ht_10
  try clear Hx_10
  try clear Hy_10
  have Ho := Lib.hid ho
  clear ho
  have c := all_x w12 o mo Ko _ (setW (timesW A C k.toNat)) Ho.out (setW_up _) (mem_setW _)
  go_wp2_with fail
  refine c.mono ?_
  rintro e w13 ⟨v2, rfl, _, hv2, b13⟩
  clear c
  have Hs_13 := Lib.hid (Hs_12.out.below b13)
  have Ht_13 := Lib.hid (Ht_12.out.below b13)
  have Hx_13 := Lib.hid (Hx_12.out.below b13)
  have Hy_13 := Lib.hid (Hy_12.out.below b13)
  have Ho_13 := Lib.hid (Ho.out.below b13)
  have HB13 := Lib.hid b13
  have HD13 := Lib.hid (HD12.out.trans (b13.mono HD12.out.size))
  clear b13
  try clear Hs_11
  try clear Ht_11
  try clear Hx_11
  try clear Hy_11
  have Hv2 := Lib.hid hv2
  clear hv2
  have c := rtimes_any w13 (.slice xo (setW A).length xc) (.slice yo (setW C).length yc) _ _ k Hx_13.out Hy_13.out (by omega) (by omega) (set_words (fun x hx => Nat.le_trans (HFA.out.2 x hx) (by decide))) (set_words (fun x hx => Nat.le_trans (HFB.out.2 x hx) (by decide)))
  rw [setW_times] at c
  go_wp2_with fail
  refine c.mono ?_
  rintro e w14 ⟨z, rfl, hz, b14⟩
  clear c
  have Hs_14 := Lib.hid (Hs_13.out.below b14)
  have Ht_14 := Lib.hid (Ht_13.out.below b14)
  have Hx_14 := Lib.hid (Hx_13.out.below b14)
  have Hy_14 := Lib.hid (Hy_13.out.below b14)
  have Hv2_14 := Lib.hid (Hv2.out.below b14)
  have HB14 := Lib.hid b14
  have HD14 := Lib.hid (HD13.out.trans (b14.mono HD13.out.size))
  clear b14
  try clear Hs_12
  try clear Ht_12
  try clear Hx_12
  try clear Hy_12
  try clear Ho
  have Hz := Lib.hid hz
  clear hz
  have c := alike_q w14 v2 z _ _ true Hv2_14.out Hz.out (by omega) (by omega) (decide_eq_true rfl)
  go_wp2_with fail
  refine c.mono ?_
  rintro e w15 ⟨rfl, b15⟩
  clear c
  have Hs_15 := Lib.hid (Hs_14.out.below b15)
  have Ht_15 := Lib.hid (Ht_14.out.below b15)
  have Hx_15 := Lib.hid (Hx_14.out.below b15)
  have Hy_15 := Lib.hid (Hy_14.out.below b15)
  have Hv2_15 := Lib.hid (Hv2_14.out.below b15)
  have Hz_15 := Lib.hid (Hz.out.below b15)
  have HB15 := Lib.hid b15
  have HD15 := Lib.hid (HD14.out.trans (b15.mono HD14.out.size))
  clear b15
  try clear Hs_13
  try clear Ht_13
  try clear Hx_13
  try clear Hy_13
  try clear Hv2
  have c := meet_s w15 s t A C ms mt Ks Kt Hs_15.out Ht_15.out
  go_wp2_with fail
  refine c.mono ?_
  rintro e w16 ⟨m, mm, Km, rfl, hm, b16⟩
  clear c
  have Hs_16 := Lib.hid (Hs_15.out.below b16)
  have Ht_16 := Lib.hid (Ht_15.out.below b16)
  have Hx_16 := Lib.hid (Hx_15.out.below b16)
  have Hy_16 := Lib.hid (Hy_15.out.below b16)
  have HB16 := Lib.hid b16
  have HD16 := Lib.hid (HD15.out.trans (b16.mono HD15.out.size))
  clear b16
  try clear Hs_14
  try clear Ht_14
  try clear Hx_14
  try clear Hy_14
  try clear Hv2_14
  try clear Hz
  have Hm := Lib.hid hm
  clear hm
  have c := all_x w16 m mm Km _ (setW (meetW A C)) Hm.out (setW_up _) (mem_setW _)
  go_wp2_with fail
  refine c.mono ?_
  rintro e w17 ⟨v3, rfl, _, hv3, b17⟩
  clear c
  have Hs_17 := Lib.hid (Hs_16.out.below b17)
  have Ht_17 := Lib.hid (Ht_16.out.below b17)
  have Hx_17 := Lib.hid (Hx_16.out.below b17)
  have Hy_17 := Lib.hid (Hy_16.out.below b17)
  have Hm_17 := Lib.hid (Hm.out.below b17)
  have HB17 := Lib.hid b17
  have HD17 := Lib.hid (HD16.out.trans (b17.mono HD16.out.size))
  clear b17
  try clear Hs_15
  try clear Ht_15
  try clear Hx_15
  try clear Hy_15
  have Hv3 := Lib.hid hv3
  clear hv3
  have c := rmeet_any w17 (.slice xo (setW A).length xc) (.slice yo (setW C).length yc) _ _ Hx_17.out Hy_17.out (by omega) (by omega)
  rw [setW_meet] at c
  go_wp2_with fail
  refine c.mono ?_
  rintro e w18 ⟨z2, rfl, hz2, b18⟩
  clear c
  have Hs_18 := Lib.hid (Hs_17.out.below b18)
  have Ht_18 := Lib.hid (Ht_17.out.below b18)
  have Hx_18 := Lib.hid (Hx_17.out.below b18)
  have Hy_18 := Lib.hid (Hy_17.out.below b18)
  have Hv3_18 := Lib.hid (Hv3.out.below b18)
  have HB18 := Lib.hid b18
  have HD18 := Lib.hid (HD17.out.trans (b18.mono HD17.out.size))
  clear b18
  try clear Hs_16
  try clear Ht_16
  try clear Hx_16
  try clear Hy_16
  try clear Hm
  have Hzz := Lib.hid hz2
  clear hz2
  have c := alike_q w18 v3 z2 _ _ true Hv3_18.out Hzz.out (by omega) (by omega) (decide_eq_true rfl)
  go_wp2_with fail
  refine c.mono ?_
  rintro e w19 ⟨rfl, b19⟩
  clear c
  have Hs_19 := Lib.hid (Hs_18.out.below b19)
  have Ht_19 := Lib.hid (Ht_18.out.below b19)
  have Hx_19 := Lib.hid (Hx_18.out.below b19)
  have Hy_19 := Lib.hid (Hy_18.out.below b19)
  have Hv3_19 := Lib.hid (Hv3_18.out.below b19)
  have Hzz_19 := Lib.hid (Hzz.out.below b19)
  have HB19 := Lib.hid b19
  have HD19 := Lib.hid (HD18.out.trans (b19.mono HD18.out.size))
  clear b19
  try clear Hs_17
  try clear Ht_17
  try clear Hx_17
  try clear Hy_17
  try clear Hv3
  have c := of_x w19 _ _ ((HA.out.below HD19.out).words HFA.out) (HA.out.fine HFA.out) (by omega)
  go_wp2_with fail
  refine c.mono ?_
  rintro e w20 ⟨f, mf, Kf, rfl, hf, fl, b20⟩
  clear c
  have Hs_20 := Lib.hid (Hs_19.out.below b20)
  have Ht_20 := Lib.hid (Ht_19.out.below b20)
  have Hx_20 := Lib.hid (Hx_19.out.below b20)
  have Hy_20 := Lib.hid (Hy_19.out.below b20)
  have HB20 := Lib.hid b20
  have HD20 := Lib.hid (HD19.out.trans (b20.mono HD19.out.size))
  clear b20
  try clear Hs_18
  try clear Ht_18
  try clear Hx_18
  try clear Hy_18
  try clear Hv3_18
  try clear Hzz
  have Hf := Lib.hid hf
  clear hf
  have bnow : Below w19.heap.size w19 w20 := HB20.out
  have c := add_s w19 w20 f A mf Kf _ q Hf.out (HQ.out.below HD20.out).word HFQ.out (by omega) bnow (Nat.le_refl _)
  rw [HDQ.out] at c
  go_wp2_with fail
  refine c.mono ?_
  rintro e w21 ⟨rfl, ⟨m2, K2, hf2⟩, b21⟩
  clear c bnow
  have Hs_21 := Lib.hid (Hs_19.out.below b21)
  have Ht_21 := Lib.hid (Ht_19.out.below b21)
  have Hx_21 := Lib.hid (Hx_19.out.below b21)
  have Hy_21 := Lib.hid (Hy_19.out.below b21)
  have HD21 := Lib.hid (HD19.out.trans (b21.mono HD19.out.size))
  clear b21
  have Hf := Lib.hid hf2
  clear hf2
  have c := rhas_q w21 (.slice xo (setW A).length xc) _ _ q _ Hx_21.out (HQ.out.below HD21.out).word (by omega) (by omega) HDQ.out
  go_wp2_with fail
  refine c.mono ?_
  rintro e w22 ⟨rfl, b22⟩
  clear c
  have Hs_22 := Lib.hid (Hs_21.out.below b22)
  have Ht_22 := Lib.hid (Ht_21.out.below b22)
  have Hx_22 := Lib.hid (Hx_21.out.below b22)
  have Hy_22 := Lib.hid (Hy_21.out.below b22)
  have Hf_22 := Lib.hid (Hf.out.below b22)
  have HB22 := Lib.hid b22
  have HD22 := Lib.hid (HD21.out.trans (b22.mono HD21.out.size))
  clear b22
  try clear Hs_19
  try clear Ht_19
  try clear Hx_19
  try clear Hy_19
  have c := all_x w22 f m2 K2 _ (setW (A ++ [q])) Hf_22.out (setW_up _) (mem_setW _)
  go_wp2_with fail
  refine c.mono ?_
  rintro e w23 ⟨v4, rfl, _, hv4, b23⟩
  clear c
  have Hs_23 := Lib.hid (Hs_22.out.below b23)
  have Ht_23 := Lib.hid (Ht_22.out.below b23)
  have Hx_23 := Lib.hid (Hx_22.out.below b23)
  have Hy_23 := Lib.hid (Hy_22.out.below b23)
  have Hf_23 := Lib.hid (Hf_22.out.below b23)
  have HB23 := Lib.hid b23
  have HD23 := Lib.hid (HD22.out.trans (b23.mono HD22.out.size))
  clear b23
  try clear Hs_21
  try clear Ht_21
  try clear Hx_21
  try clear Hy_21
  try clear Hf
  have Hv4 := Lib.hid hv4
  clear hv4
  have c := radd_any w23 (.slice xo (setW A).length xc) _ _ q Hx_23.out ((HQ.out.below HD23.out).wordN (by omega)) (by omega) (setW_up _)
  rw [← setW_snoc] at c
  go_wp2_with fail
  refine c.mono ?_
  rintro e w24 ⟨z3, rfl, hz3, b24⟩
  clear c
  have Hs_24 := Lib.hid (Hs_23.out.below b24)
  have Ht_24 := Lib.hid (Ht_23.out.below b24)
  have Hx_24 := Lib.hid (Hx_23.out.below b24)
  have Hy_24 := Lib.hid (Hy_23.out.below b24)
  have Hv4_24 := Lib.hid (Hv4.out.below b24)
  have HB24 := Lib.hid b24
  have HD24 := Lib.hid (HD23.out.trans (b24.mono HD23.out.size))
  clear b24
  try clear Hs_22
  try clear Ht_22
  try clear Hx_22
  try clear Hy_22
  try clear Hf_22
  have Hzc := Lib.hid hz3
  clear hz3
  have c := alike_q w24 v4 z3 _ _ true Hv4_24.out Hzc.out (by omega) (by omega) (decide_eq_true rfl)
  go_wp2_with fail
  refine c.mono ?_
  rintro e w25 ⟨rfl, b25⟩
  clear c
  have Hs_25 := Lib.hid (Hs_24.out.below b25)
  have Ht_25 := Lib.hid (Ht_24.out.below b25)
  have Hx_25 := Lib.hid (Hx_24.out.below b25)
  have Hy_25 := Lib.hid (Hy_24.out.below b25)
  have Hv4_25 := Lib.hid (Hv4_24.out.below b25)
  have Hzc_25 := Lib.hid (Hzc.out.below b25)
  have HB25 := Lib.hid b25
  have HD25 := Lib.hid (HD24.out.trans (b25.mono HD24.out.size))
  clear b25
  try clear Hs_23
  try clear Ht_23
  try clear Hx_23
  try clear Hy_23
  try clear Hv4
  obtain ⟨xo', xc', us1, e1, xn, xl, xcell, xe⟩ := words_us Hx_25.out
  cases e1
  obtain ⟨yo', yc', us2, e2, yn, yl, ycell, ye⟩ := words_us Hy_25.out
  cases e2
  have b0 : Below w25.heap.size w25 (w25.alloc (.cells #[] 22)) := (Below.refl _ _).alloc (Nat.le_refl _) _
  have hs1 := cells_below xcell b0
  have hs2 := fun w' (hb : Below w25.heap.size w25 w') => cells_below ycell hb
  have hm0 : (w25.alloc (.cells #[] 22)).ownsRow w25.heap.size 22 1 (.slice (some ⟨w25.heap.size, 0, none⟩) 0 0) 0 [] := (made_words w25.heap.size w25 (Nat.le_refl _)).1
  have o1 := us_one xl xe
  have o2 := us_one yl ye
  have HXE := Lib.hid xe
  have HYE := Lib.hid ye
  have HS2 := Lib.hid hs2
  have HXL := Lib.hid xl
  have l1 : us1.length = (setW A).length * 1 := by omega
  have l2 : us2.length = (setW C).length * 1 := by omega
  clear xcell ycell xe ye hs2 xl yl
  go_wp2_with (first | (at_builtin; refine wpList_append_src rfl (.tmp 108) (.tmp 109) 29 rfl w25.heap.size 22 i1 (.slice none 0 0) 1 24 Try.underlying29 ki kz0 kz1 kz2 rfl (by decide) _ 0 [] rfl hm0 xo (setW A).length xc us1 rfl l1 xn hs1 o1 (by unfold maxLen; omega) (by omega) (by simp) ?_; intro u1 wa hown1 hg1; have ba : Below w25.heap.size w25 wa := b0.grown hg1 b0.size (fun j hj => (hm0.lt j hj).1); have hs2 := HS2.out wa ba; clear hm0 hs1 hg1) | (at_builtin; refine wpList_append_src rfl (.tmp 110) (.tmp 111) 29 rfl w25.heap.size 22 i1 (.slice none 0 0) 1 24 Try.underlying29 ki kz0 kz1 kz2 rfl (by decide) u1 (0 + (setW A).length) ([] ++ us1) rfl hown1 yo (setW C).length yc us2 rfl l2 yn hs2 o2 (by unfold maxLen; omega) (by omega) ba.size ?_; intro u2 wb hown2 hg2; have bb : Below w25.heap.size w25 wb := ba.grown hg2 ba.size (fun j hj => (hown1.lt j hj).1); clear hown1 hs2 hg2) | fail)
  rw [List.nil_append, Nat.zero_add] at hown2
  have hbm := both_m (L1 := setW A) (L2 := setW C) hown2 (by simp) HXL.out (fun i hi => let ⟨u, h, hw⟩ := HXE.out i hi; ⟨u, h, hw.below bb⟩) (fun i hi => let ⟨u, h, hw⟩ := HYE.out i hi; ⟨u, h, hw.below bb⟩)
  clear hown2 o1 o2
  have c := rof_any wb u2 _ hbm (by simp; omega)
  rw [setW_both] at c
  refine c.mono ?_
  rintro e w26 ⟨bo, rfl, hbo, b26⟩
  clear c hbm
  have bx := bb.trans (b26.mono bb.size)
  clear b26 bb ba b0
  have Hs_26 := Lib.hid (Hs_25.out.below bx)
  have Ht_26 := Lib.hid (Ht_25.out.below bx)
  have Hx_26 := Lib.hid (Hx_25.out.below bx)
  have Hy_26 := Lib.hid (Hy_25.out.below bx)
  have HB26 := Lib.hid bx
  have HD26 := Lib.hid (HD25.out.trans (bx.mono HD25.out.size))
  clear bx
  try clear Hs_24
  try clear Ht_24
  try clear Hx_24
  try clear Hy_24
  try clear Hv4_24
  try clear Hzc
  have Hbo := Lib.hid hbo
  clear hbo
  obtain ⟨oo, oc, rfl, _⟩ := id Hbo.out
  have c := take_s w w26 s t A C ms mt Ks Kt Hs_26.out Ht_26.out hst HMM.out (by omega) (by omega) HD26.out (Nat.le_trans HD1.out.size (Nat.le_refl _)) (Nat.le_trans HD2.out.size (Nat.le_refl _))
  go_wp2_with fail
  refine c.mono ?_
  rintro e w27 ⟨rfl, ⟨m3, K3, hs3⟩, ⟨m4, K4, ht3⟩, hkw, hd3⟩
  clear c
  have Hs := Lib.hid hs3
  have Ht := Lib.hid ht3
  have HD27 := Lib.hid hd3
  have Hbq := Lib.hid (hkw _ _ Hbo.out)
  have Hyq := Lib.hid (hkw _ _ Hy_26.out)
  clear hs3 ht3 hd3 hkw
  have c := all_x w27 s m3 K3 _ (setW (A ++ C)) Hs.out (setW_up _) (mem_setW _)
  go_wp2_with fail
  refine c.mono ?_
  rintro e w28 ⟨v5, rfl, _, hv5, b28⟩
  clear c
  have Hs_28 := Lib.hid (Hs.out.below b28)
  have Ht_28 := Lib.hid (Ht.out.below b28)
  have Hbo_28 := Lib.hid (Hbq.out.below b28)
  have Hy_28 := Lib.hid (Hyq.out.below b28)
  have HB28 := Lib.hid b28
  have HD28 := Lib.hid (HD27.out.trans (b28.mono HD27.out.size))
  clear b28
  try clear Hs_25
  try clear Ht_25
  try clear Hx_25
  try clear Hy_25
  have Hv5 := Lib.hid hv5
  clear hv5
  have c := alike_q w28 v5 (.slice oo (setW (A ++ C)).length oc) _ _ true Hv5.out Hbo_28.out (by omega) (by omega) (decide_eq_true rfl)
  go_wp2_with fail
  refine c.mono ?_
  rintro e w29 ⟨rfl, b29⟩
  clear c
  have Hs_29 := Lib.hid (Hs_28.out.below b29)
  have Ht_29 := Lib.hid (Ht_28.out.below b29)
  have Hbo_29 := Lib.hid (Hbo_28.out.below b29)
  have Hy_29 := Lib.hid (Hy_28.out.below b29)
  have Hv5_29 := Lib.hid (Hv5.out.below b29)
  have HB29 := Lib.hid b29
  have HD29 := Lib.hid (HD28.out.trans (b29.mono HD28.out.size))
  clear b29
  try clear Hs
  try clear Ht
  try clear Hbq
  try clear Hyq
  have c := all_x w29 t m4 K4 _ (setW (C)) Ht_29.out (setW_up _) (mem_setW _)
  go_wp2_with fail
  refine c.mono ?_
  rintro e w30 ⟨v6, rfl, _, hv6, b30⟩
  clear c
  have Hs_30 := Lib.hid (Hs_29.out.below b30)
  have Ht_30 := Lib.hid (Ht_29.out.below b30)
  have Hbo_30 := Lib.hid (Hbo_29.out.below b30)
  have Hy_30 := Lib.hid (Hy_29.out.below b30)
  have HB30 := Lib.hid b30
  have HD30 := Lib.hid (HD29.out.trans (b30.mono HD29.out.size))
  clear b30
  try clear Hs_28
  try clear Ht_28
  try clear Hbo_28
  try clear Hy_28
  try clear Hv5
  have Hv6 := Lib.hid hv6
  clear hv6
  have c := alike_q w30 v6 (.slice yo (setW C).length yc) _ _ true Hv6.out Hy_30.out (by omega) (by omega) (decide_eq_true rfl)
  go_wp2_with fail
  refine c.mono ?_
  rintro e w31 ⟨rfl, b31⟩
  clear c
  have Hs_31 := Lib.hid (Hs_30.out.below b31)
  have Ht_31 := Lib.hid (Ht_30.out.below b31)
  have Hbo_31 := Lib.hid (Hbo_30.out.below b31)
  have Hy_31 := Lib.hid (Hy_30.out.below b31)
  have Hv6_31 := Lib.hid (Hv6.out.below b31)
  have HB31 := Lib.hid b31
  have HD31 := Lib.hid (HD30.out.trans (b31.mono HD30.out.size))
  clear b31
  try clear Hs_29
  try clear Ht_29
  try clear Hbo_29
  try clear Hy_29
  go_wp2_with fail
  go_ret
  exact ⟨rfl, HD31.out⟩
set_option maxRecDepth 100000 in
set_option maxHeartbeats 2000000 in
theorem sets_tf (w : World) (aa ab ao : Option Addr) (ca cb cc : Nat) (A C : List (List Int)) (q : List Int) (k : Int) (ha : RowsAt w (.slice aa A.length ca) A) (hb : RowsAt w (.slice ab C.length cb) C) (hq : RowAt w (.slice ao q.length cc) q) (fa : FewP A) (fb : FewP C) (fq : q.length ≤ 20) (hk : In64 k) (hdq : decide (q ∈ setW A) = true) (hds : decide (setW A = setW C) = false) : Calls Try.prog 4 #[.slice aa A.length ca, .slice ab C.length cb, .slice ao q.length cc, .int .i64 k] w fun e w' => e = .returned (.bool true) ∧ Below w.heap.size w w' := by
  have HFQ : Hid (Fine q) := Lib.hid (by obtain ⟨_, _, _, _, _, _, hin, _⟩ := hq; exact ⟨hin, by omega⟩)
  have HA := Lib.hid ha
  have HC := Lib.hid hb
  have HQ := Lib.hid hq
  have HFA := Lib.hid fa
  have HFB := Lib.hid fb
  have HK := Lib.hid hk
  have HDQ := Lib.hid hdq
  have HDS := Lib.hid hds
  have la : A.length ≤ 20 := fa.1
  have lb : C.length ≤ 20 := fb.1
  have na : (setW A).length ≤ 20 := Nat.le_trans (setW_len _) la
  have nc : (setW C).length ≤ 20 := Nat.le_trans (setW_len _) lb
  have nb : (setW (A ++ C)).length ≤ 40 := Nat.le_trans (setW_len _) (by simp; omega)
  have nt : (setW (timesW A C k.toNat)).length ≤ 400 := Nat.le_trans (setW_len _) (by rw [timesW_len]; exact Nat.mul_le_mul la lb)
  have nm : (setW (meetW A C)).length ≤ 20 := Nat.le_trans (setW_len _) (Nat.le_trans (List.length_filter_le _ _) la)
  have nq : (setW (A ++ [q])).length ≤ 21 := Nat.le_trans (setW_len _) (by simp; omega)
  obtain ⟨i1, ki, kz0, kz1, kz2⟩ := info_parts info_ints
  clear ha hb hq fa fb hk hdq hds
  go_enter Try.func4, Try.ntmps4
  go_wp2_with fail
  refine (alive_any _).mono ?_
  rintro e w1 ⟨rfl, b1⟩
  have HD1 := Lib.hid b1
  clear b1
  have c := few_any w1 (.slice aa A.length ca) A (HA.out.below HD1.out)
  rw [decide_eq_true HFA.out] at c
  go_wp2_with fail
  refine c.mono ?_
  rintro e w2 ⟨rfl, rfl⟩
  clear c
  have c := few_any w1 (.slice ab C.length cb) C (HC.out.below HD1.out)
  rw [decide_eq_true HFB.out] at c
  go_wp2_with fail
  refine c.mono ?_
  rintro e w2 ⟨rfl, rfl⟩
  clear c
  have c := of_x w1 _ _ ((HA.out.below HD1.out).words HFA.out) (HA.out.fine HFA.out) (by omega)
  go_wp2_with fail
  refine c.mono ?_
  rintro e w2 ⟨s, ms, Ks, rfl, hs, sl, b2⟩
  clear c
  have HB2 := Lib.hid b2
  have HD2 := Lib.hid (HD1.out.trans (b2.mono HD1.out.size))
  clear b2
  have Hs := Lib.hid hs
  clear hs
  have sz := Hs.out.set.lt
  have c := of_x w2 _ _ ((HC.out.below HD2.out).words HFB.out) (HC.out.fine HFB.out) (by omega)
  go_wp2_with fail
  refine c.mono ?_
  rintro e w3 ⟨t, mt, Kt, rfl, ht, tl, b3⟩
  clear c
  have Hs_3 := Lib.hid (Hs.out.below b3)
  have HB3 := Lib.hid b3
  have HD3 := Lib.hid (HD2.out.trans (b3.mono HD2.out.size))
  clear b3
  have Ht := Lib.hid ht
  clear ht
  have hst : s ≠ t := by have := Ht.out.lo; omega
  have hmm : ∀ b, ms = some b → mt ≠ some b := fun b e1 e2 => by have h1 := Ht.out.mlo b e2; have h2 := SetIs.lt_map (e1 ▸ Hs.out.set); omega
  have HMM := Lib.hid hmm
  clear hmm
  have c := rof_any w3 _ _ ((rows_m HA.out HFA.out).below2 HD3.out) (by omega)
  go_wp2_with fail
  refine c.mono ?_
  rintro e w4 ⟨x, rfl, hx, b4⟩
  clear c
  have Hs_4 := Lib.hid (Hs_3.out.below b4)
  have Ht_4 := Lib.hid (Ht.out.below b4)
  have HB4 := Lib.hid b4
  have HD4 := Lib.hid (HD3.out.trans (b4.mono HD3.out.size))
  clear b4
  try clear Hs
  have Hx := Lib.hid hx
  clear hx
  obtain ⟨xo, xc, rfl, _⟩ := id Hx.out
  have c := rof_any w4 _ _ ((rows_m HC.out HFB.out).below2 HD4.out) (by omega)
  go_wp2_with fail
  refine c.mono ?_
  rintro e w5 ⟨y, rfl, hy, b5⟩
  clear c
  have Hs_5 := Lib.hid (Hs_4.out.below b5)
  have Ht_5 := Lib.hid (Ht_4.out.below b5)
  have Hx_5 := Lib.hid (Hx.out.below b5)
  have HB5 := Lib.hid b5
  have HD5 := Lib.hid (HD4.out.trans (b5.mono HD4.out.size))
  clear b5
  try clear Hs_3
  try clear Ht
  have Hy := Lib.hid hy
  clear hy
  obtain ⟨yo, yc, rfl, _⟩ := id Hy.out
  have c := all_x w5 s ms Ks _ (setW (A)) Hs_5.out (setW_up _) (mem_setW _)
  go_wp2_with fail
  refine c.mono ?_
  rintro e w6 ⟨v1, rfl, _, hv1, b6⟩
  clear c
  have Hs_6 := Lib.hid (Hs_5.out.below b6)
  have Ht_6 := Lib.hid (Ht_5.out.below b6)
  have Hx_6 := Lib.hid (Hx_5.out.below b6)
  have Hy_6 := Lib.hid (Hy.out.below b6)
  have HB6 := Lib.hid b6
  have HD6 := Lib.hid (HD5.out.trans (b6.mono HD5.out.size))
  clear b6
  try clear Hs_4
  try clear Ht_4
  try clear Hx
  have Hv1 := Lib.hid hv1
  clear hv1
  have c := alike_q w6 v1 (.slice xo (setW A).length xc) _ _ true Hv1.out Hx_6.out (by omega) (by omega) (decide_eq_true rfl)
  go_wp2_with fail
  refine c.mono ?_
  rintro e w7 ⟨rfl, b7⟩
  clear c
  have Hs_7 := Lib.hid (Hs_6.out.below b7)
  have Ht_7 := Lib.hid (Ht_6.out.below b7)
  have Hx_7 := Lib.hid (Hx_6.out.below b7)
  have Hy_7 := Lib.hid (Hy_6.out.below b7)
  have Hv1_7 := Lib.hid (Hv1.out.below b7)
  have HB7 := Lib.hid b7
  have HD7 := Lib.hid (HD6.out.trans (b7.mono HD6.out.size))
  clear b7
  try clear Hs_5
  try clear Ht_5
  try clear Hx_5
  try clear Hy
  have c := len_s w7 s _ ms Ks Hs_7.out
  go_wp2_with fail
  refine c.mono ?_
  rintro e w8 ⟨rfl, rfl⟩
  clear c
  have c := has_s w7 s _ ms Ks _ q Hs_7.out (HQ.out.below HD7.out).word HFQ.out
  rw [HDQ.out] at c
  go_wp2_with fail
  refine c.mono ?_
  rintro e w8 ⟨rfl, b8⟩
  clear c
  have Hs_8 := Lib.hid (Hs_7.out.below b8)
  have Ht_8 := Lib.hid (Ht_7.out.below b8)
  have Hx_8 := Lib.hid (Hx_7.out.below b8)
  have Hy_8 := Lib.hid (Hy_7.out.below b8)
  have HB8 := Lib.hid b8
  have HD8 := Lib.hid (HD7.out.trans (b8.mono HD7.out.size))
  clear b8
  try clear Hs_6
  try clear Ht_6
  try clear Hx_6
  try clear Hy_6
  try clear Hv1
  have c := rhas_q w8 (.slice xo (setW A).length xc) _ _ q _ Hx_8.out (HQ.out.below HD8.out).word (by omega) (by omega) HDQ.out
  go_wp2_with fail
  refine c.mono ?_
  rintro e w9 ⟨rfl, b9⟩
  clear c
  have Hs_9 := Lib.hid (Hs_8.out.below b9)
  have Ht_9 := Lib.hid (Ht_8.out.below b9)
  have Hx_9 := Lib.hid (Hx_8.out.below b9)
  have Hy_9 := Lib.hid (Hy_8.out.below b9)
  have HB9 := Lib.hid b9
  have HD9 := Lib.hid (HD8.out.trans (b9.mono HD8.out.size))
  clear b9
  try clear Hs_7
  try clear Ht_7
  try clear Hx_7
  try clear Hy_7
  have c := same_s w9 s t _ _ ms mt Ks Kt Hs_9.out Ht_9.out
  rw [HDS.out] at c
  go_wp2_with fail
  refine c.mono ?_
  rintro e w10 ⟨rfl, b10⟩
  clear c
  have Hs_10 := Lib.hid (Hs_9.out.below b10)
  have Ht_10 := Lib.hid (Ht_9.out.below b10)
  have Hx_10 := Lib.hid (Hx_9.out.below b10)
  have Hy_10 := Lib.hid (Hy_9.out.below b10)
  have HB10 := Lib.hid b10
  have HD10 := Lib.hid (HD9.out.trans (b10.mono HD9.out.size))
  clear b10
  try clear Hs_8
  try clear Ht_8
  try clear Hx_8
  try clear Hy_8
  have c := alike_q w10 (.slice xo (setW A).length xc) (.slice yo (setW C).length yc) _ _ false Hx_10.out.words Hy_10.out (by omega) (by omega) HDS.out
  go_wp2_with fail
  refine c.mono ?_
  rintro e w11 ⟨rfl, b11⟩
  clear c
  have Hs_11 := Lib.hid (Hs_10.out.below b11)
  have Ht_11 := Lib.hid (Ht_10.out.below b11)
  have Hx_11 := Lib.hid (Hx_10.out.below b11)
  have Hy_11 := Lib.hid (Hy_10.out.below b11)
  have HB11 := Lib.hid b11
  have HD11 := Lib.hid (HD10.out.trans (b11.mono HD10.out.size))
  clear b11
  try clear Hs_9
  try clear Ht_9
  try clear Hx_9
  try clear Hy_9
  have c := times_x w11 s t ms mt A C Ks Kt k Hs_11.out Ht_11.out (fine_len HFA.out.2 HFB.out.2 (by decide)) HK.out (Nat.le_trans (Nat.mul_le_mul sl tl) (Nat.le_trans (Nat.mul_le_mul la lb) (by decide)))
  go_wp2_with fail
  refine c.mono ?_
  rintro e w12 ⟨o, mo, Ko, rfl, ho, ol, b12⟩
  clear c
  have Hs_12 := Lib.hid (Hs_11.out.below b12)
  have Ht_12 := Lib.hid (Ht_11.out.below b12)
  have Hx_12 := Lib.hid (Hx_11.out.below b12)
  have Hy_12 := Lib.hid (Hy_11.out.below b12)
  have HB12 := Lib.hid b12
  have HD12 := Lib.hid (HD11.out.trans (b12.mono HD11.out.size))
  clear b12
  try clear Hs_10
  try clear Ht_10
  try clear Hx_10
  try clear Hy_10
  have Ho := Lib.hid ho
  clear ho
  have c := all_x w12 o mo Ko _ (setW (timesW A C k.toNat)) Ho.out (setW_up _) (mem_setW _)
  go_wp2_with fail
  refine c.mono ?_
  rintro e w13 ⟨v2, rfl, _, hv2, b13⟩
  clear c
  have Hs_13 := Lib.hid (Hs_12.out.below b13)
  have Ht_13 := Lib.hid (Ht_12.out.below b13)
  have Hx_13 := Lib.hid (Hx_12.out.below b13)
  have Hy_13 := Lib.hid (Hy_12.out.below b13)
  have Ho_13 := Lib.hid (Ho.out.below b13)
  have HB13 := Lib.hid b13
  have HD13 := Lib.hid (HD12.out.trans (b13.mono HD12.out.size))
  clear b13
  try clear Hs_11
  try clear Ht_11
  try clear Hx_11
  try clear Hy_11
  have Hv2 := Lib.hid hv2
  clear hv2
  have c := rtimes_any w13 (.slice xo (setW A).length xc) (.slice yo (setW C).length yc) _ _ k Hx_13.out Hy_13.out (by omega) (by omega) (set_words (fun x hx => Nat.le_trans (HFA.out.2 x hx) (by decide))) (set_words (fun x hx => Nat.le_trans (HFB.out.2 x hx) (by decide)))
  rw [setW_times] at c
  go_wp2_with fail
  refine c.mono ?_
  rintro e w14 ⟨z, rfl, hz, b14⟩
  clear c
  have Hs_14 := Lib.hid (Hs_13.out.below b14)
  have Ht_14 := Lib.hid (Ht_13.out.below b14)
  have Hx_14 := Lib.hid (Hx_13.out.below b14)
  have Hy_14 := Lib.hid (Hy_13.out.below b14)
  have Hv2_14 := Lib.hid (Hv2.out.below b14)
  have HB14 := Lib.hid b14
  have HD14 := Lib.hid (HD13.out.trans (b14.mono HD13.out.size))
  clear b14
  try clear Hs_12
  try clear Ht_12
  try clear Hx_12
  try clear Hy_12
  try clear Ho
  have Hz := Lib.hid hz
  clear hz
  have c := alike_q w14 v2 z _ _ true Hv2_14.out Hz.out (by omega) (by omega) (decide_eq_true rfl)
  go_wp2_with fail
  refine c.mono ?_
  rintro e w15 ⟨rfl, b15⟩
  clear c
  have Hs_15 := Lib.hid (Hs_14.out.below b15)
  have Ht_15 := Lib.hid (Ht_14.out.below b15)
  have Hx_15 := Lib.hid (Hx_14.out.below b15)
  have Hy_15 := Lib.hid (Hy_14.out.below b15)
  have Hv2_15 := Lib.hid (Hv2_14.out.below b15)
  have Hz_15 := Lib.hid (Hz.out.below b15)
  have HB15 := Lib.hid b15
  have HD15 := Lib.hid (HD14.out.trans (b15.mono HD14.out.size))
  clear b15
  try clear Hs_13
  try clear Ht_13
  try clear Hx_13
  try clear Hy_13
  try clear Hv2
  have c := meet_s w15 s t A C ms mt Ks Kt Hs_15.out Ht_15.out
  go_wp2_with fail
  refine c.mono ?_
  rintro e w16 ⟨m, mm, Km, rfl, hm, b16⟩
  clear c
  have Hs_16 := Lib.hid (Hs_15.out.below b16)
  have Ht_16 := Lib.hid (Ht_15.out.below b16)
  have Hx_16 := Lib.hid (Hx_15.out.below b16)
  have Hy_16 := Lib.hid (Hy_15.out.below b16)
  have HB16 := Lib.hid b16
  have HD16 := Lib.hid (HD15.out.trans (b16.mono HD15.out.size))
  clear b16
  try clear Hs_14
  try clear Ht_14
  try clear Hx_14
  try clear Hy_14
  try clear Hv2_14
  try clear Hz
  have Hm := Lib.hid hm
  clear hm
  have c := all_x w16 m mm Km _ (setW (meetW A C)) Hm.out (setW_up _) (mem_setW _)
  go_wp2_with fail
  refine c.mono ?_
  rintro e w17 ⟨v3, rfl, _, hv3, b17⟩
  clear c
  have Hs_17 := Lib.hid (Hs_16.out.below b17)
  have Ht_17 := Lib.hid (Ht_16.out.below b17)
  have Hx_17 := Lib.hid (Hx_16.out.below b17)
  have Hy_17 := Lib.hid (Hy_16.out.below b17)
  have Hm_17 := Lib.hid (Hm.out.below b17)
  have HB17 := Lib.hid b17
  have HD17 := Lib.hid (HD16.out.trans (b17.mono HD16.out.size))
  clear b17
  try clear Hs_15
  try clear Ht_15
  try clear Hx_15
  try clear Hy_15
  have Hv3 := Lib.hid hv3
  clear hv3
  have c := rmeet_any w17 (.slice xo (setW A).length xc) (.slice yo (setW C).length yc) _ _ Hx_17.out Hy_17.out (by omega) (by omega)
  rw [setW_meet] at c
  go_wp2_with fail
  refine c.mono ?_
  rintro e w18 ⟨z2, rfl, hz2, b18⟩
  clear c
  have Hs_18 := Lib.hid (Hs_17.out.below b18)
  have Ht_18 := Lib.hid (Ht_17.out.below b18)
  have Hx_18 := Lib.hid (Hx_17.out.below b18)
  have Hy_18 := Lib.hid (Hy_17.out.below b18)
  have Hv3_18 := Lib.hid (Hv3.out.below b18)
  have HB18 := Lib.hid b18
  have HD18 := Lib.hid (HD17.out.trans (b18.mono HD17.out.size))
  clear b18
  try clear Hs_16
  try clear Ht_16
  try clear Hx_16
  try clear Hy_16
  try clear Hm
  have Hzz := Lib.hid hz2
  clear hz2
  have c := alike_q w18 v3 z2 _ _ true Hv3_18.out Hzz.out (by omega) (by omega) (decide_eq_true rfl)
  go_wp2_with fail
  refine c.mono ?_
  rintro e w19 ⟨rfl, b19⟩
  clear c
  have Hs_19 := Lib.hid (Hs_18.out.below b19)
  have Ht_19 := Lib.hid (Ht_18.out.below b19)
  have Hx_19 := Lib.hid (Hx_18.out.below b19)
  have Hy_19 := Lib.hid (Hy_18.out.below b19)
  have Hv3_19 := Lib.hid (Hv3_18.out.below b19)
  have Hzz_19 := Lib.hid (Hzz.out.below b19)
  have HB19 := Lib.hid b19
  have HD19 := Lib.hid (HD18.out.trans (b19.mono HD18.out.size))
  clear b19
  try clear Hs_17
  try clear Ht_17
  try clear Hx_17
  try clear Hy_17
  try clear Hv3
  have c := of_x w19 _ _ ((HA.out.below HD19.out).words HFA.out) (HA.out.fine HFA.out) (by omega)
  go_wp2_with fail
  refine c.mono ?_
  rintro e w20 ⟨f, mf, Kf, rfl, hf, fl, b20⟩
  clear c
  have Hs_20 := Lib.hid (Hs_19.out.below b20)
  have Ht_20 := Lib.hid (Ht_19.out.below b20)
  have Hx_20 := Lib.hid (Hx_19.out.below b20)
  have Hy_20 := Lib.hid (Hy_19.out.below b20)
  have HB20 := Lib.hid b20
  have HD20 := Lib.hid (HD19.out.trans (b20.mono HD19.out.size))
  clear b20
  try clear Hs_18
  try clear Ht_18
  try clear Hx_18
  try clear Hy_18
  try clear Hv3_18
  try clear Hzz
  have Hf := Lib.hid hf
  clear hf
  have bnow : Below w19.heap.size w19 w20 := HB20.out
  have c := add_s w19 w20 f A mf Kf _ q Hf.out (HQ.out.below HD20.out).word HFQ.out (by omega) bnow (Nat.le_refl _)
  rw [HDQ.out] at c
  go_wp2_with fail
  refine c.mono ?_
  rintro e w21 ⟨rfl, ⟨m2, K2, hf2⟩, b21⟩
  clear c bnow
  have Hs_21 := Lib.hid (Hs_19.out.below b21)
  have Ht_21 := Lib.hid (Ht_19.out.below b21)
  have Hx_21 := Lib.hid (Hx_19.out.below b21)
  have Hy_21 := Lib.hid (Hy_19.out.below b21)
  have HD21 := Lib.hid (HD19.out.trans (b21.mono HD19.out.size))
  clear b21
  have Hf := Lib.hid hf2
  clear hf2
  have c := rhas_q w21 (.slice xo (setW A).length xc) _ _ q _ Hx_21.out (HQ.out.below HD21.out).word (by omega) (by omega) HDQ.out
  go_wp2_with fail
  refine c.mono ?_
  rintro e w22 ⟨rfl, b22⟩
  clear c
  have Hs_22 := Lib.hid (Hs_21.out.below b22)
  have Ht_22 := Lib.hid (Ht_21.out.below b22)
  have Hx_22 := Lib.hid (Hx_21.out.below b22)
  have Hy_22 := Lib.hid (Hy_21.out.below b22)
  have Hf_22 := Lib.hid (Hf.out.below b22)
  have HB22 := Lib.hid b22
  have HD22 := Lib.hid (HD21.out.trans (b22.mono HD21.out.size))
  clear b22
  try clear Hs_19
  try clear Ht_19
  try clear Hx_19
  try clear Hy_19
  have c := all_x w22 f m2 K2 _ (setW (A ++ [q])) Hf_22.out (setW_up _) (mem_setW _)
  go_wp2_with fail
  refine c.mono ?_
  rintro e w23 ⟨v4, rfl, _, hv4, b23⟩
  clear c
  have Hs_23 := Lib.hid (Hs_22.out.below b23)
  have Ht_23 := Lib.hid (Ht_22.out.below b23)
  have Hx_23 := Lib.hid (Hx_22.out.below b23)
  have Hy_23 := Lib.hid (Hy_22.out.below b23)
  have Hf_23 := Lib.hid (Hf_22.out.below b23)
  have HB23 := Lib.hid b23
  have HD23 := Lib.hid (HD22.out.trans (b23.mono HD22.out.size))
  clear b23
  try clear Hs_21
  try clear Ht_21
  try clear Hx_21
  try clear Hy_21
  try clear Hf
  have Hv4 := Lib.hid hv4
  clear hv4
  have c := radd_any w23 (.slice xo (setW A).length xc) _ _ q Hx_23.out ((HQ.out.below HD23.out).wordN (by omega)) (by omega) (setW_up _)
  rw [← setW_snoc] at c
  go_wp2_with fail
  refine c.mono ?_
  rintro e w24 ⟨z3, rfl, hz3, b24⟩
  clear c
  have Hs_24 := Lib.hid (Hs_23.out.below b24)
  have Ht_24 := Lib.hid (Ht_23.out.below b24)
  have Hx_24 := Lib.hid (Hx_23.out.below b24)
  have Hy_24 := Lib.hid (Hy_23.out.below b24)
  have Hv4_24 := Lib.hid (Hv4.out.below b24)
  have HB24 := Lib.hid b24
  have HD24 := Lib.hid (HD23.out.trans (b24.mono HD23.out.size))
  clear b24
  try clear Hs_22
  try clear Ht_22
  try clear Hx_22
  try clear Hy_22
  try clear Hf_22
  have Hzc := Lib.hid hz3
  clear hz3
  have c := alike_q w24 v4 z3 _ _ true Hv4_24.out Hzc.out (by omega) (by omega) (decide_eq_true rfl)
  go_wp2_with fail
  refine c.mono ?_
  rintro e w25 ⟨rfl, b25⟩
  clear c
  have Hs_25 := Lib.hid (Hs_24.out.below b25)
  have Ht_25 := Lib.hid (Ht_24.out.below b25)
  have Hx_25 := Lib.hid (Hx_24.out.below b25)
  have Hy_25 := Lib.hid (Hy_24.out.below b25)
  have Hv4_25 := Lib.hid (Hv4_24.out.below b25)
  have Hzc_25 := Lib.hid (Hzc.out.below b25)
  have HB25 := Lib.hid b25
  have HD25 := Lib.hid (HD24.out.trans (b25.mono HD24.out.size))
  clear b25
  try clear Hs_23
  try clear Ht_23
  try clear Hx_23
  try clear Hy_23
  try clear Hv4
  obtain ⟨xo', xc', us1, e1, xn, xl, xcell, xe⟩ := words_us Hx_25.out
  cases e1
  obtain ⟨yo', yc', us2, e2, yn, yl, ycell, ye⟩ := words_us Hy_25.out
  cases e2
  have b0 : Below w25.heap.size w25 (w25.alloc (.cells #[] 22)) := (Below.refl _ _).alloc (Nat.le_refl _) _
  have hs1 := cells_below xcell b0
  have hs2 := fun w' (hb : Below w25.heap.size w25 w') => cells_below ycell hb
  have hm0 : (w25.alloc (.cells #[] 22)).ownsRow w25.heap.size 22 1 (.slice (some ⟨w25.heap.size, 0, none⟩) 0 0) 0 [] := (made_words w25.heap.size w25 (Nat.le_refl _)).1
  have o1 := us_one xl xe
  have o2 := us_one yl ye
  have HXE := Lib.hid xe
  have HYE := Lib.hid ye
  have HS2 := Lib.hid hs2
  have HXL := Lib.hid xl
  have l1 : us1.length = (setW A).length * 1 := by omega
  have l2 : us2.length = (setW C).length * 1 := by omega
  clear xcell ycell xe ye hs2 xl yl
  go_wp2_with (first | (at_builtin; refine wpList_append_src rfl (.tmp 108) (.tmp 109) 29 rfl w25.heap.size 22 i1 (.slice none 0 0) 1 24 Try.underlying29 ki kz0 kz1 kz2 rfl (by decide) _ 0 [] rfl hm0 xo (setW A).length xc us1 rfl l1 xn hs1 o1 (by unfold maxLen; omega) (by omega) (by simp) ?_; intro u1 wa hown1 hg1; have ba : Below w25.heap.size w25 wa := b0.grown hg1 b0.size (fun j hj => (hm0.lt j hj).1); have hs2 := HS2.out wa ba; clear hm0 hs1 hg1) | (at_builtin; refine wpList_append_src rfl (.tmp 110) (.tmp 111) 29 rfl w25.heap.size 22 i1 (.slice none 0 0) 1 24 Try.underlying29 ki kz0 kz1 kz2 rfl (by decide) u1 (0 + (setW A).length) ([] ++ us1) rfl hown1 yo (setW C).length yc us2 rfl l2 yn hs2 o2 (by unfold maxLen; omega) (by omega) ba.size ?_; intro u2 wb hown2 hg2; have bb : Below w25.heap.size w25 wb := ba.grown hg2 ba.size (fun j hj => (hown1.lt j hj).1); clear hown1 hs2 hg2) | fail)
  rw [List.nil_append, Nat.zero_add] at hown2
  have hbm := both_m (L1 := setW A) (L2 := setW C) hown2 (by simp) HXL.out (fun i hi => let ⟨u, h, hw⟩ := HXE.out i hi; ⟨u, h, hw.below bb⟩) (fun i hi => let ⟨u, h, hw⟩ := HYE.out i hi; ⟨u, h, hw.below bb⟩)
  clear hown2 o1 o2
  have c := rof_any wb u2 _ hbm (by simp; omega)
  rw [setW_both] at c
  refine c.mono ?_
  rintro e w26 ⟨bo, rfl, hbo, b26⟩
  clear c hbm
  have bx := bb.trans (b26.mono bb.size)
  clear b26 bb ba b0
  have Hs_26 := Lib.hid (Hs_25.out.below bx)
  have Ht_26 := Lib.hid (Ht_25.out.below bx)
  have Hx_26 := Lib.hid (Hx_25.out.below bx)
  have Hy_26 := Lib.hid (Hy_25.out.below bx)
  have HB26 := Lib.hid bx
  have HD26 := Lib.hid (HD25.out.trans (bx.mono HD25.out.size))
  clear bx
  try clear Hs_24
  try clear Ht_24
  try clear Hx_24
  try clear Hy_24
  try clear Hv4_24
  try clear Hzc
  have Hbo := Lib.hid hbo
  clear hbo
  obtain ⟨oo, oc, rfl, _⟩ := id Hbo.out
  have c := take_s w w26 s t A C ms mt Ks Kt Hs_26.out Ht_26.out hst HMM.out (by omega) (by omega) HD26.out (Nat.le_trans HD1.out.size (Nat.le_refl _)) (Nat.le_trans HD2.out.size (Nat.le_refl _))
  go_wp2_with fail
  refine c.mono ?_
  rintro e w27 ⟨rfl, ⟨m3, K3, hs3⟩, ⟨m4, K4, ht3⟩, hkw, hd3⟩
  clear c
  have Hs := Lib.hid hs3
  have Ht := Lib.hid ht3
  have HD27 := Lib.hid hd3
  have Hbq := Lib.hid (hkw _ _ Hbo.out)
  have Hyq := Lib.hid (hkw _ _ Hy_26.out)
  clear hs3 ht3 hd3 hkw
  have c := all_x w27 s m3 K3 _ (setW (A ++ C)) Hs.out (setW_up _) (mem_setW _)
  go_wp2_with fail
  refine c.mono ?_
  rintro e w28 ⟨v5, rfl, _, hv5, b28⟩
  clear c
  have Hs_28 := Lib.hid (Hs.out.below b28)
  have Ht_28 := Lib.hid (Ht.out.below b28)
  have Hbo_28 := Lib.hid (Hbq.out.below b28)
  have Hy_28 := Lib.hid (Hyq.out.below b28)
  have HB28 := Lib.hid b28
  have HD28 := Lib.hid (HD27.out.trans (b28.mono HD27.out.size))
  clear b28
  try clear Hs_25
  try clear Ht_25
  try clear Hx_25
  try clear Hy_25
  have Hv5 := Lib.hid hv5
  clear hv5
  have c := alike_q w28 v5 (.slice oo (setW (A ++ C)).length oc) _ _ true Hv5.out Hbo_28.out (by omega) (by omega) (decide_eq_true rfl)
  go_wp2_with fail
  refine c.mono ?_
  rintro e w29 ⟨rfl, b29⟩
  clear c
  have Hs_29 := Lib.hid (Hs_28.out.below b29)
  have Ht_29 := Lib.hid (Ht_28.out.below b29)
  have Hbo_29 := Lib.hid (Hbo_28.out.below b29)
  have Hy_29 := Lib.hid (Hy_28.out.below b29)
  have Hv5_29 := Lib.hid (Hv5.out.below b29)
  have HB29 := Lib.hid b29
  have HD29 := Lib.hid (HD28.out.trans (b29.mono HD28.out.size))
  clear b29
  try clear Hs
  try clear Ht
  try clear Hbq
  try clear Hyq
  have c := all_x w29 t m4 K4 _ (setW (C)) Ht_29.out (setW_up _) (mem_setW _)
  go_wp2_with fail
  refine c.mono ?_
  rintro e w30 ⟨v6, rfl, _, hv6, b30⟩
  clear c
  have Hs_30 := Lib.hid (Hs_29.out.below b30)
  have Ht_30 := Lib.hid (Ht_29.out.below b30)
  have Hbo_30 := Lib.hid (Hbo_29.out.below b30)
  have Hy_30 := Lib.hid (Hy_29.out.below b30)
  have HB30 := Lib.hid b30
  have HD30 := Lib.hid (HD29.out.trans (b30.mono HD29.out.size))
  clear b30
  try clear Hs_28
  try clear Ht_28
  try clear Hbo_28
  try clear Hy_28
  try clear Hv5
  have Hv6 := Lib.hid hv6
  clear hv6
  have c := alike_q w30 v6 (.slice yo (setW C).length yc) _ _ true Hv6.out Hy_30.out (by omega) (by omega) (decide_eq_true rfl)
  go_wp2_with fail
  refine c.mono ?_
  rintro e w31 ⟨rfl, b31⟩
  clear c
  have Hs_31 := Lib.hid (Hs_30.out.below b31)
  have Ht_31 := Lib.hid (Ht_30.out.below b31)
  have Hbo_31 := Lib.hid (Hbo_30.out.below b31)
  have Hy_31 := Lib.hid (Hy_30.out.below b31)
  have Hv6_31 := Lib.hid (Hv6.out.below b31)
  have HB31 := Lib.hid b31
  have HD31 := Lib.hid (HD30.out.trans (b31.mono HD30.out.size))
  clear b31
  try clear Hs_29
  try clear Ht_29
  try clear Hbo_29
  try clear Hy_29
  go_wp2_with fail
  go_ret
  exact ⟨rfl, HD31.out⟩
set_option maxRecDepth 100000 in
set_option maxHeartbeats 2000000 in
theorem sets_ft (w : World) (aa ab ao : Option Addr) (ca cb cc : Nat) (A C : List (List Int)) (q : List Int) (k : Int) (ha : RowsAt w (.slice aa A.length ca) A) (hb : RowsAt w (.slice ab C.length cb) C) (hq : RowAt w (.slice ao q.length cc) q) (fa : FewP A) (fb : FewP C) (fq : q.length ≤ 20) (hk : In64 k) (hdq : decide (q ∈ setW A) = false) (hds : decide (setW A = setW C) = true) : Calls Try.prog 4 #[.slice aa A.length ca, .slice ab C.length cb, .slice ao q.length cc, .int .i64 k] w fun e w' => e = .returned (.bool true) ∧ Below w.heap.size w w' := by
  have HFQ : Hid (Fine q) := Lib.hid (by obtain ⟨_, _, _, _, _, _, hin, _⟩ := hq; exact ⟨hin, by omega⟩)
  have HA := Lib.hid ha
  have HC := Lib.hid hb
  have HQ := Lib.hid hq
  have HFA := Lib.hid fa
  have HFB := Lib.hid fb
  have HK := Lib.hid hk
  have HDQ := Lib.hid hdq
  have HDS := Lib.hid hds
  have la : A.length ≤ 20 := fa.1
  have lb : C.length ≤ 20 := fb.1
  have na : (setW A).length ≤ 20 := Nat.le_trans (setW_len _) la
  have nc : (setW C).length ≤ 20 := Nat.le_trans (setW_len _) lb
  have nb : (setW (A ++ C)).length ≤ 40 := Nat.le_trans (setW_len _) (by simp; omega)
  have nt : (setW (timesW A C k.toNat)).length ≤ 400 := Nat.le_trans (setW_len _) (by rw [timesW_len]; exact Nat.mul_le_mul la lb)
  have nm : (setW (meetW A C)).length ≤ 20 := Nat.le_trans (setW_len _) (Nat.le_trans (List.length_filter_le _ _) la)
  have nq : (setW (A ++ [q])).length ≤ 21 := Nat.le_trans (setW_len _) (by simp; omega)
  obtain ⟨i1, ki, kz0, kz1, kz2⟩ := info_parts info_ints
  clear ha hb hq fa fb hk hdq hds
  go_enter Try.func4, Try.ntmps4
  go_wp2_with fail
  refine (alive_any _).mono ?_
  rintro e w1 ⟨rfl, b1⟩
  have HD1 := Lib.hid b1
  clear b1
  have c := few_any w1 (.slice aa A.length ca) A (HA.out.below HD1.out)
  rw [decide_eq_true HFA.out] at c
  go_wp2_with fail
  refine c.mono ?_
  rintro e w2 ⟨rfl, rfl⟩
  clear c
  have c := few_any w1 (.slice ab C.length cb) C (HC.out.below HD1.out)
  rw [decide_eq_true HFB.out] at c
  go_wp2_with fail
  refine c.mono ?_
  rintro e w2 ⟨rfl, rfl⟩
  clear c
  have c := of_x w1 _ _ ((HA.out.below HD1.out).words HFA.out) (HA.out.fine HFA.out) (by omega)
  go_wp2_with fail
  refine c.mono ?_
  rintro e w2 ⟨s, ms, Ks, rfl, hs, sl, b2⟩
  clear c
  have HB2 := Lib.hid b2
  have HD2 := Lib.hid (HD1.out.trans (b2.mono HD1.out.size))
  clear b2
  have Hs := Lib.hid hs
  clear hs
  have sz := Hs.out.set.lt
  have c := of_x w2 _ _ ((HC.out.below HD2.out).words HFB.out) (HC.out.fine HFB.out) (by omega)
  go_wp2_with fail
  refine c.mono ?_
  rintro e w3 ⟨t, mt, Kt, rfl, ht, tl, b3⟩
  clear c
  have Hs_3 := Lib.hid (Hs.out.below b3)
  have HB3 := Lib.hid b3
  have HD3 := Lib.hid (HD2.out.trans (b3.mono HD2.out.size))
  clear b3
  have Ht := Lib.hid ht
  clear ht
  have hst : s ≠ t := by have := Ht.out.lo; omega
  have hmm : ∀ b, ms = some b → mt ≠ some b := fun b e1 e2 => by have h1 := Ht.out.mlo b e2; have h2 := SetIs.lt_map (e1 ▸ Hs.out.set); omega
  have HMM := Lib.hid hmm
  clear hmm
  have c := rof_any w3 _ _ ((rows_m HA.out HFA.out).below2 HD3.out) (by omega)
  go_wp2_with fail
  refine c.mono ?_
  rintro e w4 ⟨x, rfl, hx, b4⟩
  clear c
  have Hs_4 := Lib.hid (Hs_3.out.below b4)
  have Ht_4 := Lib.hid (Ht.out.below b4)
  have HB4 := Lib.hid b4
  have HD4 := Lib.hid (HD3.out.trans (b4.mono HD3.out.size))
  clear b4
  try clear Hs
  have Hx := Lib.hid hx
  clear hx
  obtain ⟨xo, xc, rfl, _⟩ := id Hx.out
  have c := rof_any w4 _ _ ((rows_m HC.out HFB.out).below2 HD4.out) (by omega)
  go_wp2_with fail
  refine c.mono ?_
  rintro e w5 ⟨y, rfl, hy, b5⟩
  clear c
  have Hs_5 := Lib.hid (Hs_4.out.below b5)
  have Ht_5 := Lib.hid (Ht_4.out.below b5)
  have Hx_5 := Lib.hid (Hx.out.below b5)
  have HB5 := Lib.hid b5
  have HD5 := Lib.hid (HD4.out.trans (b5.mono HD4.out.size))
  clear b5
  try clear Hs_3
  try clear Ht
  have Hy := Lib.hid hy
  clear hy
  obtain ⟨yo, yc, rfl, _⟩ := id Hy.out
  have c := all_x w5 s ms Ks _ (setW (A)) Hs_5.out (setW_up _) (mem_setW _)
  go_wp2_with fail
  refine c.mono ?_
  rintro e w6 ⟨v1, rfl, _, hv1, b6⟩
  clear c
  have Hs_6 := Lib.hid (Hs_5.out.below b6)
  have Ht_6 := Lib.hid (Ht_5.out.below b6)
  have Hx_6 := Lib.hid (Hx_5.out.below b6)
  have Hy_6 := Lib.hid (Hy.out.below b6)
  have HB6 := Lib.hid b6
  have HD6 := Lib.hid (HD5.out.trans (b6.mono HD5.out.size))
  clear b6
  try clear Hs_4
  try clear Ht_4
  try clear Hx
  have Hv1 := Lib.hid hv1
  clear hv1
  have c := alike_q w6 v1 (.slice xo (setW A).length xc) _ _ true Hv1.out Hx_6.out (by omega) (by omega) (decide_eq_true rfl)
  go_wp2_with fail
  refine c.mono ?_
  rintro e w7 ⟨rfl, b7⟩
  clear c
  have Hs_7 := Lib.hid (Hs_6.out.below b7)
  have Ht_7 := Lib.hid (Ht_6.out.below b7)
  have Hx_7 := Lib.hid (Hx_6.out.below b7)
  have Hy_7 := Lib.hid (Hy_6.out.below b7)
  have Hv1_7 := Lib.hid (Hv1.out.below b7)
  have HB7 := Lib.hid b7
  have HD7 := Lib.hid (HD6.out.trans (b7.mono HD6.out.size))
  clear b7
  try clear Hs_5
  try clear Ht_5
  try clear Hx_5
  try clear Hy
  have c := len_s w7 s _ ms Ks Hs_7.out
  go_wp2_with fail
  refine c.mono ?_
  rintro e w8 ⟨rfl, rfl⟩
  clear c
  have c := has_s w7 s _ ms Ks _ q Hs_7.out (HQ.out.below HD7.out).word HFQ.out
  rw [HDQ.out] at c
  go_wp2_with fail
  refine c.mono ?_
  rintro e w8 ⟨rfl, b8⟩
  clear c
  have Hs_8 := Lib.hid (Hs_7.out.below b8)
  have Ht_8 := Lib.hid (Ht_7.out.below b8)
  have Hx_8 := Lib.hid (Hx_7.out.below b8)
  have Hy_8 := Lib.hid (Hy_7.out.below b8)
  have HB8 := Lib.hid b8
  have HD8 := Lib.hid (HD7.out.trans (b8.mono HD7.out.size))
  clear b8
  try clear Hs_6
  try clear Ht_6
  try clear Hx_6
  try clear Hy_6
  try clear Hv1
  have c := rhas_q w8 (.slice xo (setW A).length xc) _ _ q _ Hx_8.out (HQ.out.below HD8.out).word (by omega) (by omega) HDQ.out
  go_wp2_with fail
  refine c.mono ?_
  rintro e w9 ⟨rfl, b9⟩
  clear c
  have Hs_9 := Lib.hid (Hs_8.out.below b9)
  have Ht_9 := Lib.hid (Ht_8.out.below b9)
  have Hx_9 := Lib.hid (Hx_8.out.below b9)
  have Hy_9 := Lib.hid (Hy_8.out.below b9)
  have HB9 := Lib.hid b9
  have HD9 := Lib.hid (HD8.out.trans (b9.mono HD8.out.size))
  clear b9
  try clear Hs_7
  try clear Ht_7
  try clear Hx_7
  try clear Hy_7
  have c := same_s w9 s t _ _ ms mt Ks Kt Hs_9.out Ht_9.out
  rw [HDS.out] at c
  go_wp2_with fail
  refine c.mono ?_
  rintro e w10 ⟨rfl, b10⟩
  clear c
  have Hs_10 := Lib.hid (Hs_9.out.below b10)
  have Ht_10 := Lib.hid (Ht_9.out.below b10)
  have Hx_10 := Lib.hid (Hx_9.out.below b10)
  have Hy_10 := Lib.hid (Hy_9.out.below b10)
  have HB10 := Lib.hid b10
  have HD10 := Lib.hid (HD9.out.trans (b10.mono HD9.out.size))
  clear b10
  try clear Hs_8
  try clear Ht_8
  try clear Hx_8
  try clear Hy_8
  have c := alike_q w10 (.slice xo (setW A).length xc) (.slice yo (setW C).length yc) _ _ true Hx_10.out.words Hy_10.out (by omega) (by omega) HDS.out
  go_wp2_with fail
  refine c.mono ?_
  rintro e w11 ⟨rfl, b11⟩
  clear c
  have Hs_11 := Lib.hid (Hs_10.out.below b11)
  have Ht_11 := Lib.hid (Ht_10.out.below b11)
  have Hx_11 := Lib.hid (Hx_10.out.below b11)
  have Hy_11 := Lib.hid (Hy_10.out.below b11)
  have HB11 := Lib.hid b11
  have HD11 := Lib.hid (HD10.out.trans (b11.mono HD10.out.size))
  clear b11
  try clear Hs_9
  try clear Ht_9
  try clear Hx_9
  try clear Hy_9
  have c := times_x w11 s t ms mt A C Ks Kt k Hs_11.out Ht_11.out (fine_len HFA.out.2 HFB.out.2 (by decide)) HK.out (Nat.le_trans (Nat.mul_le_mul sl tl) (Nat.le_trans (Nat.mul_le_mul la lb) (by decide)))
  go_wp2_with fail
  refine c.mono ?_
  rintro e w12 ⟨o, mo, Ko, rfl, ho, ol, b12⟩
  clear c
  have Hs_12 := Lib.hid (Hs_11.out.below b12)
  have Ht_12 := Lib.hid (Ht_11.out.below b12)
  have Hx_12 := Lib.hid (Hx_11.out.below b12)
  have Hy_12 := Lib.hid (Hy_11.out.below b12)
  have HB12 := Lib.hid b12
  have HD12 := Lib.hid (HD11.out.trans (b12.mono HD11.out.size))
  clear b12
  try clear Hs_10
  try clear Ht_10
  try clear Hx_10
  try clear Hy_10
  have Ho := Lib.hid ho
  clear ho
  have c := all_x w12 o mo Ko _ (setW (timesW A C k.toNat)) Ho.out (setW_up _) (mem_setW _)
  go_wp2_with fail
  refine c.mono ?_
  rintro e w13 ⟨v2, rfl, _, hv2, b13⟩
  clear c
  have Hs_13 := Lib.hid (Hs_12.out.below b13)
  have Ht_13 := Lib.hid (Ht_12.out.below b13)
  have Hx_13 := Lib.hid (Hx_12.out.below b13)
  have Hy_13 := Lib.hid (Hy_12.out.below b13)
  have Ho_13 := Lib.hid (Ho.out.below b13)
  have HB13 := Lib.hid b13
  have HD13 := Lib.hid (HD12.out.trans (b13.mono HD12.out.size))
  clear b13
  try clear Hs_11
  try clear Ht_11
  try clear Hx_11
  try clear Hy_11
  have Hv2 := Lib.hid hv2
  clear hv2
  have c := rtimes_any w13 (.slice xo (setW A).length xc) (.slice yo (setW C).length yc) _ _ k Hx_13.out Hy_13.out (by omega) (by omega) (set_words (fun x hx => Nat.le_trans (HFA.out.2 x hx) (by decide))) (set_words (fun x hx => Nat.le_trans (HFB.out.2 x hx) (by decide)))
  rw [setW_times] at c
  go_wp2_with fail
  refine c.mono ?_
  rintro e w14 ⟨z, rfl, hz, b14⟩
  clear c
  have Hs_14 := Lib.hid (Hs_13.out.below b14)
  have Ht_14 := Lib.hid (Ht_13.out.below b14)
  have Hx_14 := Lib.hid (Hx_13.out.below b14)
  have Hy_14 := Lib.hid (Hy_13.out.below b14)
  have Hv2_14 := Lib.hid (Hv2.out.below b14)
  have HB14 := Lib.hid b14
  have HD14 := Lib.hid (HD13.out.trans (b14.mono HD13.out.size))
  clear b14
  try clear Hs_12
  try clear Ht_12
  try clear Hx_12
  try clear Hy_12
  try clear Ho
  have Hz := Lib.hid hz
  clear hz
  have c := alike_q w14 v2 z _ _ true Hv2_14.out Hz.out (by omega) (by omega) (decide_eq_true rfl)
  go_wp2_with fail
  refine c.mono ?_
  rintro e w15 ⟨rfl, b15⟩
  clear c
  have Hs_15 := Lib.hid (Hs_14.out.below b15)
  have Ht_15 := Lib.hid (Ht_14.out.below b15)
  have Hx_15 := Lib.hid (Hx_14.out.below b15)
  have Hy_15 := Lib.hid (Hy_14.out.below b15)
  have Hv2_15 := Lib.hid (Hv2_14.out.below b15)
  have Hz_15 := Lib.hid (Hz.out.below b15)
  have HB15 := Lib.hid b15
  have HD15 := Lib.hid (HD14.out.trans (b15.mono HD14.out.size))
  clear b15
  try clear Hs_13
  try clear Ht_13
  try clear Hx_13
  try clear Hy_13
  try clear Hv2
  have c := meet_s w15 s t A C ms mt Ks Kt Hs_15.out Ht_15.out
  go_wp2_with fail
  refine c.mono ?_
  rintro e w16 ⟨m, mm, Km, rfl, hm, b16⟩
  clear c
  have Hs_16 := Lib.hid (Hs_15.out.below b16)
  have Ht_16 := Lib.hid (Ht_15.out.below b16)
  have Hx_16 := Lib.hid (Hx_15.out.below b16)
  have Hy_16 := Lib.hid (Hy_15.out.below b16)
  have HB16 := Lib.hid b16
  have HD16 := Lib.hid (HD15.out.trans (b16.mono HD15.out.size))
  clear b16
  try clear Hs_14
  try clear Ht_14
  try clear Hx_14
  try clear Hy_14
  try clear Hv2_14
  try clear Hz
  have Hm := Lib.hid hm
  clear hm
  have c := all_x w16 m mm Km _ (setW (meetW A C)) Hm.out (setW_up _) (mem_setW _)
  go_wp2_with fail
  refine c.mono ?_
  rintro e w17 ⟨v3, rfl, _, hv3, b17⟩
  clear c
  have Hs_17 := Lib.hid (Hs_16.out.below b17)
  have Ht_17 := Lib.hid (Ht_16.out.below b17)
  have Hx_17 := Lib.hid (Hx_16.out.below b17)
  have Hy_17 := Lib.hid (Hy_16.out.below b17)
  have Hm_17 := Lib.hid (Hm.out.below b17)
  have HB17 := Lib.hid b17
  have HD17 := Lib.hid (HD16.out.trans (b17.mono HD16.out.size))
  clear b17
  try clear Hs_15
  try clear Ht_15
  try clear Hx_15
  try clear Hy_15
  have Hv3 := Lib.hid hv3
  clear hv3
  have c := rmeet_any w17 (.slice xo (setW A).length xc) (.slice yo (setW C).length yc) _ _ Hx_17.out Hy_17.out (by omega) (by omega)
  rw [setW_meet] at c
  go_wp2_with fail
  refine c.mono ?_
  rintro e w18 ⟨z2, rfl, hz2, b18⟩
  clear c
  have Hs_18 := Lib.hid (Hs_17.out.below b18)
  have Ht_18 := Lib.hid (Ht_17.out.below b18)
  have Hx_18 := Lib.hid (Hx_17.out.below b18)
  have Hy_18 := Lib.hid (Hy_17.out.below b18)
  have Hv3_18 := Lib.hid (Hv3.out.below b18)
  have HB18 := Lib.hid b18
  have HD18 := Lib.hid (HD17.out.trans (b18.mono HD17.out.size))
  clear b18
  try clear Hs_16
  try clear Ht_16
  try clear Hx_16
  try clear Hy_16
  try clear Hm
  have Hzz := Lib.hid hz2
  clear hz2
  have c := alike_q w18 v3 z2 _ _ true Hv3_18.out Hzz.out (by omega) (by omega) (decide_eq_true rfl)
  go_wp2_with fail
  refine c.mono ?_
  rintro e w19 ⟨rfl, b19⟩
  clear c
  have Hs_19 := Lib.hid (Hs_18.out.below b19)
  have Ht_19 := Lib.hid (Ht_18.out.below b19)
  have Hx_19 := Lib.hid (Hx_18.out.below b19)
  have Hy_19 := Lib.hid (Hy_18.out.below b19)
  have Hv3_19 := Lib.hid (Hv3_18.out.below b19)
  have Hzz_19 := Lib.hid (Hzz.out.below b19)
  have HB19 := Lib.hid b19
  have HD19 := Lib.hid (HD18.out.trans (b19.mono HD18.out.size))
  clear b19
  try clear Hs_17
  try clear Ht_17
  try clear Hx_17
  try clear Hy_17
  try clear Hv3
  have c := of_x w19 _ _ ((HA.out.below HD19.out).words HFA.out) (HA.out.fine HFA.out) (by omega)
  go_wp2_with fail
  refine c.mono ?_
  rintro e w20 ⟨f, mf, Kf, rfl, hf, fl, b20⟩
  clear c
  have Hs_20 := Lib.hid (Hs_19.out.below b20)
  have Ht_20 := Lib.hid (Ht_19.out.below b20)
  have Hx_20 := Lib.hid (Hx_19.out.below b20)
  have Hy_20 := Lib.hid (Hy_19.out.below b20)
  have HB20 := Lib.hid b20
  have HD20 := Lib.hid (HD19.out.trans (b20.mono HD19.out.size))
  clear b20
  try clear Hs_18
  try clear Ht_18
  try clear Hx_18
  try clear Hy_18
  try clear Hv3_18
  try clear Hzz
  have Hf := Lib.hid hf
  clear hf
  have bnow : Below w19.heap.size w19 w20 := HB20.out
  have c := add_s w19 w20 f A mf Kf _ q Hf.out (HQ.out.below HD20.out).word HFQ.out (by omega) bnow (Nat.le_refl _)
  rw [HDQ.out] at c
  go_wp2_with fail
  refine c.mono ?_
  rintro e w21 ⟨rfl, ⟨m2, K2, hf2⟩, b21⟩
  clear c bnow
  have Hs_21 := Lib.hid (Hs_19.out.below b21)
  have Ht_21 := Lib.hid (Ht_19.out.below b21)
  have Hx_21 := Lib.hid (Hx_19.out.below b21)
  have Hy_21 := Lib.hid (Hy_19.out.below b21)
  have HD21 := Lib.hid (HD19.out.trans (b21.mono HD19.out.size))
  clear b21
  have Hf := Lib.hid hf2
  clear hf2
  have c := rhas_q w21 (.slice xo (setW A).length xc) _ _ q _ Hx_21.out (HQ.out.below HD21.out).word (by omega) (by omega) HDQ.out
  go_wp2_with fail
  refine c.mono ?_
  rintro e w22 ⟨rfl, b22⟩
  clear c
  have Hs_22 := Lib.hid (Hs_21.out.below b22)
  have Ht_22 := Lib.hid (Ht_21.out.below b22)
  have Hx_22 := Lib.hid (Hx_21.out.below b22)
  have Hy_22 := Lib.hid (Hy_21.out.below b22)
  have Hf_22 := Lib.hid (Hf.out.below b22)
  have HB22 := Lib.hid b22
  have HD22 := Lib.hid (HD21.out.trans (b22.mono HD21.out.size))
  clear b22
  try clear Hs_19
  try clear Ht_19
  try clear Hx_19
  try clear Hy_19
  have c := all_x w22 f m2 K2 _ (setW (A ++ [q])) Hf_22.out (setW_up _) (mem_setW _)
  go_wp2_with fail
  refine c.mono ?_
  rintro e w23 ⟨v4, rfl, _, hv4, b23⟩
  clear c
  have Hs_23 := Lib.hid (Hs_22.out.below b23)
  have Ht_23 := Lib.hid (Ht_22.out.below b23)
  have Hx_23 := Lib.hid (Hx_22.out.below b23)
  have Hy_23 := Lib.hid (Hy_22.out.below b23)
  have Hf_23 := Lib.hid (Hf_22.out.below b23)
  have HB23 := Lib.hid b23
  have HD23 := Lib.hid (HD22.out.trans (b23.mono HD22.out.size))
  clear b23
  try clear Hs_21
  try clear Ht_21
  try clear Hx_21
  try clear Hy_21
  try clear Hf
  have Hv4 := Lib.hid hv4
  clear hv4
  have c := radd_any w23 (.slice xo (setW A).length xc) _ _ q Hx_23.out ((HQ.out.below HD23.out).wordN (by omega)) (by omega) (setW_up _)
  rw [← setW_snoc] at c
  go_wp2_with fail
  refine c.mono ?_
  rintro e w24 ⟨z3, rfl, hz3, b24⟩
  clear c
  have Hs_24 := Lib.hid (Hs_23.out.below b24)
  have Ht_24 := Lib.hid (Ht_23.out.below b24)
  have Hx_24 := Lib.hid (Hx_23.out.below b24)
  have Hy_24 := Lib.hid (Hy_23.out.below b24)
  have Hv4_24 := Lib.hid (Hv4.out.below b24)
  have HB24 := Lib.hid b24
  have HD24 := Lib.hid (HD23.out.trans (b24.mono HD23.out.size))
  clear b24
  try clear Hs_22
  try clear Ht_22
  try clear Hx_22
  try clear Hy_22
  try clear Hf_22
  have Hzc := Lib.hid hz3
  clear hz3
  have c := alike_q w24 v4 z3 _ _ true Hv4_24.out Hzc.out (by omega) (by omega) (decide_eq_true rfl)
  go_wp2_with fail
  refine c.mono ?_
  rintro e w25 ⟨rfl, b25⟩
  clear c
  have Hs_25 := Lib.hid (Hs_24.out.below b25)
  have Ht_25 := Lib.hid (Ht_24.out.below b25)
  have Hx_25 := Lib.hid (Hx_24.out.below b25)
  have Hy_25 := Lib.hid (Hy_24.out.below b25)
  have Hv4_25 := Lib.hid (Hv4_24.out.below b25)
  have Hzc_25 := Lib.hid (Hzc.out.below b25)
  have HB25 := Lib.hid b25
  have HD25 := Lib.hid (HD24.out.trans (b25.mono HD24.out.size))
  clear b25
  try clear Hs_23
  try clear Ht_23
  try clear Hx_23
  try clear Hy_23
  try clear Hv4
  obtain ⟨xo', xc', us1, e1, xn, xl, xcell, xe⟩ := words_us Hx_25.out
  cases e1
  obtain ⟨yo', yc', us2, e2, yn, yl, ycell, ye⟩ := words_us Hy_25.out
  cases e2
  have b0 : Below w25.heap.size w25 (w25.alloc (.cells #[] 22)) := (Below.refl _ _).alloc (Nat.le_refl _) _
  have hs1 := cells_below xcell b0
  have hs2 := fun w' (hb : Below w25.heap.size w25 w') => cells_below ycell hb
  have hm0 : (w25.alloc (.cells #[] 22)).ownsRow w25.heap.size 22 1 (.slice (some ⟨w25.heap.size, 0, none⟩) 0 0) 0 [] := (made_words w25.heap.size w25 (Nat.le_refl _)).1
  have o1 := us_one xl xe
  have o2 := us_one yl ye
  have HXE := Lib.hid xe
  have HYE := Lib.hid ye
  have HS2 := Lib.hid hs2
  have HXL := Lib.hid xl
  have l1 : us1.length = (setW A).length * 1 := by omega
  have l2 : us2.length = (setW C).length * 1 := by omega
  clear xcell ycell xe ye hs2 xl yl
  go_wp2_with (first | (at_builtin; refine wpList_append_src rfl (.tmp 108) (.tmp 109) 29 rfl w25.heap.size 22 i1 (.slice none 0 0) 1 24 Try.underlying29 ki kz0 kz1 kz2 rfl (by decide) _ 0 [] rfl hm0 xo (setW A).length xc us1 rfl l1 xn hs1 o1 (by unfold maxLen; omega) (by omega) (by simp) ?_; intro u1 wa hown1 hg1; have ba : Below w25.heap.size w25 wa := b0.grown hg1 b0.size (fun j hj => (hm0.lt j hj).1); have hs2 := HS2.out wa ba; clear hm0 hs1 hg1) | (at_builtin; refine wpList_append_src rfl (.tmp 110) (.tmp 111) 29 rfl w25.heap.size 22 i1 (.slice none 0 0) 1 24 Try.underlying29 ki kz0 kz1 kz2 rfl (by decide) u1 (0 + (setW A).length) ([] ++ us1) rfl hown1 yo (setW C).length yc us2 rfl l2 yn hs2 o2 (by unfold maxLen; omega) (by omega) ba.size ?_; intro u2 wb hown2 hg2; have bb : Below w25.heap.size w25 wb := ba.grown hg2 ba.size (fun j hj => (hown1.lt j hj).1); clear hown1 hs2 hg2) | fail)
  rw [List.nil_append, Nat.zero_add] at hown2
  have hbm := both_m (L1 := setW A) (L2 := setW C) hown2 (by simp) HXL.out (fun i hi => let ⟨u, h, hw⟩ := HXE.out i hi; ⟨u, h, hw.below bb⟩) (fun i hi => let ⟨u, h, hw⟩ := HYE.out i hi; ⟨u, h, hw.below bb⟩)
  clear hown2 o1 o2
  have c := rof_any wb u2 _ hbm (by simp; omega)
  rw [setW_both] at c
  refine c.mono ?_
  rintro e w26 ⟨bo, rfl, hbo, b26⟩
  clear c hbm
  have bx := bb.trans (b26.mono bb.size)
  clear b26 bb ba b0
  have Hs_26 := Lib.hid (Hs_25.out.below bx)
  have Ht_26 := Lib.hid (Ht_25.out.below bx)
  have Hx_26 := Lib.hid (Hx_25.out.below bx)
  have Hy_26 := Lib.hid (Hy_25.out.below bx)
  have HB26 := Lib.hid bx
  have HD26 := Lib.hid (HD25.out.trans (bx.mono HD25.out.size))
  clear bx
  try clear Hs_24
  try clear Ht_24
  try clear Hx_24
  try clear Hy_24
  try clear Hv4_24
  try clear Hzc
  have Hbo := Lib.hid hbo
  clear hbo
  obtain ⟨oo, oc, rfl, _⟩ := id Hbo.out
  have c := take_s w w26 s t A C ms mt Ks Kt Hs_26.out Ht_26.out hst HMM.out (by omega) (by omega) HD26.out (Nat.le_trans HD1.out.size (Nat.le_refl _)) (Nat.le_trans HD2.out.size (Nat.le_refl _))
  go_wp2_with fail
  refine c.mono ?_
  rintro e w27 ⟨rfl, ⟨m3, K3, hs3⟩, ⟨m4, K4, ht3⟩, hkw, hd3⟩
  clear c
  have Hs := Lib.hid hs3
  have Ht := Lib.hid ht3
  have HD27 := Lib.hid hd3
  have Hbq := Lib.hid (hkw _ _ Hbo.out)
  have Hyq := Lib.hid (hkw _ _ Hy_26.out)
  clear hs3 ht3 hd3 hkw
  have c := all_x w27 s m3 K3 _ (setW (A ++ C)) Hs.out (setW_up _) (mem_setW _)
  go_wp2_with fail
  refine c.mono ?_
  rintro e w28 ⟨v5, rfl, _, hv5, b28⟩
  clear c
  have Hs_28 := Lib.hid (Hs.out.below b28)
  have Ht_28 := Lib.hid (Ht.out.below b28)
  have Hbo_28 := Lib.hid (Hbq.out.below b28)
  have Hy_28 := Lib.hid (Hyq.out.below b28)
  have HB28 := Lib.hid b28
  have HD28 := Lib.hid (HD27.out.trans (b28.mono HD27.out.size))
  clear b28
  try clear Hs_25
  try clear Ht_25
  try clear Hx_25
  try clear Hy_25
  have Hv5 := Lib.hid hv5
  clear hv5
  have c := alike_q w28 v5 (.slice oo (setW (A ++ C)).length oc) _ _ true Hv5.out Hbo_28.out (by omega) (by omega) (decide_eq_true rfl)
  go_wp2_with fail
  refine c.mono ?_
  rintro e w29 ⟨rfl, b29⟩
  clear c
  have Hs_29 := Lib.hid (Hs_28.out.below b29)
  have Ht_29 := Lib.hid (Ht_28.out.below b29)
  have Hbo_29 := Lib.hid (Hbo_28.out.below b29)
  have Hy_29 := Lib.hid (Hy_28.out.below b29)
  have Hv5_29 := Lib.hid (Hv5.out.below b29)
  have HB29 := Lib.hid b29
  have HD29 := Lib.hid (HD28.out.trans (b29.mono HD28.out.size))
  clear b29
  try clear Hs
  try clear Ht
  try clear Hbq
  try clear Hyq
  have c := all_x w29 t m4 K4 _ (setW (C)) Ht_29.out (setW_up _) (mem_setW _)
  go_wp2_with fail
  refine c.mono ?_
  rintro e w30 ⟨v6, rfl, _, hv6, b30⟩
  clear c
  have Hs_30 := Lib.hid (Hs_29.out.below b30)
  have Ht_30 := Lib.hid (Ht_29.out.below b30)
  have Hbo_30 := Lib.hid (Hbo_29.out.below b30)
  have Hy_30 := Lib.hid (Hy_29.out.below b30)
  have HB30 := Lib.hid b30
  have HD30 := Lib.hid (HD29.out.trans (b30.mono HD29.out.size))
  clear b30
  try clear Hs_28
  try clear Ht_28
  try clear Hbo_28
  try clear Hy_28
  try clear Hv5
  have Hv6 := Lib.hid hv6
  clear hv6
  have c := alike_q w30 v6 (.slice yo (setW C).length yc) _ _ true Hv6.out Hy_30.out (by omega) (by omega) (decide_eq_true rfl)
  go_wp2_with fail
  refine c.mono ?_
  rintro e w31 ⟨rfl, b31⟩
  clear c
  have Hs_31 := Lib.hid (Hs_30.out.below b31)
  have Ht_31 := Lib.hid (Ht_30.out.below b31)
  have Hbo_31 := Lib.hid (Hbo_30.out.below b31)
  have Hy_31 := Lib.hid (Hy_30.out.below b31)
  have Hv6_31 := Lib.hid (Hv6.out.below b31)
  have HB31 := Lib.hid b31
  have HD31 := Lib.hid (HD30.out.trans (b31.mono HD30.out.size))
  clear b31
  try clear Hs_29
  try clear Ht_29
  try clear Hbo_29
  try clear Hy_29
  go_wp2_with fail
  go_ret
  exact ⟨rfl, HD31.out⟩
set_option maxRecDepth 100000 in
set_option maxHeartbeats 2000000 in
theorem sets_ff (w : World) (aa ab ao : Option Addr) (ca cb cc : Nat) (A C : List (List Int)) (q : List Int) (k : Int) (ha : RowsAt w (.slice aa A.length ca) A) (hb : RowsAt w (.slice ab C.length cb) C) (hq : RowAt w (.slice ao q.length cc) q) (fa : FewP A) (fb : FewP C) (fq : q.length ≤ 20) (hk : In64 k) (hdq : decide (q ∈ setW A) = false) (hds : decide (setW A = setW C) = false) : Calls Try.prog 4 #[.slice aa A.length ca, .slice ab C.length cb, .slice ao q.length cc, .int .i64 k] w fun e w' => e = .returned (.bool true) ∧ Below w.heap.size w w' := by
  have HFQ : Hid (Fine q) := Lib.hid (by obtain ⟨_, _, _, _, _, _, hin, _⟩ := hq; exact ⟨hin, by omega⟩)
  have HA := Lib.hid ha
  have HC := Lib.hid hb
  have HQ := Lib.hid hq
  have HFA := Lib.hid fa
  have HFB := Lib.hid fb
  have HK := Lib.hid hk
  have HDQ := Lib.hid hdq
  have HDS := Lib.hid hds
  have la : A.length ≤ 20 := fa.1
  have lb : C.length ≤ 20 := fb.1
  have na : (setW A).length ≤ 20 := Nat.le_trans (setW_len _) la
  have nc : (setW C).length ≤ 20 := Nat.le_trans (setW_len _) lb
  have nb : (setW (A ++ C)).length ≤ 40 := Nat.le_trans (setW_len _) (by simp; omega)
  have nt : (setW (timesW A C k.toNat)).length ≤ 400 := Nat.le_trans (setW_len _) (by rw [timesW_len]; exact Nat.mul_le_mul la lb)
  have nm : (setW (meetW A C)).length ≤ 20 := Nat.le_trans (setW_len _) (Nat.le_trans (List.length_filter_le _ _) la)
  have nq : (setW (A ++ [q])).length ≤ 21 := Nat.le_trans (setW_len _) (by simp; omega)
  obtain ⟨i1, ki, kz0, kz1, kz2⟩ := info_parts info_ints
  clear ha hb hq fa fb hk hdq hds
  go_enter Try.func4, Try.ntmps4
  go_wp2_with fail
  refine (alive_any _).mono ?_
  rintro e w1 ⟨rfl, b1⟩
  have HD1 := Lib.hid b1
  clear b1
  have c := few_any w1 (.slice aa A.length ca) A (HA.out.below HD1.out)
  rw [decide_eq_true HFA.out] at c
  go_wp2_with fail
  refine c.mono ?_
  rintro e w2 ⟨rfl, rfl⟩
  clear c
  have c := few_any w1 (.slice ab C.length cb) C (HC.out.below HD1.out)
  rw [decide_eq_true HFB.out] at c
  go_wp2_with fail
  refine c.mono ?_
  rintro e w2 ⟨rfl, rfl⟩
  clear c
  have c := of_x w1 _ _ ((HA.out.below HD1.out).words HFA.out) (HA.out.fine HFA.out) (by omega)
  go_wp2_with fail
  refine c.mono ?_
  rintro e w2 ⟨s, ms, Ks, rfl, hs, sl, b2⟩
  clear c
  have HB2 := Lib.hid b2
  have HD2 := Lib.hid (HD1.out.trans (b2.mono HD1.out.size))
  clear b2
  have Hs := Lib.hid hs
  clear hs
  have sz := Hs.out.set.lt
  have c := of_x w2 _ _ ((HC.out.below HD2.out).words HFB.out) (HC.out.fine HFB.out) (by omega)
  go_wp2_with fail
  refine c.mono ?_
  rintro e w3 ⟨t, mt, Kt, rfl, ht, tl, b3⟩
  clear c
  have Hs_3 := Lib.hid (Hs.out.below b3)
  have HB3 := Lib.hid b3
  have HD3 := Lib.hid (HD2.out.trans (b3.mono HD2.out.size))
  clear b3
  have Ht := Lib.hid ht
  clear ht
  have hst : s ≠ t := by have := Ht.out.lo; omega
  have hmm : ∀ b, ms = some b → mt ≠ some b := fun b e1 e2 => by have h1 := Ht.out.mlo b e2; have h2 := SetIs.lt_map (e1 ▸ Hs.out.set); omega
  have HMM := Lib.hid hmm
  clear hmm
  have c := rof_any w3 _ _ ((rows_m HA.out HFA.out).below2 HD3.out) (by omega)
  go_wp2_with fail
  refine c.mono ?_
  rintro e w4 ⟨x, rfl, hx, b4⟩
  clear c
  have Hs_4 := Lib.hid (Hs_3.out.below b4)
  have Ht_4 := Lib.hid (Ht.out.below b4)
  have HB4 := Lib.hid b4
  have HD4 := Lib.hid (HD3.out.trans (b4.mono HD3.out.size))
  clear b4
  try clear Hs
  have Hx := Lib.hid hx
  clear hx
  obtain ⟨xo, xc, rfl, _⟩ := id Hx.out
  have c := rof_any w4 _ _ ((rows_m HC.out HFB.out).below2 HD4.out) (by omega)
  go_wp2_with fail
  refine c.mono ?_
  rintro e w5 ⟨y, rfl, hy, b5⟩
  clear c
  have Hs_5 := Lib.hid (Hs_4.out.below b5)
  have Ht_5 := Lib.hid (Ht_4.out.below b5)
  have Hx_5 := Lib.hid (Hx.out.below b5)
  have HB5 := Lib.hid b5
  have HD5 := Lib.hid (HD4.out.trans (b5.mono HD4.out.size))
  clear b5
  try clear Hs_3
  try clear Ht
  have Hy := Lib.hid hy
  clear hy
  obtain ⟨yo, yc, rfl, _⟩ := id Hy.out
  have c := all_x w5 s ms Ks _ (setW (A)) Hs_5.out (setW_up _) (mem_setW _)
  go_wp2_with fail
  refine c.mono ?_
  rintro e w6 ⟨v1, rfl, _, hv1, b6⟩
  clear c
  have Hs_6 := Lib.hid (Hs_5.out.below b6)
  have Ht_6 := Lib.hid (Ht_5.out.below b6)
  have Hx_6 := Lib.hid (Hx_5.out.below b6)
  have Hy_6 := Lib.hid (Hy.out.below b6)
  have HB6 := Lib.hid b6
  have HD6 := Lib.hid (HD5.out.trans (b6.mono HD5.out.size))
  clear b6
  try clear Hs_4
  try clear Ht_4
  try clear Hx
  have Hv1 := Lib.hid hv1
  clear hv1
  have c := alike_q w6 v1 (.slice xo (setW A).length xc) _ _ true Hv1.out Hx_6.out (by omega) (by omega) (decide_eq_true rfl)
  go_wp2_with fail
  refine c.mono ?_
  rintro e w7 ⟨rfl, b7⟩
  clear c
  have Hs_7 := Lib.hid (Hs_6.out.below b7)
  have Ht_7 := Lib.hid (Ht_6.out.below b7)
  have Hx_7 := Lib.hid (Hx_6.out.below b7)
  have Hy_7 := Lib.hid (Hy_6.out.below b7)
  have Hv1_7 := Lib.hid (Hv1.out.below b7)
  have HB7 := Lib.hid b7
  have HD7 := Lib.hid (HD6.out.trans (b7.mono HD6.out.size))
  clear b7
  try clear Hs_5
  try clear Ht_5
  try clear Hx_5
  try clear Hy
  have c := len_s w7 s _ ms Ks Hs_7.out
  go_wp2_with fail
  refine c.mono ?_
  rintro e w8 ⟨rfl, rfl⟩
  clear c
  have c := has_s w7 s _ ms Ks _ q Hs_7.out (HQ.out.below HD7.out).word HFQ.out
  rw [HDQ.out] at c
  go_wp2_with fail
  refine c.mono ?_
  rintro e w8 ⟨rfl, b8⟩
  clear c
  have Hs_8 := Lib.hid (Hs_7.out.below b8)
  have Ht_8 := Lib.hid (Ht_7.out.below b8)
  have Hx_8 := Lib.hid (Hx_7.out.below b8)
  have Hy_8 := Lib.hid (Hy_7.out.below b8)
  have HB8 := Lib.hid b8
  have HD8 := Lib.hid (HD7.out.trans (b8.mono HD7.out.size))
  clear b8
  try clear Hs_6
  try clear Ht_6
  try clear Hx_6
  try clear Hy_6
  try clear Hv1
  have c := rhas_q w8 (.slice xo (setW A).length xc) _ _ q _ Hx_8.out (HQ.out.below HD8.out).word (by omega) (by omega) HDQ.out
  go_wp2_with fail
  refine c.mono ?_
  rintro e w9 ⟨rfl, b9⟩
  clear c
  have Hs_9 := Lib.hid (Hs_8.out.below b9)
  have Ht_9 := Lib.hid (Ht_8.out.below b9)
  have Hx_9 := Lib.hid (Hx_8.out.below b9)
  have Hy_9 := Lib.hid (Hy_8.out.below b9)
  have HB9 := Lib.hid b9
  have HD9 := Lib.hid (HD8.out.trans (b9.mono HD8.out.size))
  clear b9
  try clear Hs_7
  try clear Ht_7
  try clear Hx_7
  try clear Hy_7
  have c := same_s w9 s t _ _ ms mt Ks Kt Hs_9.out Ht_9.out
  rw [HDS.out] at c
  go_wp2_with fail
  refine c.mono ?_
  rintro e w10 ⟨rfl, b10⟩
  clear c
  have Hs_10 := Lib.hid (Hs_9.out.below b10)
  have Ht_10 := Lib.hid (Ht_9.out.below b10)
  have Hx_10 := Lib.hid (Hx_9.out.below b10)
  have Hy_10 := Lib.hid (Hy_9.out.below b10)
  have HB10 := Lib.hid b10
  have HD10 := Lib.hid (HD9.out.trans (b10.mono HD9.out.size))
  clear b10
  try clear Hs_8
  try clear Ht_8
  try clear Hx_8
  try clear Hy_8
  have c := alike_q w10 (.slice xo (setW A).length xc) (.slice yo (setW C).length yc) _ _ false Hx_10.out.words Hy_10.out (by omega) (by omega) HDS.out
  go_wp2_with fail
  refine c.mono ?_
  rintro e w11 ⟨rfl, b11⟩
  clear c
  have Hs_11 := Lib.hid (Hs_10.out.below b11)
  have Ht_11 := Lib.hid (Ht_10.out.below b11)
  have Hx_11 := Lib.hid (Hx_10.out.below b11)
  have Hy_11 := Lib.hid (Hy_10.out.below b11)
  have HB11 := Lib.hid b11
  have HD11 := Lib.hid (HD10.out.trans (b11.mono HD10.out.size))
  clear b11
  try clear Hs_9
  try clear Ht_9
  try clear Hx_9
  try clear Hy_9
  have c := times_x w11 s t ms mt A C Ks Kt k Hs_11.out Ht_11.out (fine_len HFA.out.2 HFB.out.2 (by decide)) HK.out (Nat.le_trans (Nat.mul_le_mul sl tl) (Nat.le_trans (Nat.mul_le_mul la lb) (by decide)))
  go_wp2_with fail
  refine c.mono ?_
  rintro e w12 ⟨o, mo, Ko, rfl, ho, ol, b12⟩
  clear c
  have Hs_12 := Lib.hid (Hs_11.out.below b12)
  have Ht_12 := Lib.hid (Ht_11.out.below b12)
  have Hx_12 := Lib.hid (Hx_11.out.below b12)
  have Hy_12 := Lib.hid (Hy_11.out.below b12)
  have HB12 := Lib.hid b12
  have HD12 := Lib.hid (HD11.out.trans (b12.mono HD11.out.size))
  clear b12
  try clear Hs_10
  try clear Ht_10
  try clear Hx_10
  try clear Hy_10
  have Ho := Lib.hid ho
  clear ho
  have c := all_x w12 o mo Ko _ (setW (timesW A C k.toNat)) Ho.out (setW_up _) (mem_setW _)
  go_wp2_with fail
  refine c.mono ?_
  rintro e w13 ⟨v2, rfl, _, hv2, b13⟩
  clear c
  have Hs_13 := Lib.hid (Hs_12.out.below b13)
  have Ht_13 := Lib.hid (Ht_12.out.below b13)
  have Hx_13 := Lib.hid (Hx_12.out.below b13)
  have Hy_13 := Lib.hid (Hy_12.out.below b13)
  have Ho_13 := Lib.hid (Ho.out.below b13)
  have HB13 := Lib.hid b13
  have HD13 := Lib.hid (HD12.out.trans (b13.mono HD12.out.size))
  clear b13
  try clear Hs_11
  try clear Ht_11
  try clear Hx_11
  try clear Hy_11
  have Hv2 := Lib.hid hv2
  clear hv2
  have c := rtimes_any w13 (.slice xo (setW A).length xc) (.slice yo (setW C).length yc) _ _ k Hx_13.out Hy_13.out (by omega) (by omega) (set_words (fun x hx => Nat.le_trans (HFA.out.2 x hx) (by decide))) (set_words (fun x hx => Nat.le_trans (HFB.out.2 x hx) (by decide)))
  rw [setW_times] at c
  go_wp2_with fail
  refine c.mono ?_
  rintro e w14 ⟨z, rfl, hz, b14⟩
  clear c
  have Hs_14 := Lib.hid (Hs_13.out.below b14)
  have Ht_14 := Lib.hid (Ht_13.out.below b14)
  have Hx_14 := Lib.hid (Hx_13.out.below b14)
  have Hy_14 := Lib.hid (Hy_13.out.below b14)
  have Hv2_14 := Lib.hid (Hv2.out.below b14)
  have HB14 := Lib.hid b14
  have HD14 := Lib.hid (HD13.out.trans (b14.mono HD13.out.size))
  clear b14
  try clear Hs_12
  try clear Ht_12
  try clear Hx_12
  try clear Hy_12
  try clear Ho
  have Hz := Lib.hid hz
  clear hz
  have c := alike_q w14 v2 z _ _ true Hv2_14.out Hz.out (by omega) (by omega) (decide_eq_true rfl)
  go_wp2_with fail
  refine c.mono ?_
  rintro e w15 ⟨rfl, b15⟩
  clear c
  have Hs_15 := Lib.hid (Hs_14.out.below b15)
  have Ht_15 := Lib.hid (Ht_14.out.below b15)
  have Hx_15 := Lib.hid (Hx_14.out.below b15)
  have Hy_15 := Lib.hid (Hy_14.out.below b15)
  have Hv2_15 := Lib.hid (Hv2_14.out.below b15)
  have Hz_15 := Lib.hid (Hz.out.below b15)
  have HB15 := Lib.hid b15
  have HD15 := Lib.hid (HD14.out.trans (b15.mono HD14.out.size))
  clear b15
  try clear Hs_13
  try clear Ht_13
  try clear Hx_13
  try clear Hy_13
  try clear Hv2
  have c := meet_s w15 s t A C ms mt Ks Kt Hs_15.out Ht_15.out
  go_wp2_with fail
  refine c.mono ?_
  rintro e w16 ⟨m, mm, Km, rfl, hm, b16⟩
  clear c
  have Hs_16 := Lib.hid (Hs_15.out.below b16)
  have Ht_16 := Lib.hid (Ht_15.out.below b16)
  have Hx_16 := Lib.hid (Hx_15.out.below b16)
  have Hy_16 := Lib.hid (Hy_15.out.below b16)
  have HB16 := Lib.hid b16
  have HD16 := Lib.hid (HD15.out.trans (b16.mono HD15.out.size))
  clear b16
  try clear Hs_14
  try clear Ht_14
  try clear Hx_14
  try clear Hy_14
  try clear Hv2_14
  try clear Hz
  have Hm := Lib.hid hm
  clear hm
  have c := all_x w16 m mm Km _ (setW (meetW A C)) Hm.out (setW_up _) (mem_setW _)
  go_wp2_with fail
  refine c.mono ?_
  rintro e w17 ⟨v3, rfl, _, hv3, b17⟩
  clear c
  have Hs_17 := Lib.hid (Hs_16.out.below b17)
  have Ht_17 := Lib.hid (Ht_16.out.below b17)
  have Hx_17 := Lib.hid (Hx_16.out.below b17)
  have Hy_17 := Lib.hid (Hy_16.out.below b17)
  have Hm_17 := Lib.hid (Hm.out.below b17)
  have HB17 := Lib.hid b17
  have HD17 := Lib.hid (HD16.out.trans (b17.mono HD16.out.size))
  clear b17
  try clear Hs_15
  try clear Ht_15
  try clear Hx_15
  try clear Hy_15
  have Hv3 := Lib.hid hv3
  clear hv3
  have c := rmeet_any w17 (.slice xo (setW A).length xc) (.slice yo (setW C).length yc) _ _ Hx_17.out Hy_17.out (by omega) (by omega)
  rw [setW_meet] at c
  go_wp2_with fail
  refine c.mono ?_
  rintro e w18 ⟨z2, rfl, hz2, b18⟩
  clear c
  have Hs_18 := Lib.hid (Hs_17.out.below b18)
  have Ht_18 := Lib.hid (Ht_17.out.below b18)
  have Hx_18 := Lib.hid (Hx_17.out.below b18)
  have Hy_18 := Lib.hid (Hy_17.out.below b18)
  have Hv3_18 := Lib.hid (Hv3.out.below b18)
  have HB18 := Lib.hid b18
  have HD18 := Lib.hid (HD17.out.trans (b18.mono HD17.out.size))
  clear b18
  try clear Hs_16
  try clear Ht_16
  try clear Hx_16
  try clear Hy_16
  try clear Hm
  have Hzz := Lib.hid hz2
  clear hz2
  have c := alike_q w18 v3 z2 _ _ true Hv3_18.out Hzz.out (by omega) (by omega) (decide_eq_true rfl)
  go_wp2_with fail
  refine c.mono ?_
  rintro e w19 ⟨rfl, b19⟩
  clear c
  have Hs_19 := Lib.hid (Hs_18.out.below b19)
  have Ht_19 := Lib.hid (Ht_18.out.below b19)
  have Hx_19 := Lib.hid (Hx_18.out.below b19)
  have Hy_19 := Lib.hid (Hy_18.out.below b19)
  have Hv3_19 := Lib.hid (Hv3_18.out.below b19)
  have Hzz_19 := Lib.hid (Hzz.out.below b19)
  have HB19 := Lib.hid b19
  have HD19 := Lib.hid (HD18.out.trans (b19.mono HD18.out.size))
  clear b19
  try clear Hs_17
  try clear Ht_17
  try clear Hx_17
  try clear Hy_17
  try clear Hv3
  have c := of_x w19 _ _ ((HA.out.below HD19.out).words HFA.out) (HA.out.fine HFA.out) (by omega)
  go_wp2_with fail
  refine c.mono ?_
  rintro e w20 ⟨f, mf, Kf, rfl, hf, fl, b20⟩
  clear c
  have Hs_20 := Lib.hid (Hs_19.out.below b20)
  have Ht_20 := Lib.hid (Ht_19.out.below b20)
  have Hx_20 := Lib.hid (Hx_19.out.below b20)
  have Hy_20 := Lib.hid (Hy_19.out.below b20)
  have HB20 := Lib.hid b20
  have HD20 := Lib.hid (HD19.out.trans (b20.mono HD19.out.size))
  clear b20
  try clear Hs_18
  try clear Ht_18
  try clear Hx_18
  try clear Hy_18
  try clear Hv3_18
  try clear Hzz
  have Hf := Lib.hid hf
  clear hf
  have bnow : Below w19.heap.size w19 w20 := HB20.out
  have c := add_s w19 w20 f A mf Kf _ q Hf.out (HQ.out.below HD20.out).word HFQ.out (by omega) bnow (Nat.le_refl _)
  rw [HDQ.out] at c
  go_wp2_with fail
  refine c.mono ?_
  rintro e w21 ⟨rfl, ⟨m2, K2, hf2⟩, b21⟩
  clear c bnow
  have Hs_21 := Lib.hid (Hs_19.out.below b21)
  have Ht_21 := Lib.hid (Ht_19.out.below b21)
  have Hx_21 := Lib.hid (Hx_19.out.below b21)
  have Hy_21 := Lib.hid (Hy_19.out.below b21)
  have HD21 := Lib.hid (HD19.out.trans (b21.mono HD19.out.size))
  clear b21
  have Hf := Lib.hid hf2
  clear hf2
  have c := rhas_q w21 (.slice xo (setW A).length xc) _ _ q _ Hx_21.out (HQ.out.below HD21.out).word (by omega) (by omega) HDQ.out
  go_wp2_with fail
  refine c.mono ?_
  rintro e w22 ⟨rfl, b22⟩
  clear c
  have Hs_22 := Lib.hid (Hs_21.out.below b22)
  have Ht_22 := Lib.hid (Ht_21.out.below b22)
  have Hx_22 := Lib.hid (Hx_21.out.below b22)
  have Hy_22 := Lib.hid (Hy_21.out.below b22)
  have Hf_22 := Lib.hid (Hf.out.below b22)
  have HB22 := Lib.hid b22
  have HD22 := Lib.hid (HD21.out.trans (b22.mono HD21.out.size))
  clear b22
  try clear Hs_19
  try clear Ht_19
  try clear Hx_19
  try clear Hy_19
  have c := all_x w22 f m2 K2 _ (setW (A ++ [q])) Hf_22.out (setW_up _) (mem_setW _)
  go_wp2_with fail
  refine c.mono ?_
  rintro e w23 ⟨v4, rfl, _, hv4, b23⟩
  clear c
  have Hs_23 := Lib.hid (Hs_22.out.below b23)
  have Ht_23 := Lib.hid (Ht_22.out.below b23)
  have Hx_23 := Lib.hid (Hx_22.out.below b23)
  have Hy_23 := Lib.hid (Hy_22.out.below b23)
  have Hf_23 := Lib.hid (Hf_22.out.below b23)
  have HB23 := Lib.hid b23
  have HD23 := Lib.hid (HD22.out.trans (b23.mono HD22.out.size))
  clear b23
  try clear Hs_21
  try clear Ht_21
  try clear Hx_21
  try clear Hy_21
  try clear Hf
  have Hv4 := Lib.hid hv4
  clear hv4
  have c := radd_any w23 (.slice xo (setW A).length xc) _ _ q Hx_23.out ((HQ.out.below HD23.out).wordN (by omega)) (by omega) (setW_up _)
  rw [← setW_snoc] at c
  go_wp2_with fail
  refine c.mono ?_
  rintro e w24 ⟨z3, rfl, hz3, b24⟩
  clear c
  have Hs_24 := Lib.hid (Hs_23.out.below b24)
  have Ht_24 := Lib.hid (Ht_23.out.below b24)
  have Hx_24 := Lib.hid (Hx_23.out.below b24)
  have Hy_24 := Lib.hid (Hy_23.out.below b24)
  have Hv4_24 := Lib.hid (Hv4.out.below b24)
  have HB24 := Lib.hid b24
  have HD24 := Lib.hid (HD23.out.trans (b24.mono HD23.out.size))
  clear b24
  try clear Hs_22
  try clear Ht_22
  try clear Hx_22
  try clear Hy_22
  try clear Hf_22
  have Hzc := Lib.hid hz3
  clear hz3
  have c := alike_q w24 v4 z3 _ _ true Hv4_24.out Hzc.out (by omega) (by omega) (decide_eq_true rfl)
  go_wp2_with fail
  refine c.mono ?_
  rintro e w25 ⟨rfl, b25⟩
  clear c
  have Hs_25 := Lib.hid (Hs_24.out.below b25)
  have Ht_25 := Lib.hid (Ht_24.out.below b25)
  have Hx_25 := Lib.hid (Hx_24.out.below b25)
  have Hy_25 := Lib.hid (Hy_24.out.below b25)
  have Hv4_25 := Lib.hid (Hv4_24.out.below b25)
  have Hzc_25 := Lib.hid (Hzc.out.below b25)
  have HB25 := Lib.hid b25
  have HD25 := Lib.hid (HD24.out.trans (b25.mono HD24.out.size))
  clear b25
  try clear Hs_23
  try clear Ht_23
  try clear Hx_23
  try clear Hy_23
  try clear Hv4
  obtain ⟨xo', xc', us1, e1, xn, xl, xcell, xe⟩ := words_us Hx_25.out
  cases e1
  obtain ⟨yo', yc', us2, e2, yn, yl, ycell, ye⟩ := words_us Hy_25.out
  cases e2
  have b0 : Below w25.heap.size w25 (w25.alloc (.cells #[] 22)) := (Below.refl _ _).alloc (Nat.le_refl _) _
  have hs1 := cells_below xcell b0
  have hs2 := fun w' (hb : Below w25.heap.size w25 w') => cells_below ycell hb
  have hm0 : (w25.alloc (.cells #[] 22)).ownsRow w25.heap.size 22 1 (.slice (some ⟨w25.heap.size, 0, none⟩) 0 0) 0 [] := (made_words w25.heap.size w25 (Nat.le_refl _)).1
  have o1 := us_one xl xe
  have o2 := us_one yl ye
  have HXE := Lib.hid xe
  have HYE := Lib.hid ye
  have HS2 := Lib.hid hs2
  have HXL := Lib.hid xl
  have l1 : us1.length = (setW A).length * 1 := by omega
  have l2 : us2.length = (setW C).length * 1 := by omega
  clear xcell ycell xe ye hs2 xl yl
  go_wp2_with (first | (at_builtin; refine wpList_append_src rfl (.tmp 108) (.tmp 109) 29 rfl w25.heap.size 22 i1 (.slice none 0 0) 1 24 Try.underlying29 ki kz0 kz1 kz2 rfl (by decide) _ 0 [] rfl hm0 xo (setW A).length xc us1 rfl l1 xn hs1 o1 (by unfold maxLen; omega) (by omega) (by simp) ?_; intro u1 wa hown1 hg1; have ba : Below w25.heap.size w25 wa := b0.grown hg1 b0.size (fun j hj => (hm0.lt j hj).1); have hs2 := HS2.out wa ba; clear hm0 hs1 hg1) | (at_builtin; refine wpList_append_src rfl (.tmp 110) (.tmp 111) 29 rfl w25.heap.size 22 i1 (.slice none 0 0) 1 24 Try.underlying29 ki kz0 kz1 kz2 rfl (by decide) u1 (0 + (setW A).length) ([] ++ us1) rfl hown1 yo (setW C).length yc us2 rfl l2 yn hs2 o2 (by unfold maxLen; omega) (by omega) ba.size ?_; intro u2 wb hown2 hg2; have bb : Below w25.heap.size w25 wb := ba.grown hg2 ba.size (fun j hj => (hown1.lt j hj).1); clear hown1 hs2 hg2) | fail)
  rw [List.nil_append, Nat.zero_add] at hown2
  have hbm := both_m (L1 := setW A) (L2 := setW C) hown2 (by simp) HXL.out (fun i hi => let ⟨u, h, hw⟩ := HXE.out i hi; ⟨u, h, hw.below bb⟩) (fun i hi => let ⟨u, h, hw⟩ := HYE.out i hi; ⟨u, h, hw.below bb⟩)
  clear hown2 o1 o2
  have c := rof_any wb u2 _ hbm (by simp; omega)
  rw [setW_both] at c
  refine c.mono ?_
  rintro e w26 ⟨bo, rfl, hbo, b26⟩
  clear c hbm
  have bx := bb.trans (b26.mono bb.size)
  clear b26 bb ba b0
  have Hs_26 := Lib.hid (Hs_25.out.below bx)
  have Ht_26 := Lib.hid (Ht_25.out.below bx)
  have Hx_26 := Lib.hid (Hx_25.out.below bx)
  have Hy_26 := Lib.hid (Hy_25.out.below bx)
  have HB26 := Lib.hid bx
  have HD26 := Lib.hid (HD25.out.trans (bx.mono HD25.out.size))
  clear bx
  try clear Hs_24
  try clear Ht_24
  try clear Hx_24
  try clear Hy_24
  try clear Hv4_24
  try clear Hzc
  have Hbo := Lib.hid hbo
  clear hbo
  obtain ⟨oo, oc, rfl, _⟩ := id Hbo.out
  have c := take_s w w26 s t A C ms mt Ks Kt Hs_26.out Ht_26.out hst HMM.out (by omega) (by omega) HD26.out (Nat.le_trans HD1.out.size (Nat.le_refl _)) (Nat.le_trans HD2.out.size (Nat.le_refl _))
  go_wp2_with fail
  refine c.mono ?_
  rintro e w27 ⟨rfl, ⟨m3, K3, hs3⟩, ⟨m4, K4, ht3⟩, hkw, hd3⟩
  clear c
  have Hs := Lib.hid hs3
  have Ht := Lib.hid ht3
  have HD27 := Lib.hid hd3
  have Hbq := Lib.hid (hkw _ _ Hbo.out)
  have Hyq := Lib.hid (hkw _ _ Hy_26.out)
  clear hs3 ht3 hd3 hkw
  have c := all_x w27 s m3 K3 _ (setW (A ++ C)) Hs.out (setW_up _) (mem_setW _)
  go_wp2_with fail
  refine c.mono ?_
  rintro e w28 ⟨v5, rfl, _, hv5, b28⟩
  clear c
  have Hs_28 := Lib.hid (Hs.out.below b28)
  have Ht_28 := Lib.hid (Ht.out.below b28)
  have Hbo_28 := Lib.hid (Hbq.out.below b28)
  have Hy_28 := Lib.hid (Hyq.out.below b28)
  have HB28 := Lib.hid b28
  have HD28 := Lib.hid (HD27.out.trans (b28.mono HD27.out.size))
  clear b28
  try clear Hs_25
  try clear Ht_25
  try clear Hx_25
  try clear Hy_25
  have Hv5 := Lib.hid hv5
  clear hv5
  have c := alike_q w28 v5 (.slice oo (setW (A ++ C)).length oc) _ _ true Hv5.out Hbo_28.out (by omega) (by omega) (decide_eq_true rfl)
  go_wp2_with fail
  refine c.mono ?_
  rintro e w29 ⟨rfl, b29⟩
  clear c
  have Hs_29 := Lib.hid (Hs_28.out.below b29)
  have Ht_29 := Lib.hid (Ht_28.out.below b29)
  have Hbo_29 := Lib.hid (Hbo_28.out.below b29)
  have Hy_29 := Lib.hid (Hy_28.out.below b29)
  have Hv5_29 := Lib.hid (Hv5.out.below b29)
  have HB29 := Lib.hid b29
  have HD29 := Lib.hid (HD28.out.trans (b29.mono HD28.out.size))
  clear b29
  try clear Hs
  try clear Ht
  try clear Hbq
  try clear Hyq
  have c := all_x w29 t m4 K4 _ (setW (C)) Ht_29.out (setW_up _) (mem_setW _)
  go_wp2_with fail
  refine c.mono ?_
  rintro e w30 ⟨v6, rfl, _, hv6, b30⟩
  clear c
  have Hs_30 := Lib.hid (Hs_29.out.below b30)
  have Ht_30 := Lib.hid (Ht_29.out.below b30)
  have Hbo_30 := Lib.hid (Hbo_29.out.below b30)
  have Hy_30 := Lib.hid (Hy_29.out.below b30)
  have HB30 := Lib.hid b30
  have HD30 := Lib.hid (HD29.out.trans (b30.mono HD29.out.size))
  clear b30
  try clear Hs_28
  try clear Ht_28
  try clear Hbo_28
  try clear Hy_28
  try clear Hv5
  have Hv6 := Lib.hid hv6
  clear hv6
  have c := alike_q w30 v6 (.slice yo (setW C).length yc) _ _ true Hv6.out Hy_30.out (by omega) (by omega) (decide_eq_true rfl)
  go_wp2_with fail
  refine c.mono ?_
  rintro e w31 ⟨rfl, b31⟩
  clear c
  have Hs_31 := Lib.hid (Hs_30.out.below b31)
  have Ht_31 := Lib.hid (Ht_30.out.below b31)
  have Hbo_31 := Lib.hid (Hbo_30.out.below b31)
  have Hy_31 := Lib.hid (Hy_30.out.below b31)
  have Hv6_31 := Lib.hid (Hv6.out.below b31)
  have HB31 := Lib.hid b31
  have HD31 := Lib.hid (HD30.out.trans (b31.mono HD30.out.size))
  clear b31
  try clear Hs_29
  try clear Ht_29
  try clear Hbo_29
  try clear Hy_29
  go_wp2_with fail
  go_ret
  exact ⟨rfl, HD31.out⟩
end Go.Proofs.Ythcnffieoocnkaa.st
