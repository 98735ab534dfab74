import Derived.Test.YthcnffieoocnkaaTmsa
namespace Go.Proofs.Ythcnffieoocnkaa.st
open Go.ChangeShapes Go.WideShapes Go.ChangeAt Go.RowKit Go.Maps Go.WideMaps Go.WideElems
set_option linter.unusedVariables false
theorem words_nil (w : World) : WordsAt w (.slice none 0 0) [] := ⟨none, 0, rfl, fun i hi => absurd hi (Nat.not_lt_zero _)⟩
theorem lit1 (W : World) (x : List Int) (hx : Fine x) : WordsAt ((W.alloc (.cells (IV x).toArray 3)).alloc (.cells #[.slice (some ⟨W.heap.size, 0, none⟩) x.length x.length] 22)) (.slice (some ⟨W.heap.size + 1, 0, none⟩) 1 1) [x] := by
  generalize hW : (W.alloc (.cells (IV x).toArray 3)).alloc (.cells #[.slice (some ⟨W.heap.size, 0, none⟩) x.length x.length] 22) = W'
  have a1 : Blk W' W.heap.size 3 (IV x).toArray := by rw [← hW]; exact (Blk.new W _ _).alloc _
  have a2 : Blk W' (W.heap.size + 1) 22 [.slice (some ⟨W.heap.size, 0, none⟩) x.length x.length].toArray := by rw [← hW]; exact blk_new' (by simp)
  refine words_blk (xss := [x]) a2 rfl fun i hi => ?_
  have hi3 : i < 1 := hi
  match i, hi3 with
  | 0, _ => exact ⟨_, rfl, word_blk a1 hx.1, hx.2⟩
theorem fine_nil : Fine [] := ⟨by simp, by simp⟩
theorem fine_len {X : List (List Int)} {n : Nat} (h : ∀ x ∈ X, x.length ≤ n) {Y : List (List Int)} {m : Nat} (h2 : ∀ x ∈ Y, x.length ≤ m) (hnm : n + m ≤ 1000) : ∀ a ∈ X, ∀ b ∈ Y, a.length + b.length ≤ 1000 := fun a ha b hb => by have := h a ha; have := h2 b hb; omega
set_option maxRecDepth 100000 in
set_option maxHeartbeats 4000000 in
theorem times_main (w : World) (aa ab ac : Option Addr) (ca cb cc : Nat) (A C E : List (List Int)) (k : Int) (ha : RowsAt w (.slice aa A.length ca) A) (hb : RowsAt w (.slice ab C.length cb) C) (hc : RowsAt w (.slice ac E.length cc) E) (fa : FewP A) (fb : FewP C) (fc : FewP E) (la : A.length ≤ 8) (lb : C.length ≤ 8) (lc : E.length ≤ 8) : Calls Try.prog 5 #[.slice aa A.length ca, .slice ab C.length cb, .slice ac E.length cc, .int .i64 k] w fun e w' => e = .returned (.bool true) ∧ Below w.heap.size w w' := by
  have HA := Lib.hid ha
  have HC := Lib.hid hb
  have HE := Lib.hid hc
  have HFA := Lib.hid fa
  have HFB := Lib.hid fb
  have HFC := Lib.hid fc
  have hkk := and15 k
  have hk0 := Int.emod_nonneg k (show (16 : Int) ≠ 0 by decide)
  have hk1 := Int.emod_lt_of_pos k (show (0 : Int) < 16 by decide)
  generalize k % 16 = r at *
  have hin : In64 r := ⟨by omega, by omega⟩
  clear ha hb hc fa fb fc
  go_enter Try.func5, Try.ntmps5
  go_wp2_with fail
  refine (alive_any _).mono ?_
  rintro e w1 ⟨rfl, b1⟩
  have HD1 := Lib.hid b1
  clear b1
  have f1 := few_any w1 (.slice aa A.length ca) A (HA.out.below HD1.out)
  rw [decide_eq_true HFA.out] at f1
  go_wp2_with fail
  refine (f1).mono ?_
  rintro e w2 ⟨rfl, rfl⟩
  clear f1
  have f1 := few_any w1 (.slice ab C.length cb) C (HC.out.below HD1.out)
  rw [decide_eq_true HFB.out] at f1
  go_wp2_with fail
  refine (f1).mono ?_
  rintro e w2 ⟨rfl, rfl⟩
  clear f1
  have f1 := few_any w1 (.slice ac E.length cc) E (HE.out.below HD1.out)
  rw [decide_eq_true HFC.out] at f1
  go_wp2_with fail
  refine (f1).mono ?_
  rintro e w2 ⟨rfl, rfl⟩
  clear f1
  have c := of_x _ _ _ ((HA.out.below HD1.out).words HFA.out) (HA.out.fine HFA.out) (by omega)
  go_wp2_with fail
  refine (c).mono ?_
  rintro e w2 ⟨x, xm, Kx, rfl, hx, xl, b2⟩
  clear c
  have HD2 := Lib.hid (HD1.out.trans (b2.mono HD1.out.size))
  clear b2
  have Hx := Lib.hid hx
  clear hx
  have xb : Kx.length ≤ 8 := by omega
  have c := of_x _ _ _ ((HC.out.below HD2.out).words HFB.out) (HC.out.fine HFB.out) (by omega)
  go_wp2_with fail
  refine (c).mono ?_
  rintro e w3 ⟨y, ym, Ky, rfl, hy, yl, b3⟩
  clear c
  have Hx_3 := Lib.hid (Hx.out.below b3)
  have HD3 := Lib.hid (HD2.out.trans (b3.mono HD2.out.size))
  clear b3
  have Hy := Lib.hid hy
  clear hy
  have yb : Ky.length ≤ 8 := by omega
  have c := of_x _ _ _ ((HE.out.below HD3.out).words HFC.out) (HE.out.fine HFC.out) (by omega)
  go_wp2_with fail
  refine (c).mono ?_
  rintro e w4 ⟨z, zm, Kz, rfl, hz, zl, b4⟩
  clear c
  have Hx_4 := Lib.hid (Hx_3.out.below b4)
  have Hy_4 := Lib.hid (Hy.out.below b4)
  have HD4 := Lib.hid (HD3.out.trans (b4.mono HD3.out.size))
  clear b4
  have Hz := Lib.hid hz
  clear hz
  have zb : Kz.length ≤ 8 := by omega
  have hr15 : r.toNat ≤ 15 := by omega
  have HLA := Lib.hid HFA.out.2
  have HLB := Lib.hid HFB.out.2
  have HLC := Lib.hid HFC.out.2
  have c := times_x w4 x y _ _ _ _ _ _ r Hx_4.out Hy_4.out (fine_len HLA.out HLB.out (by decide)) hin (Nat.le_trans (Nat.mul_le_mul xb yb) (by decide))
  go_wp2_with fail
  refine (c).mono ?_
  rintro e w5 ⟨p, pm, Kp, rfl, hp, pl, b5⟩
  clear c
  have Hx_5 := Lib.hid (Hx_4.out.below b5)
  have Hy_5 := Lib.hid (Hy_4.out.below b5)
  have Hz_5 := Lib.hid (Hz.out.below b5)
  have HD5 := Lib.hid (HD4.out.trans (b5.mono HD4.out.size))
  clear b5
  have pb : Kp.length ≤ 64 := Nat.le_trans pl (Nat.le_trans (Nat.mul_le_mul xb yb) (by decide))
  have Hp := Lib.hid hp
  clear hp
  have c := times_x w5 p z _ _ _ _ _ _ r Hp.out Hz_5.out (fine_len len_times HLC.out (by omega)) hin (Nat.le_trans (Nat.mul_le_mul pb zb) (by decide))
  go_wp2_with fail
  refine (c).mono ?_
  rintro e w6 ⟨q, qm, Kq, rfl, hq, ql, b6⟩
  clear c
  have Hx_6 := Lib.hid (Hx_5.out.below b6)
  have Hy_6 := Lib.hid (Hy_5.out.below b6)
  have Hz_6 := Lib.hid (Hz_5.out.below b6)
  have Hp_6 := Lib.hid (Hp.out.below b6)
  have HD6 := Lib.hid (HD5.out.trans (b6.mono HD5.out.size))
  clear b6
  have qb : Kq.length ≤ 512 := Nat.le_trans ql (Nat.le_trans (Nat.mul_le_mul pb zb) (by decide))
  have Hq := Lib.hid hq
  clear hq
  have c := times_x w6 y z _ _ _ _ _ _ r Hy_6.out Hz_6.out (fine_len HLB.out HLC.out (by decide)) hin (Nat.le_trans (Nat.mul_le_mul yb zb) (by decide))
  go_wp2_with fail
  refine (c).mono ?_
  rintro e w7 ⟨u, um, Ku, rfl, hu, ul, b7⟩
  clear c
  have Hx_7 := Lib.hid (Hx_6.out.below b7)
  have Hy_7 := Lib.hid (Hy_6.out.below b7)
  have Hz_7 := Lib.hid (Hz_6.out.below b7)
  have Hp_7 := Lib.hid (Hp_6.out.below b7)
  have Hq_7 := Lib.hid (Hq.out.below b7)
  have HD7 := Lib.hid (HD6.out.trans (b7.mono HD6.out.size))
  clear b7
  have ub : Ku.length ≤ 64 := Nat.le_trans ul (Nat.le_trans (Nat.mul_le_mul yb zb) (by decide))
  have Hu := Lib.hid hu
  clear hu
  have c := times_x w7 x u _ _ _ _ _ _ r Hx_7.out Hu.out (fine_len HLA.out len_times (by omega)) hin (Nat.le_trans (Nat.mul_le_mul xb ub) (by decide))
  go_wp2_with fail
  refine (c).mono ?_
  rintro e w8 ⟨v, vm, Kv, rfl, hv, vl, b8⟩
  clear c
  have Hx_8 := Lib.hid (Hx_7.out.below b8)
  have Hy_8 := Lib.hid (Hy_7.out.below b8)
  have Hz_8 := Lib.hid (Hz_7.out.below b8)
  have Hp_8 := Lib.hid (Hp_7.out.below b8)
  have Hq_8 := Lib.hid (Hq_7.out.below b8)
  have Hu_8 := Lib.hid (Hu.out.below b8)
  have HD8 := Lib.hid (HD7.out.trans (b8.mono HD7.out.size))
  clear b8
  have vb : Kv.length ≤ 512 := Nat.le_trans vl (Nat.le_trans (Nat.mul_le_mul xb ub) (by decide))
  have Hv := Lib.hid hv
  clear hv
  have c := same_k w8 q v _ _ _ _ Hq_8.out.k Hv.out.k (keys_eq Hq_8.out.keys Hv.out.keys (times_assoc A C E r.toNat))
  go_wp2_with fail
  refine (c).mono ?_
  rintro e w9 ⟨rfl, b9⟩
  clear c
  have Hx_9 := Lib.hid (Hx_8.out.below b9)
  have Hy_9 := Lib.hid (Hy_8.out.below b9)
  have Hz_9 := Lib.hid (Hz_8.out.below b9)
  have Hp_9 := Lib.hid (Hp_8.out.below b9)
  have Hq_9 := Lib.hid (Hq_8.out.below b9)
  have Hu_9 := Lib.hid (Hu_8.out.below b9)
  have Hv_9 := Lib.hid (Hv.out.below b9)
  have HD9 := Lib.hid (HD8.out.trans (b9.mono HD8.out.size))
  clear b9
  have c := of_x w9 _ _ (words_nil w9) (by simp) (by decide)
  go_wp2_with fail
  refine (c).mono ?_
  rintro e w10 ⟨f, fm, Kf, rfl, hf, fl, b10⟩
  clear c
  have Hx_10 := Lib.hid (Hx_9.out.below b10)
  have Hy_10 := Lib.hid (Hy_9.out.below b10)
  have Hz_10 := Lib.hid (Hz_9.out.below b10)
  have HD10 := Lib.hid (HD9.out.trans (b10.mono HD9.out.size))
  clear b10
  have Hf := Lib.hid hf
  clear hf
  have fb : Kf.length ≤ 0 := fl
  have c := times_x w10 x f _ _ _ _ _ _ r Hx_10.out Hf.out (fun a _ b hb => by simp at hb) hin (Nat.le_trans (Nat.mul_le_mul xb fb) (by decide))
  go_wp2_with fail
  refine (c).mono ?_
  rintro e w11 ⟨g, gm, Kg, rfl, hg, gl, b11⟩
  clear c
  have Hx_11 := Lib.hid (Hx_10.out.below b11)
  have Hy_11 := Lib.hid (Hy_10.out.below b11)
  have Hz_11 := Lib.hid (Hz_10.out.below b11)
  have Hf_11 := Lib.hid (Hf.out.below b11)
  have HD11 := Lib.hid (HD10.out.trans (b11.mono HD10.out.size))
  clear b11
  have gb : Kg.length ≤ 0 := Nat.le_trans gl (Nat.le_trans (Nat.mul_le_mul xb fb) (by decide))
  have Hg := Lib.hid hg
  clear hg
  have c := len_any w11 g _ _ Hg.out.set
  rw [show Kg.length = 0 by omega] at c
  go_wp2_with fail
  refine (c).mono ?_
  rintro e w12 ⟨rfl, rfl⟩
  clear c
  have c := of_x w11 _ _ (words_nil w11) (by simp) (by decide)
  go_wp2_with fail
  refine (c).mono ?_
  rintro e w12 ⟨h, hm, Kh, rfl, hh, hl, b12⟩
  clear c
  have Hx_12 := Lib.hid (Hx_11.out.below b12)
  have Hy_12 := Lib.hid (Hy_11.out.below b12)
  have Hz_12 := Lib.hid (Hz_11.out.below b12)
  have HD12 := Lib.hid (HD11.out.trans (b12.mono HD11.out.size))
  clear b12
  have Hh := Lib.hid hh
  clear hh
  have hb : Kh.length ≤ 0 := hl
  have c := times_x w12 h x _ _ _ _ _ _ r Hh.out Hx_12.out (fun a ha => by simp at ha) hin (Nat.le_trans (Nat.mul_le_mul hb xb) (by decide))
  go_wp2_with fail
  refine (c).mono ?_
  rintro e w13 ⟨i, im, Ki, rfl, hi, il, b13⟩
  clear c
  have Hx_13 := Lib.hid (Hx_12.out.below b13)
  have Hy_13 := Lib.hid (Hy_12.out.below b13)
  have Hz_13 := Lib.hid (Hz_12.out.below b13)
  have Hh_13 := Lib.hid (Hh.out.below b13)
  have HD13 := Lib.hid (HD12.out.trans (b13.mono HD12.out.size))
  clear b13
  have ib : Ki.length ≤ 0 := Nat.le_trans il (Nat.le_trans (Nat.mul_le_mul hb xb) (by decide))
  have Hi := Lib.hid hi
  clear hi
  have c := len_any w13 i _ _ Hi.out.set
  rw [show Ki.length = 0 by omega] at c
  go_wp2_with fail
  refine (c).mono ?_
  rintro e w14 ⟨rfl, rfl⟩
  clear c
  go_wp2_with fail
  have bl : Below w13.heap.size w13 ((w13.alloc (.cells #[] 3)).alloc (.cells #[.slice (some ⟨w13.heap.size, 0, none⟩) 0 0] 22)) := ((Below.refl _ _).alloc (Nat.le_refl _) _).alloc (by simp) _
  have c := of_x _ _ _ (lit1 w13 [] fine_nil) (by simp [fine_nil]) (by decide)
  refine c.mono ?_
  rintro e w14 ⟨m, mm, Km, rfl, hm, ml, bo⟩
  clear c
  have b14 := bl.trans (bo.mono bl.size)
  clear bl bo
  have Hx_14 := Lib.hid (Hx_13.out.below b14)
  have Hy_14 := Lib.hid (Hy_13.out.below b14)
  have Hz_14 := Lib.hid (Hz_13.out.below b14)
  have HD14 := Lib.hid (HD13.out.trans (b14.mono HD13.out.size))
  clear b14
  have Hm := Lib.hid hm
  clear hm
  have mb : Km.length ≤ 1 := ml
  have c := times_x w14 x m _ _ _ _ _ _ r Hx_14.out Hm.out (fine_len HLA.out (n := 20) (m := 0) (by simp) (by decide)) hin (Nat.le_trans (Nat.mul_le_mul xb mb) (by decide))
  go_wp2_with fail
  refine (c).mono ?_
  rintro e w15 ⟨o, om, Ko, rfl, ho, ol, b15⟩
  clear c
  have Hx_15 := Lib.hid (Hx_14.out.below b15)
  have Hy_15 := Lib.hid (Hy_14.out.below b15)
  have Hz_15 := Lib.hid (Hz_14.out.below b15)
  have Hm_15 := Lib.hid (Hm.out.below b15)
  have HD15 := Lib.hid (HD14.out.trans (b15.mono HD14.out.size))
  clear b15
  have ob : Ko.length ≤ 8 := Nat.le_trans ol (Nat.le_trans (Nat.mul_le_mul xb mb) (by decide))
  have Ho := Lib.hid ho
  clear ho
  have hoo : Ko.length ≤ Kx.length := Nat.le_trans ol (Nat.le_trans (Nat.mul_le_mul_left _ mb) (by omega))
  have c := all_x w15 o _ _ _ (setW (timesW A [[]] r.toNat)) Ho.out (setW_up _) (mem_setW _)
  go_wp2_with fail
  refine (c).mono ?_
  rintro e w16 ⟨vv, rfl, _, hvv, b16⟩
  clear c
  have Hx_16 := Lib.hid (Hx_15.out.below b16)
  have Hy_16 := Lib.hid (Hy_15.out.below b16)
  have Hz_16 := Lib.hid (Hz_15.out.below b16)
  have Hm_16 := Lib.hid (Hm_15.out.below b16)
  have Ho_16 := Lib.hid (Ho.out.below b16)
  have HD16 := Lib.hid (HD15.out.trans (b16.mono HD15.out.size))
  clear b16
  obtain ⟨av, cv, rfl, hcv⟩ := hvv
  have hvl : ∀ i, i < (setW (timesW A [[]] r.toNat)).length → ((setW (timesW A [[]] r.toNat)).getD i []).length ≤ r.toNat := fun i hi => len_times _ ((mem_setW _ _).1 (by rw [List.getD_eq_getElem?_getD, List.getElem?_eq_getElem hi]; exact List.getElem_mem hi))
  have hnl : (setW (timesW A [[]] r.toNat)).length ≤ 1000 := by rw [← keys_len Ho_16.out.set.nodup Ho_16.out.keys (setW_up _) (mem_setW _)]; omega
  generalize setW (timesW A [[]] r.toNat) = Y at *
  have HCV := Lib.hid hcv
  have HVL := Lib.hid hvl
  clear hcv hvl
  go_wp2_with fail
  go_loop [94] (fun i => ∃ j : Nat, j ≤ Y.length ∧ i = .int .i64 j) (fun i => Y.length - (intOf i).toNat)
  case atStart => exact ⟨0, Nat.zero_le _, rfl⟩
  case round =>
    obtain ⟨j, hj, rfl⟩ := hrel
    by_cases hlt : j < Y.length
    · obtain ⟨a, u, rfl, hab, hca, hw, _⟩ := HCV.out j hlt
      obtain ⟨ao2, cap2, rfl, _, _⟩ := hw
      have hle := HVL.out j hlt
      generalize (Y.getD j []).length = n at *
      have hle2 : (n : Int) ≤ r := by omega
      go_wp2
      go_round
      case rel => exact ⟨j + 1, by omega, by go_num⟩
      case measure => simp [intOf]; omega
    · obtain rfl : j = Y.length := by omega
      go_wp2_with fail
      have bl : Below w16.heap.size w16 ((w16.alloc (.cells #[] 3)).alloc (.cells #[.slice (some ⟨w16.heap.size, 0, none⟩) 0 0] 22)) := ((Below.refl _ _).alloc (Nat.le_refl _) _).alloc (by simp) _
      have c := of_x _ _ _ (lit1 w16 [] fine_nil) (by simp [fine_nil]) (by decide)
      refine c.mono ?_
      rintro e w17 ⟨s, sm, Ks, rfl, hs, sl, bo⟩
      clear c
      have b17 := bl.trans (bo.mono bl.size)
      clear bl bo
      have Hx_17 := Lib.hid (Hx_16.out.below b17)
      have Hy_17 := Lib.hid (Hy_16.out.below b17)
      have Hz_17 := Lib.hid (Hz_16.out.below b17)
      have Hm_17 := Lib.hid (Hm_16.out.below b17)
      have Ho_17 := Lib.hid (Ho_16.out.below b17)
      have HD17 := Lib.hid (HD16.out.trans (b17.mono HD16.out.size))
      clear b17
      have Hs := Lib.hid hs
      clear hs
      have sb : Ks.length ≤ 1 := sl
      have c := times_x w17 s x _ _ _ _ _ _ r Hs.out Hx_17.out (fine_len (n := 0) (m := 20) (by simp) HLA.out (by decide)) hin (Nat.le_trans (Nat.mul_le_mul sb xb) (by decide))
      go_wp2_with fail
      refine (c).mono ?_
      rintro e w18 ⟨t, tm, Kt, rfl, ht, tl, b18⟩
      clear c
      have Hx_18 := Lib.hid (Hx_17.out.below b18)
      have Hy_18 := Lib.hid (Hy_17.out.below b18)
      have Hz_18 := Lib.hid (Hz_17.out.below b18)
      have Hm_18 := Lib.hid (Hm_17.out.below b18)
      have Ho_18 := Lib.hid (Ho_17.out.below b18)
      have Hs_18 := Lib.hid (Hs.out.below b18)
      have HD18 := Lib.hid (HD17.out.trans (b18.mono HD17.out.size))
      clear b18
      have tb : Kt.length ≤ 8 := Nat.le_trans tl (Nat.le_trans (Nat.mul_le_mul sb xb) (by decide))
      have Ht := Lib.hid ht
      clear ht
      have c := same_k w18 o t _ _ _ _ Ho_18.out.k Ht.out.k (keys_eq Ho_18.out.keys Ht.out.keys (fun x => by rw [mem_timesW, mem_timesW]; constructor <;> (rintro ⟨a, ha, b, hb, rfl⟩; exact ⟨b, hb, a, ha, by simp at *; simp [*]⟩)))
      go_wp2_with fail
      refine (c).mono ?_
      rintro e w19 ⟨rfl, b19⟩
      clear c
      have Hx_19 := Lib.hid (Hx_18.out.below b19)
      have Hy_19 := Lib.hid (Hy_18.out.below b19)
      have Hz_19 := Lib.hid (Hz_18.out.below b19)
      have Hm_19 := Lib.hid (Hm_18.out.below b19)
      have Ho_19 := Lib.hid (Ho_18.out.below b19)
      have Hs_19 := Lib.hid (Hs_18.out.below b19)
      have Ht_19 := Lib.hid (Ht.out.below b19)
      have HD19 := Lib.hid (HD18.out.trans (b19.mono HD18.out.size))
      clear b19
      have c := len_any w19 o _ _ Ho_19.out.set
      go_wp2_with fail
      refine (c).mono ?_
      rintro e w20 ⟨rfl, rfl⟩
      clear c
      have c := len_any w19 x _ _ Hx_19.out.set
      go_wp2_with fail
      refine (c).mono ?_
      rintro e w20 ⟨rfl, rfl⟩
      clear c
      have c := meet_k w19 x x _ _ _ _ Hx_19.out.k Hx_19.out.k
      go_wp2_with fail
      refine (c).mono ?_
      rintro e w20 ⟨m2, mm2, Km2, rfl, hm2, hmk2, b20⟩
      clear c
      have c := same_k w20 m2 x _ _ _ _ hm2 (Hx_19.out.k.below b20) (fun z => by rw [hmk2 z]; exact and_self_iff)
      clear hm2 hmk2
      have Hx_20 := Lib.hid (Hx_19.out.below b20)
      have Hy_20 := Lib.hid (Hy_19.out.below b20)
      have Hz_20 := Lib.hid (Hz_19.out.below b20)
      have Hm_20 := Lib.hid (Hm_19.out.below b20)
      have Ho_20 := Lib.hid (Ho_19.out.below b20)
      have HD20 := Lib.hid (HD19.out.trans (b20.mono HD19.out.size))
      clear b20
      go_wp2_with fail
      refine (c).mono ?_
      rintro e w21 ⟨rfl, b21⟩
      clear c
      have Hx_21 := Lib.hid (Hx_20.out.below b21)
      have Hy_21 := Lib.hid (Hy_20.out.below b21)
      have Hz_21 := Lib.hid (Hz_20.out.below b21)
      have Hm_21 := Lib.hid (Hm_20.out.below b21)
      have Ho_21 := Lib.hid (Ho_20.out.below b21)
      have HD21 := Lib.hid (HD20.out.trans (b21.mono HD20.out.size))
      clear b21
      go_wp2_with fail
      go_ret
      exact ⟨rfl, HD21.out⟩
end Go.Proofs.Ythcnffieoocnkaa.st
