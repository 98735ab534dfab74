import Derived.Test.YthcnffieoocnkaaRofs
import Derived.Deep.RegionHeld3
import Derived.Deep.DeepCutAuto
namespace Go.Proofs.Ythcnffieoocnkaa.st
open Go.ChangeShapes Go.WideShapes Go.ChangeAt Go.RowKit Go.Maps Go.WideMaps Go.WideElems
set_option linter.unusedVariables false
theorem nil_len {w : World} {ao : Option Addr} {ca : Nat} {xs : List Int} (hc : ∀ i, i < xs.length → ∃ a : Addr, ao = some a ∧ a.block < w.heap.size ∧ w.cell? (a.add i) = some (.int .i64 (xs.getD i 0))) (e : ao = none) (h : ca = 0) : xs.length = 0 ∧ ca = 0 := by
  refine ⟨?_, h⟩
  rcases Nat.eq_zero_or_pos xs.length with h | h
  · exact h
  · obtain ⟨a, e2, _⟩ := hc 0 h
    rw [e] at e2
    cases e2
set_option maxRecDepth 100000 in
set_option maxHeartbeats 2000000 in
theorem rcutN_any (w : World) (v : Value) (xs : List Int) (k : Int) (hv : WordAt w v xs) (hx : xs.length ≤ 1000) : Calls Try.prog 13 #[v, .int .i64 k] w fun e w' => ∃ u, e = .returned u ∧ WordN w' u (xs.take k.toNat) ∧ Below w.heap.size w w' := by
  obtain ⟨i0, hi, hz0, hz1, hz2⟩ := info_parts info_int
  obtain ⟨ao, ca, rfl, hin, hc⟩ := hv
  have HC := Lib.hid hc
  have HIN := Lib.hid hin
  clear hc hin
  go_enter Try.func13, Try.ntmps13
  go_wp2
  go_loopw [5, 6] (fun v i wr => ∃ j : Nat, j ≤ xs.length ∧ j ≤ k.toNat ∧ i = .int .i64 j ∧ wr.ownsRow w.heap.size 3 1 v j (IV (xs.take j)) ∧ Below w.heap.size w wr) (fun _ i _ => xs.length - (intOf i).toNat)
  case atStart =>
    refine ⟨0, Nat.zero_le _, Nat.zero_le _, rfl, ?_, (Below.refl _ _).alloc (Nat.le_refl _) _⟩
    have := World.ownsRow_made (e := 3) (size := 1) (base := w.heap.size) w #[] 0 (Nat.le_refl _) (by unfold maxLen; omega) rfl
    simpa [IV] using this
  case round =>
    obtain ⟨j, hj, hjk, rfl, hown, hbw⟩ := hrel
    have hzw := hbw.size
    by_cases hlt : j < xs.length
    · by_cases hk : (j : Int) < k
      · obtain ⟨a, rfl, hab, hca⟩ := HC.out j hlt
        have hck : wr.cell? (a.add j) = some (.int .i64 (xs.getD j 0)) := (hbw.cell (p := a.add j) (by rw [add_block]; exact hab)).trans hca
        have hiv := iv_snoc xs j hlt
        clear hca
        generalize xs.getD j 0 = y at *
        have HF := Lib.hid hiv
        clear hiv
        go_wp2_with (at_builtin; go_must (refine wpList_append_own _ rfl _ _ 22 rfl w.heap.size 3 i0 (.int .i64 0) 1 8 Try.underlying22 hi hz0 hz1 hz2 rfl (by decide) _ _ _ rfl (hown.alloc _) ⟨wr.heap.size, 0, none⟩ 1 1 (IV [y]) rfl rfl (cell_one_new _ _ _) (ints_oneCell .i64 _) (by unfold maxLen; omega) (by omega) (by simp; omega) ?_); intro v' w2 hown' hgrow _)
        have hb2 : Below w.heap.size w w2 := (hbw.alloc hzw _).grown hgrow (by simp; omega) (fun j hj => (hown.lt j hj).1)
        refine ⟨⟨j + 1, hlt, by omega, by go_num, ?_, hb2⟩, by simp [intOf]; omega⟩
        rw [← HF.out]
        exact hown'
      · have e : xs.take j = xs.take k.toNat := by rw [show k.toNat = j by omega]
        have hw := (away_own (row := none) hown (by simp; omega) (fun n hn => HIN.out n (List.mem_of_mem_take hn)) (by simp; omega) (fun k h => by cases h)).wordN
        rw [e] at hw
        have HW := Lib.hid hw
        clear hw e hown
        go_wp2
        go_ret
        exact ⟨_, rfl, HW.out, hbw⟩
    · have e : xs.take j = xs.take k.toNat := by rw [List.take_of_length_le (by omega), List.take_of_length_le (by omega)]
      have hw := (away_own (row := none) hown (by simp; omega) (fun n hn => HIN.out n (List.mem_of_mem_take hn)) (by simp; omega) (fun k h => by cases h)).wordN
      rw [e] at hw
      have HW := Lib.hid hw
      clear hw e hown
      go_wp2
      go_ret
      exact ⟨_, rfl, HW.out, hbw⟩
set_option maxRecDepth 100000 in
set_option maxHeartbeats 2000000 in
theorem rjoinN_any (w : World) (v u : Value) (xs ys : List Int) (k : Int) (hv : WordN w v xs) (hu : WordN w u ys) (hx : xs.length ≤ 400) (hy : ys.length ≤ 400) : Calls Try.prog 15 #[v, u, .int .i64 k] w fun e w' => ∃ r, e = .returned r ∧ WordN w' r ((xs ++ ys).take k.toNat) ∧ Below w.heap.size w w' := by
  obtain ⟨i0, hi, hz0, hz1, hz2⟩ := info_parts info_int
  obtain ⟨_, ao, ca, rfl, h3, hin, hc⟩ := hv
  obtain ⟨_, bo, cb, rfl, g3, hin2, hc2⟩ := hu
  have hn1 : ao = none → xs.length = 0 ∧ ca = 0 := fun e => nil_len hc e (h3 e)
  have hn2 : bo = none → ys.length = 0 ∧ cb = 0 := fun e => nil_len hc2 e (g3 e)
  have hl1 : (IV xs).length = xs.length * 1 := by simp [IV]
  have hl2 : (IV ys).length = ys.length * 1 := by simp [IV]
  have hs1 := row_src (w' := w.alloc (.cells #[] 3)) hc ((Below.refl _ _).alloc (Nat.le_refl _) _)
  have hs2 := fun w' => row_src (w' := w') hc2
  have hfin : ∀ n ∈ xs ++ ys, In64 n := fun n hn => by
    rcases List.mem_append.1 hn with h | h
    · exact hin n h
    · exact hin2 n h
  have hown0 : (w.alloc (.cells #[] 3)).ownsRow w.heap.size 3 1 (.slice (some ⟨w.heap.size, 0, none⟩) 0 0) 0 [] := by
    have := World.ownsRow_made (e := 3) (size := 1) (base := w.heap.size) w #[] 0 (Nat.le_refl _) (by unfold maxLen; omega) rfl
    simpa using this
  have HF := Lib.hid hfin
  have HS2 := Lib.hid hs2
  clear hc hc2 hin hin2 hfin h3 g3 hs2
  have hb0 : Below w.heap.size w (w.alloc (.cells #[] 3)) := (Below.refl _ _).alloc (Nat.le_refl _) _
  go_enter Try.func15, Try.ntmps15
  go_wp2_with (first | (at_builtin; refine wpList_append_src rfl (.tmp 7) (.tmp 8) 22 rfl w.heap.size 3 i0 (.int .i64 0) 1 8 Try.underlying22 hi hz0 hz1 hz2 rfl (by decide) _ 0 [] rfl hown0 ao xs.length ca (IV xs) rfl hl1 hn1 hs1 (ints_oneCell .i64 _) (by unfold maxLen; omega) (by omega) (by simp) ?_; intro v1 w1 hown1 hg1; have hb1 : Below w.heap.size w w1 := hb0.grown hg1 hb0.size (fun j hj => (hown0.lt j hj).1); have hs2 := HS2.out w1 hb1; clear hown0 hs1 hg1) | (at_builtin; refine wpList_append_src rfl (.tmp 9) (.tmp 10) 22 rfl w.heap.size 3 i0 (.int .i64 0) 1 8 Try.underlying22 hi hz0 hz1 hz2 rfl (by decide) v1 (0 + xs.length) ([] ++ IV xs) rfl hown1 bo ys.length cb (IV ys) rfl hl2 hn2 hs2 (ints_oneCell .i64 _) (by unfold maxLen; omega) (by omega) hb1.size ?_; intro v2 w2 hown2 hg2; have hb2 : Below w.heap.size w w2 := hb1.grown hg2 hb1.size (fun j hj => (hown1.lt j hj).1); clear hown1 hs2 hg2) | fail)
  have hiv : [] ++ IV xs ++ IV ys = IV (xs ++ ys) := by simp [IV]
  rw [hiv] at hown2
  have c := rcutN_any w2 v2 (xs ++ ys) k (word_own hown2 (by simp) HF.out) (by simp; omega)
  refine c.mono ?_
  rintro e w3 ⟨r, rfl, hr, hb3⟩
  clear c hown2 hiv
  have HR := Lib.hid hr
  have HB := Lib.hid (hb2.trans (hb3.mono hb2.size))
  clear hr hb3 hb2
  go_wp2
  go_ret
  exact ⟨r, rfl, HR.out, HB.out⟩
theorem timesW_snoc (X Y : List (List Int)) (k i : Nat) (h : i < X.length) : timesW (X.take (i + 1)) Y k = timesW (X.take i) Y k ++ Y.map (fun b => (X.getD i [] ++ b).take k) := by
  rw [List.take_succ_eq_append_getElem h, List.getD_eq_getElem?_getD, List.getElem?_eq_getElem h]
  unfold timesW
  rw [List.flatMap_append]
  simp only [Option.getD_some, List.flatMap_cons, List.flatMap_nil, List.append_nil]
theorem timesW_len (X Y : List (List Int)) (k : Nat) : (timesW X Y k).length = X.length * Y.length := by
  unfold timesW
  induction X with
  | nil => simp
  | cons a X ih => simp [List.flatMap_cons, ih, Nat.succ_mul, Nat.add_comm]
theorem map_snoc (Y : List (List Int)) (f : List Int → List Int) (j : Nat) (h : j < Y.length) : (Y.take (j + 1)).map f = (Y.take j).map f ++ [f (Y.getD j [])] := by
  rw [List.take_succ_eq_append_getElem h, List.getD_eq_getElem?_getD, List.getElem?_eq_getElem h, List.map_append]
  rfl
set_option maxRecDepth 100000 in
set_option maxHeartbeats 800000 in
theorem rtimes_any (w : World) (v u : Value) (L M : List (List Int)) (k : Int) (hv : WordsN w v L) (hu : WordsN w u M) (hL : L.length ≤ 30) (hM : M.length ≤ 30) (hl : ∀ x ∈ L, x.length ≤ 400) (hm : ∀ x ∈ M, x.length ≤ 400) : Calls Try.prog 26 #[v, u, .int .i64 k] w fun e w' => ∃ r, e = .returned r ∧ WordsN w' r (setW (timesW L M k.toNat)) ∧ Below w.heap.size w w' := by
  obtain ⟨ao, ca, rfl, hn, hc⟩ := hv
  obtain ⟨bo, cb, rfl, hn2, hc2⟩ := hu
  have HC := Lib.hid hc
  have HC2 := Lib.hid hc2
  have HL := Lib.hid hl
  have HM := Lib.hid hm
  clear hc hn hc2 hn2 hl hm
  go_enter Try.func26, Try.ntmps26
  go_wp2
  go_loopw [7, 8] (fun v i wr => ∃ n : Nat, i = .int .i64 n ∧ n ≤ L.length ∧ WordsN wr v (setW (timesW (L.take n) M k.toNat)) ∧ Below w.heap.size w wr) (fun _ i _ => L.length - (intOf i).toNat)
  case atStart => exact ⟨0, rfl, Nat.zero_le _, out_words (made_words w.heap.size w (Nat.le_refl _)), (Below.refl _ _).alloc (Nat.le_refl _) _⟩
  case round =>
    obtain ⟨n, rfl, hnL, hws, hb⟩ := hrel
    by_cases h2 : n < L.length
    · obtain ⟨a, va, rfl, hab, hca, hwa⟩ := HC.out n h2
      have hst := timesW_snoc L M k.toNat n h2
      have hlen : (timesW (L.take n) M k.toNat).length ≤ 900 := by
        rw [timesW_len]
        exact Nat.le_trans (Nat.mul_le_mul (show _ ≤ 30 by simp; omega) hM) (by decide)
      have hxl : (L.getD n []).length ≤ 400 := HL.out _ (by rw [List.getD_eq_getElem?_getD, List.getElem?_eq_getElem h2]; exact List.getElem_mem h2)
      generalize L.getD n [] = x at *
      generalize timesW (L.take n) M k.toNat = T at *
      have HS := Lib.hid hws
      have HB := Lib.hid hb
      have HX := Lib.hid hwa
      have HT := Lib.hid hst
      have HK := Lib.hid hca
      clear hws hb hwa hst hca
      obtain ⟨wo, rfl⟩ : ∃ wo : World, wo = wr := ⟨_, rfl⟩
      go_wp2
      go_loopw [7, 9] (fun v i wr => ∃ j : Nat, i = .int .i64 j ∧ j ≤ M.length ∧ WordsN wr v (setW (T ++ (M.take j).map (fun b => (x ++ b).take k.toNat))) ∧ Below w.heap.size w wr) (fun _ i _ => M.length - (intOf i).toNat)
      case atStart => exact ⟨0, rfl, Nat.zero_le _, by simpa using HS.out, HB.out⟩
      case round =>
        obtain ⟨j, rfl, hjM, hws, hb⟩ := hrel
        by_cases h3 : j < M.length
        · obtain ⟨b, vb, rfl, hbb, hcb, hwb⟩ := HC2.out j h3
          have ck : wr.cell? (a.add n) = some va := (hb.cell (p := a.add n) (by rw [add_block]; exact hab)).trans HK.out
          have cj : wr.cell? (b.add j) = some vb := (hb.cell (p := b.add j) (by rw [add_block]; exact hbb)).trans hcb
          have hst := map_snoc M (fun b => (x ++ b).take k.toNat) j h3
          have hyl : (M.getD j []).length ≤ 400 := HM.out _ (by rw [List.getD_eq_getElem?_getD, List.getElem?_eq_getElem h3]; exact List.getElem_mem h3)
          have hlen2 : (setW (T ++ (M.take j).map (fun b => (x ++ b).take k.toNat))).length ≤ 4000 := Nat.le_trans (setW_len _) (by simp; omega)
          generalize M.getD j [] = y at *
          have HW := Lib.hid hws
          have HBW := Lib.hid hb
          have HY := Lib.hid hwb
          have HN := Lib.hid hst
          have HLN := Lib.hid hlen2
          have hzw := hb.size
          clear hws hb hwb hst hlen2
          have hjq : ∀ wx, Qt wr wx → Calls Try.prog 15 #[va, vb, .int .i64 k] wx fun e w3 => ∃ z, e = .returned z ∧ WordN w3 z ((x ++ y).take k.toNat) ∧ Below wr.heap.size wr w3 := fun wx hq => (rjoinN_any wx va vb x y k (HX.out.below (HBW.out.trans (hq.below.mono hzw))) (HY.out.below (HBW.out.trans (hq.below.mono hzw))) hxl hyl).mono fun e w3 ⟨z, h1, h2, h3⟩ => ⟨z, h1, h2, hq.below.trans (h3.mono hq.below.size)⟩
          have haq : ∀ w3 z, Below wr.heap.size wr w3 → WordN w3 z ((x ++ y).take k.toNat) → Calls Try.prog 30 #[u7, z] w3 fun e w4 => ∃ r, e = .returned r ∧ WordsN w4 r (setW (T ++ (M.take (j + 1)).map (fun b => (x ++ b).take k.toNat))) ∧ Below wr.heap.size wr w4 := fun w3 z hb3 hz => by
            have hadd := radd_any w3 _ z _ _ (HW.out.below hb3) hz HLN.out (setW_up _)
            rw [← setW_snoc, List.append_assoc, ← HN.out] at hadd
            exact hadd.mono fun e w4 ⟨r, h1, h2, h3⟩ => ⟨r, h1, h2, hb3.trans (h3.mono hb3.size)⟩
          have hka : ∀ w3, Below wr.heap.size wr w3 → w3.cell? (a.add n) = some va ∧ w3.cell? (b.add j) = some vb := fun w3 hb3 => ⟨(hb3.cell (p := a.add n) (by rw [add_block]; omega)).trans ck, (hb3.cell (p := b.add j) (by rw [add_block]; omega)).trans cj⟩
          have HJ := Lib.hid hjq
          have HA := Lib.hid haq
          have HKA := Lib.hid hka
          clear hjq haq hka hcb
          go_wp2
          go_region_held3 (fun w' => w'.cell? (a.add n) = some va ∧ w'.cell? (b.add j) = some vb) (first | exact ⟨ck, cj⟩ | (refine HKA.out _ ?_; assumption))
            (first | (go_at_call 15; refine (HJ.out _ ?_).mono ?_; (first | exact ⟨1, rfl⟩ | exact ⟨0, rfl⟩); rintro e w3 ⟨z, rfl, hz, hb3⟩) | (go_at_call 30; refine (HA.out _ _ ?_ ?_).mono ?_; assumption; assumption; rintro e w4 ⟨r, rfl, hr, hb4⟩))
          all_goals
            have HR := Lib.hid hr
            have HB4 := Lib.hid (HBW.out.trans (hb4.mono hzw))
            clear hr hb4 hz hb3
            go_wp2
            exact ⟨⟨j + 1, congrArg (Value.int .i64) (by omega), h3, HR.out, HB4.out⟩, by simp only [intOf]; omega⟩
        · obtain rfl : j = M.length := by omega
          rw [List.take_length, ← HT.out] at hws
          have HR := Lib.hid hws
          have HB4 := Lib.hid hb
          clear hws hb
          go_wp2
          exact ⟨⟨n + 1, congrArg (Value.int .i64) (by omega), h2, HR.out, HB4.out⟩, by simp only [intOf]; omega⟩
    · obtain rfl : n = L.length := by omega
      rw [List.take_length] at hws
      have HX := Lib.hid hws
      clear hws
      go_wp2
      go_ret
      exact ⟨_, rfl, HX.out, hb⟩
end Go.Proofs.Ythcnffieoocnkaa.st
