import Derived.Test.YthcnffieoocnkaaSetx
namespace Go.Proofs.Ythcnffieoocnkaa.st
open Go.ChangeShapes Go.WideShapes Go.ChangeAt Go.RowKit Go.Maps Go.WideMaps Go.WideElems
set_option linter.unusedVariables false
theorem fineL {X : List (List Int)} (h : X.all (fun x => x.all (fun n => decide (-9223372036854775808 ≤ n) && decide (n < 9223372036854775808)) && decide (x.length ≤ 1000)) = true) : ∀ x ∈ X, Fine x := fun x hx => by
  have h1 := List.all_eq_true.1 h x hx
  simp only [Bool.and_eq_true, decide_eq_true_eq] at h1
  exact ⟨fun n hn => by have := List.all_eq_true.1 h1.1 n hn; simpa [In64] using this, h1.2⟩
theorem mem_of {A B : List (List Int)} (h : ((A.all fun x => decide (x ∈ B)) && (B.all fun x => decide (x ∈ A))) = true) : ∀ x, x ∈ A ↔ x ∈ B := fun x => by
  simp only [Bool.and_eq_true, List.all_eq_true, decide_eq_true_eq] at h
  exact ⟨h.1 x, h.2 x⟩
theorem in2 : In64 2 := ⟨by decide, by decide⟩
theorem up1 : Up [[1, 5], [2]] := by unfold Up; decide
theorem up2 : Up [[1, 5], [2], [2, 7]] := by unfold Up; decide
def X1 : List (List Int) := [[2], [1, 5], [2]]
def X2 : List (List Int) := [[], [7]]
set_option maxRecDepth 100000 in
set_option maxHeartbeats 1000000 in
theorem alive_any (w : World) : Calls Try.prog 8 #[] w fun e w' => e = .returned (.bool true) ∧ Below w.heap.size w w' := by
  have hw1 : ∀ W : World, WordsAt ((((W.alloc (.cells #[.int .i64 2] 3)).alloc (.cells #[.int .i64 1, .int .i64 5] 3)).alloc (.cells #[.int .i64 2] 3)).alloc (.cells #[.slice (some ⟨W.heap.size, 0, none⟩) 1 1, .slice (some ⟨W.heap.size + 1, 0, none⟩) 2 2, .slice (some ⟨W.heap.size + 1 + 1, 0, none⟩) 1 1] 22)) (.slice (some ⟨W.heap.size + 1 + 1 + 1, 0, none⟩) 3 3) X1 := fun W => by
    have a1 : Blk ((((W.alloc (.cells #[.int .i64 2] 3)).alloc (.cells #[.int .i64 1, .int .i64 5] 3)).alloc (.cells #[.int .i64 2] 3)).alloc (.cells #[.slice (some ⟨W.heap.size, 0, none⟩) 1 1, .slice (some ⟨W.heap.size + 1, 0, none⟩) 2 2, .slice (some ⟨W.heap.size + 1 + 1, 0, none⟩) 1 1] 22)) W.heap.size 3 (IV [2]).toArray := (((Blk.new W _ _).alloc _).alloc _).alloc _
    have a2 : Blk ((((W.alloc (.cells #[.int .i64 2] 3)).alloc (.cells #[.int .i64 1, .int .i64 5] 3)).alloc (.cells #[.int .i64 2] 3)).alloc (.cells #[.slice (some ⟨W.heap.size, 0, none⟩) 1 1, .slice (some ⟨W.heap.size + 1, 0, none⟩) 2 2, .slice (some ⟨W.heap.size + 1 + 1, 0, none⟩) 1 1] 22)) (W.heap.size + 1) 3 (IV [1, 5]).toArray := ((blk_new' (by simp)).alloc _).alloc _
    have a3 : Blk ((((W.alloc (.cells #[.int .i64 2] 3)).alloc (.cells #[.int .i64 1, .int .i64 5] 3)).alloc (.cells #[.int .i64 2] 3)).alloc (.cells #[.slice (some ⟨W.heap.size, 0, none⟩) 1 1, .slice (some ⟨W.heap.size + 1, 0, none⟩) 2 2, .slice (some ⟨W.heap.size + 1 + 1, 0, none⟩) 1 1] 22)) (W.heap.size + 1 + 1) 3 (IV [2]).toArray := (blk_new' (by simp)).alloc _
    have a4 : Blk ((((W.alloc (.cells #[.int .i64 2] 3)).alloc (.cells #[.int .i64 1, .int .i64 5] 3)).alloc (.cells #[.int .i64 2] 3)).alloc (.cells #[.slice (some ⟨W.heap.size, 0, none⟩) 1 1, .slice (some ⟨W.heap.size + 1, 0, none⟩) 2 2, .slice (some ⟨W.heap.size + 1 + 1, 0, none⟩) 1 1] 22)) (W.heap.size + 1 + 1 + 1) 22 [.slice (some ⟨W.heap.size, 0, none⟩) 1 1, .slice (some ⟨W.heap.size + 1, 0, none⟩) 2 2, .slice (some ⟨W.heap.size + 1 + 1, 0, none⟩) 1 1].toArray := blk_new' (by simp)
    refine words_blk (xss := X1) a4 rfl fun i hi => ?_
    have hi3 : i < 3 := hi
    have f := fineL (X := X1) (by decide)
    match i, hi3 with
    | 0, _ => exact ⟨_, rfl, word_blk a1 (f [2] (by simp [X1])).1, by decide⟩
    | 1, _ => exact ⟨_, rfl, word_blk a2 (f [1, 5] (by simp [X1])).1, by decide⟩
    | 2, _ => exact ⟨_, rfl, word_blk a3 (f [2] (by simp [X1])).1, by decide⟩
  have hO1 := of_x _ _ X1 (hw1 w) (fineL (by decide)) (by decide)
  have HW := Lib.hid hw1
  clear hw1
  go_enter Try.func8, Try.ntmps8
  go_wp2_with fail
  refine hO1.mono ?_
  rintro e w1 ⟨s, mo, Ks, rfl, hs, hsl, hb1⟩
  clear hO1
  have hw2 : WordsAt (((w1.alloc (.cells #[] 3)).alloc (.cells #[.int .i64 7] 3)).alloc (.cells #[.slice (some ⟨w1.heap.size, 0, none⟩) 0 0, .slice (some ⟨w1.heap.size + 1, 0, none⟩) 1 1] 22)) (.slice (some ⟨w1.heap.size + 1 + 1, 0, none⟩) 2 2) X2 := by
    have a1 : Blk (((w1.alloc (.cells #[] 3)).alloc (.cells #[.int .i64 7] 3)).alloc (.cells #[.slice (some ⟨w1.heap.size, 0, none⟩) 0 0, .slice (some ⟨w1.heap.size + 1, 0, none⟩) 1 1] 22)) w1.heap.size 3 (IV []).toArray := ((Blk.new w1 _ _).alloc _).alloc _
    have a2 : Blk (((w1.alloc (.cells #[] 3)).alloc (.cells #[.int .i64 7] 3)).alloc (.cells #[.slice (some ⟨w1.heap.size, 0, none⟩) 0 0, .slice (some ⟨w1.heap.size + 1, 0, none⟩) 1 1] 22)) (w1.heap.size + 1) 3 (IV [7]).toArray := (blk_new' (by simp)).alloc _
    have a4 : Blk (((w1.alloc (.cells #[] 3)).alloc (.cells #[.int .i64 7] 3)).alloc (.cells #[.slice (some ⟨w1.heap.size, 0, none⟩) 0 0, .slice (some ⟨w1.heap.size + 1, 0, none⟩) 1 1] 22)) (w1.heap.size + 1 + 1) 22 [.slice (some ⟨w1.heap.size, 0, none⟩) 0 0, .slice (some ⟨w1.heap.size + 1, 0, none⟩) 1 1].toArray := blk_new' (by simp)
    refine words_blk (xss := X2) a4 rfl fun i hi => ?_
    have hi3 : i < 2 := hi
    have f := fineL (X := X2) (by decide)
    match i, hi3 with
    | 0, _ => exact ⟨_, rfl, word_blk a1 (f [] (by simp [X2])).1, by decide⟩
    | 1, _ => exact ⟨_, rfl, word_blk a2 (f [7] (by simp [X2])).1, by decide⟩
  have hO2 := of_x _ _ X2 hw2 (fineL (by decide)) (by decide)
  have hB1 : Below w.heap.size w w1 := (((((Below.refl _ _).alloc (Nat.le_refl _) _).alloc (by simp) _).alloc (by simp; omega) _).alloc (by simp; omega) _).trans (hb1.mono (by simp; omega))
  clear hw2
  go_wp2_with fail
  refine hO2.mono ?_
  rintro e w2 ⟨t, mt, Kt, rfl, ht, htl, hb2⟩
  clear hO2
  have hz2 := hb2.size
  have hb12 : Below w1.heap.size w1 w2 := ((((Below.refl _ _).alloc (Nat.le_refl _) _).alloc (by simp) _).alloc (by simp; omega) _).trans (hb2.mono (by simp; omega))
  have hs2 := hs.below hb12
  have hB2 := hB1.trans (hb12.mono hB1.size)
  have hKs : Ks.length = 2 := keys_len (Y := [[1, 5], [2]]) hs2.set.nodup hs2.keys up1 (mem_of (by decide))
  have hl := len_any w2 s mo Ks hs2.set
  rw [hKs] at hl
  have hT := times_x w2 s t mo mt X1 X2 Ks Kt 2 hs2 ht (by decide) in2 (by rw [hKs]; have : Kt.length ≤ 2 := htl; omega)
  have hn1 := run_eql_ptr_nil s
  have hn2 := run_eql_ptr_nil t
  have HS2 := Lib.hid hs2
  have HT2 := Lib.hid ht
  have HB2 := Lib.hid hB2
  have HKs := Lib.hid hKs
  clear hs hs2 ht hB1 hB2 hb1 hb2 hb12 hz2 hKs
  go_wp2_with (first | (go_at_call 21; refine hl.mono ?_; rintro e w3 ⟨rfl, rfl⟩) | (go_at_call 25; refine hT.mono ?_; rintro e w3 ⟨o, m2, Ko, rfl, ho, hol, hb3⟩; have hn3 := run_eql_ptr_nil o))
  clear hT hl
  have b1 : Below w2.heap.size w2 w3 := hb3
  have hs3 := HS2.out.below b1
  have ht3 := HT2.out.below b1
  have hA1 := all_x w3 s mo Ks X1 [[1, 5], [2]] hs3 up1 (mem_of (by decide))
  clear hb3 hn3 ho hol
  refine hA1.mono ?_
  rintro e w4 ⟨v1, rfl, _, hv1, hb4⟩
  clear hA1
  have hl2 := lit2 w4 [1, 5] [2] (fineL (X := [[1, 5], [2]]) (by decide) _ (by simp)) (fineL (X := [[1, 5], [2]]) (by decide) _ (by simp))
  have c4 : Below w4.heap.size w4 (((w4.alloc (.cells #[.int .i64 1, .int .i64 5] 3)).alloc (.cells #[.int .i64 2] 3)).alloc (.cells #[.slice (some ⟨w4.heap.size, 0, none⟩) 2 2, .slice (some ⟨w4.heap.size + 1, 0, none⟩) 1 1] 22)) := (((Below.refl _ _).alloc (Nat.le_refl _) _).alloc (by simp) _).alloc (by simp; omega) _
  have hK1 := alike_any _ v1 _ _ _ (hv1.below c4) hl2 (by decide) (by decide)
  rw [show decide (([[1, 5], [2]] : List (List Int)) = [[1, 5], [2]]) = true from rfl] at hK1
  have hs4 := (hs3.below hb4).below c4
  have ht4 := (ht3.below hb4).below c4
  have d4 := (b1.trans (hb4.mono b1.size)).trans (c4.mono (Nat.le_trans b1.size hb4.size))
  have HK1 := Lib.hid hK1
  have HS4 := Lib.hid hs4
  have HT4 := Lib.hid ht4
  have HD4 := Lib.hid d4
  clear hl2 c4 hK1 hs4 ht4 hs3 ht3 d4 hb4 b1 hv1
  go_wp2_with fail
  refine HK1.out.mono ?_
  rintro e w5 ⟨rfl, hq5⟩
  have hq5 : Qt _ w5 := hq5
  have hs5 := HS4.out.below hq5.below
  have ht5 := HT4.out.below hq5.below
  have d5 := HD4.out.trans (hq5.below.mono HD4.out.size)
  have hT := times_x w5 s t mo mt X1 X2 Ks Kt 2 hs5 ht5 (by decide) in2 (by rw [HKs.out]; have : Kt.length ≤ 2 := htl; omega)
  have HD5 := Lib.hid d5
  clear d5 hs5 ht5 hq5
  go_wp2_with fail
  refine hT.mono ?_
  rintro e w6 ⟨o2, m3, Ko2, rfl, ho2, _, hb6⟩
  clear hT
  have hA2 := all_x w6 o2 m3 Ko2 (timesW X1 X2 2) [[1, 5], [2], [2, 7]] ho2 up2 (mem_of (by decide))
  go_wp2_with fail
  refine hA2.mono ?_
  rintro e w7 ⟨v2, rfl, _, hv2, hb7⟩
  clear hA2
  have hl3 := lit3 w7 [1, 5] [2] [2, 7] (fineL (X := [[1, 5], [2], [2, 7]]) (by decide) _ (by simp)) (fineL (X := [[1, 5], [2], [2, 7]]) (by decide) _ (by simp)) (fineL (X := [[1, 5], [2], [2, 7]]) (by decide) _ (by simp))
  have c7 : Below w7.heap.size w7 ((((w7.alloc (.cells #[.int .i64 1, .int .i64 5] 3)).alloc (.cells #[.int .i64 2] 3)).alloc (.cells #[.int .i64 2, .int .i64 7] 3)).alloc (.cells #[.slice (some ⟨w7.heap.size, 0, none⟩) 2 2, .slice (some ⟨w7.heap.size + 1, 0, none⟩) 1 1, .slice (some ⟨w7.heap.size + 1 + 1, 0, none⟩) 2 2] 22)) := ((((Below.refl _ _).alloc (Nat.le_refl _) _).alloc (by simp) _).alloc (by simp; omega) _).alloc (by simp; omega) _
  have hK2 := alike_any _ v2 _ _ _ (hv2.below c7) hl3 (by decide) (by decide)
  rw [show decide (([[1, 5], [2], [2, 7]] : List (List Int)) = [[1, 5], [2], [2, 7]]) = true from rfl] at hK2
  have d7 := ((HD5.out.trans (hb6.mono HD5.out.size)).trans (hb7.mono (Nat.le_trans HD5.out.size hb6.size))).trans (c7.mono (Nat.le_trans (Nat.le_trans HD5.out.size hb6.size) hb7.size))
  have HK2 := Lib.hid hK2
  have HD7 := Lib.hid d7
  clear hl3 c7 hK2 d7 hb6 hb7 hv2 ho2
  go_wp2_with fail
  refine HK2.out.mono ?_
  rintro e w8 ⟨rfl, hq8⟩
  have hq8 : Qt _ w8 := hq8
  have d8 := HD7.out.trans (hq8.below.mono HD7.out.size)
  have HD8 := Lib.hid d8
  clear d8 hq8
  go_wp2_with fail
  have e1 : Blk ((w8.alloc (.cells #[.int .i64 1] 3)).alloc (.cells #[.int .i64 1, .int .i64 0] 3)) w8.heap.size 3 (IV [1]).toArray := (Blk.new w8 _ _).alloc _
  have e2 : Blk ((w8.alloc (.cells #[.int .i64 1] 3)).alloc (.cells #[.int .i64 1, .int .i64 0] 3)) (w8.heap.size + 1) 3 (IV [1, 0]).toArray := blk_new' (by simp)
  have hC := compare_any _ _ _ _ _ (word_blk e1 (fineL (X := [[1]]) (by decide) _ (by simp)).1) (word_blk e2 (fineL (X := [[1, 0]]) (by decide) _ (by simp)).1) (by decide) (by decide)
  rw [show cmpW [1] [1, 0] = -1 from rfl] at hC
  have d9 : Below w8.heap.size w8 ((w8.alloc (.cells #[.int .i64 1] 3)).alloc (.cells #[.int .i64 1, .int .i64 0] 3)) := ((Below.refl _ _).alloc (Nat.le_refl _) _).alloc (by simp) _
  have HD9 := Lib.hid (HD8.out.trans (d9.mono HD8.out.size))
  clear e1 e2 d9
  refine hC.mono ?_
  rintro e w9 ⟨rfl, hq9⟩
  have hq9 : Qt _ w9 := hq9
  have HD10 := Lib.hid (HD9.out.trans (hq9.below.mono HD9.out.size))
  clear hq9 hC
  go_wp2_with fail
  have e1 : Blk ((w9.alloc (.cells #[.int .i64 1] 3)).alloc (.cells #[.int .i64 2, .int .i64 3] 3)) w9.heap.size 3 (IV [1]).toArray := (Blk.new w9 _ _).alloc _
  have e2 : Blk ((w9.alloc (.cells #[.int .i64 1] 3)).alloc (.cells #[.int .i64 2, .int .i64 3] 3)) (w9.heap.size + 1) 3 (IV [2, 3]).toArray := blk_new' (by simp)
  have hJ := join_any _ _ _ _ _ [1] [2, 3] 2 (word_blk e1 (fineL (X := [[1]]) (by decide) _ (by simp)).1) (word_blk e2 (fineL (X := [[2, 3]]) (by decide) _ (by simp)).1) (by decide) (by decide) (by decide) (by decide) (by simp) (by simp) in2
  have d9 : Below w9.heap.size w9 ((w9.alloc (.cells #[.int .i64 1] 3)).alloc (.cells #[.int .i64 2, .int .i64 3] 3)) := ((Below.refl _ _).alloc (Nat.le_refl _) _).alloc (by simp) _
  have HD11 := Lib.hid (HD10.out.trans (d9.mono HD10.out.size))
  clear e1 e2 d9
  refine hJ.mono ?_
  rintro e w10 ⟨v3, rfl, hv3, hb10⟩
  clear hJ
  have e1 : Blk (w10.alloc (.cells #[.int .i64 1, .int .i64 2] 3)) w10.heap.size 3 (IV [1, 2]).toArray := Blk.new w10 _ _
  have d9 : Below w10.heap.size w10 (w10.alloc (.cells #[.int .i64 1, .int .i64 2] 3)) := (Below.refl _ _).alloc (Nat.le_refl _) _
  have hS := rsame_any _ v3 _ _ _ (hv3.below d9) (word_blk e1 (fineL (X := [[1, 2]]) (by decide) _ (by simp)).1) (by decide) (by decide)
  rw [show decide (([1] ++ [2, 3] : List Int).take (2 : Int).toNat = [1, 2]) = true from rfl] at hS
  have HD12 := Lib.hid ((HD11.out.trans (hb10.mono HD11.out.size)).trans (d9.mono (Nat.le_trans HD11.out.size hb10.size)))
  clear e1 d9 hb10 hv3
  go_wp2_with fail
  refine hS.mono ?_
  rintro e w11 ⟨rfl, hq11⟩
  have hq11 : Qt _ w11 := hq11
  have HD13 := Lib.hid (HD12.out.trans (hq11.below.mono HD12.out.size))
  clear hq11 hS
  go_wp2_with fail
  go_ret
  exact ⟨rfl, HB2.out.trans (HD13.out.mono HB2.out.size)⟩
end Go.Proofs.Ythcnffieoocnkaa.st
