import Derived.Test.YtjddjdpgnoebnaaGreatDoorLxp
namespace Go.Proofs.YtjddjdpgnoebnaaGreatDoor.lx
open Go.ChangeShapes Go.WideShapes Go.ChangeAt Go.RowKit
set_option linter.unusedVariables false
attribute [local go_sem] run_store_float
theorem joined (s t : ByteArray) : ((s ++ ByteArray.mk #[10]) ++ t).data.toList = joinT s.data.toList t.data.toList := by
  unfold joinT
  simp
theorem own_form {w : World} {base size n : Nat} {e : TypeId} {v : Value} {xs : List Value} (h : w.ownsRow base e size v n xs) : ∃ ao cap, v = .slice ao n cap := by
  obtain ⟨hl, ⟨h1, h2⟩ | ⟨g, cap, cur, hv, r⟩⟩ := h
  · exact ⟨none, 0, by rw [h1, h2]⟩
  · exact ⟨_, _, hv⟩
/-- a list of words in memory -/
def ListT (w : World) (v : Value) (ts : List Tok) : Prop := ∃ ao cap, v = .slice ao ts.length cap ∧ (0 < ts.length → ∃ g, ao = some ⟨g, 0, none⟩ ∧ g < w.heap.size ∧ ∀ j u, (tcells ts)[j]? = some u → w.cell? ⟨g, j, none⟩ = some u)
theorem ListT.of_own {w : World} {B : Nat} {v : Value} {ts : List Tok} (h : w.ownsRow B 36 4 v ts.length (tcells ts)) : ListT w v ts := by
  by_cases h0 : 0 < ts.length
  · obtain ⟨g, cap, e, _, hg, hc⟩ := own_open h h0
    exact ⟨_, cap, e, fun _ => ⟨g, rfl, hg, hc⟩⟩
  · obtain ⟨ao, cap, e⟩ := own_form h
    exact ⟨ao, cap, e, fun h => absurd h h0⟩
theorem ListT.below {w w' : World} {v : Value} {ts : List Tok} (h : ListT w v ts) (hb : Below w.heap.size w w') : ListT w' v ts := by
  obtain ⟨ao, cap, e, h⟩ := h
  refine ⟨ao, cap, e, fun h0 => ?_⟩
  obtain ⟨g, e2, hg, hc⟩ := h h0
  exact ⟨g, e2, Nat.lt_of_lt_of_le hg hb.size, fun j u hj => (hb.cell (p := ⟨g, j, none⟩) hg).trans (hc j u hj)⟩
theorem tcells_at : ∀ (ts : List Tok) (k j : Nat), k < ts.length → j < 4 → (tcells ts)[k * 4 + j]? = (tokC (ts.getD k ⟨0, 0, [], 0⟩))[j]?
  | [], k, j, h, _ => by simp at h
  | t :: ts, 0, j, h, hj => by
    have : tcells (t :: ts) = tokC t ++ tcells ts := rfl
    rw [this, Nat.zero_mul, Nat.zero_add, List.getElem?_append_left (by simp [tokC]; omega)]
    rfl
  | t :: ts, k + 1, j, h, hj => by
    have : tcells (t :: ts) = tokC t ++ tcells ts := rfl
    have hl : (tokC t).length = 4 := rfl
    rw [this, List.getElem?_append_right (by omega), show (k + 1) * 4 + j - (tokC t).length = k * 4 + j from by omega, tcells_at ts k j (by simpa using h) hj]
    rfl
theorem getT_mem {ts : List Tok} {k : Nat} (h : k < ts.length) : ts.getD k ⟨0, 0, [], 0⟩ ∈ ts := by
  rw [List.getD_eq_getElem?_getD, List.getElem?_eq_getElem h]
  exact List.getElem_mem h
theorem Vs.alloc {w : World} {b off : Nat} (h : Vs w b off) (o : Obj) : Vs (w.alloc o) b off := h.below ((Below.refl _ _).alloc (Nat.le_refl _) _)
set_option maxRecDepth 100000 in
set_option maxHeartbeats 4000000 in
theorem joins_all (s t : ByteArray) (hs : s.size ≤ maxLen) (ht : t.size ≤ maxLen) (w : World) (b off : Nat) (hv : Vs w b off) : Calls Tryz.prog 6 #[.string s, .string t] w fun e w' => e = .returned (.bool true) ∧ Below w.heap.size w w' := by
  have hal := alive_any w b off hv
  have HV := Lib.hid hv
  have HMS := Lib.hid hs
  have HMT := Lib.hid ht
  unfold maxLen at hs ht
  clear hv
  by_cases hbig : 600 < s.size ∨ 600 < t.size
  · rcases hbig with hbig | hbig
    · go_enter Tryz.func6, Tryz.ntmps6
      go_wp2_with fail
      refine hal.mono ?_
      rintro e w1 ⟨rfl, hb1⟩
      have HB1 := Lib.hid hb1
      clear hal hb1
      go_wp2_with fail
      go_ret
      exact ⟨rfl, HB1.out⟩
    · by_cases hbig2 : 600 < s.size
      all_goals
        go_enter Tryz.func6, Tryz.ntmps6
        go_wp2_with fail
        refine hal.mono ?_
        rintro e w1 ⟨rfl, hb1⟩
        have HB1 := Lib.hid hb1
        clear hal hb1
        go_wp2_with fail
        go_ret
        exact ⟨rfl, HB1.out⟩
  · have hsl : s.data.toList.length = s.size := by simp
    have htl : t.data.toList.length = t.size := by simp
    have hs6 : s.size ≤ 600 := by omega
    have ht6 : t.size ≤ 600 := by omega
    clear hbig
    have hjn := lex_join s.data.toList t.data.toList (by omega) (by omega)
    rw [hsl, htl] at hjn
    clear hsl htl
    have a1 := fun w h => all_any s HMS.out w b off h
    have a2 := fun w h => all_any t HMT.out w b off h
    have a3 := fun w h => all_any ((s ++ ByteArray.mk #[10]) ++ t) (by have e1 : (ByteArray.mk #[10]).size = 1 := rfl; rw [ByteArray.size_append, ByteArray.size_append, e1]; unfold maxLen; omega) w b off h
    have HA1 := Lib.hid a1
    have HA2 := Lib.hid a2
    have HA3 := Lib.hid a3
    have HJ := Lib.hid (joined s t)
    clear a1 a2 a3
    rcases hjn with ⟨e, k, ⟨he, hk⟩, ea, ej⟩ | ⟨x, e, k, ⟨he, hk⟩, ⟨hx, hxl⟩, ea, eb, ej⟩ | ⟨x, y, ⟨hx, hxl, hxa⟩, ⟨hy, hyl, hya⟩, ea, eb, ej⟩
    · have HEA := Lib.hid ea
      have HEJ := Lib.hid ej
      have m1 : ((e : Int) != 0) = true := by rw [bne_iff_ne]; omega
      clear ea ej he
      go_enter Tryz.func6, Tryz.ntmps6
      go_wp2_with fail
      refine hal.mono ?_
      rintro e1 w1 ⟨rfl, hb1⟩
      have HB1 := Lib.hid hb1
      clear hal hb1
      go_wp2_with fail
      refine (HA1.out _ (HV.out.below HB1.out)).mono ?_
      rintro e1 w2 ⟨hall, hb2⟩
      unfold AllV at hall
      rw [HEA.out] at hall
      obtain ⟨v1, rfl, ho1⟩ := hall
      have HB2 := Lib.hid (HB1.out.trans (hb2.mono HB1.out.size))
      have hz2 := HB2.out.size
      clear hb2 ho1
      go_wp2_with fail
      refine (HA2.out _ ((HV.out.below HB2.out).alloc _)).mono ?_
      rintro e1 w3 ⟨hall, hb3⟩
      unfold AllV at hall
      obtain ⟨v2, rfl, ho2⟩ := hall
      generalize (((lexAll t.data.toList).2.1 : Nat) : Int) = E2
      generalize (((lexAll t.data.toList).2.2 : Nat) : Int) = A2
      have HF2 := Lib.hid (Blk.below (Blk.new w2 26 #[.int .i64 e, .int .i64 k]) hb3 (by simp))
      have HB3 := Lib.hid ((HB2.out.alloc hz2 _).trans (hb3.mono (by simp; omega)))
      have hz3 : w2.heap.size < w3.heap.size := by have := hb3.size; simp at this; omega
      have hz3' : w.heap.size ≤ w3.heap.size := by omega
      clear hb3 ho2
      go_wp2_with fail
      refine (HA3.out _ ((HV.out.below HB3.out).alloc _)).mono ?_
      rintro e1 w4 ⟨hall, hb4⟩
      unfold AllV at hall
      rw [HJ.out, HEJ.out] at hall
      obtain ⟨v3, rfl, ho3⟩ := hall
      obtain ⟨ao3, cap3, rfl⟩ := own_form ho3
      have hF2 : Blk w4 w2.heap.size 26 #[.int .i64 e, .int .i64 k] := Blk.below (HF2.out.alloc _) hb4 (by simp; omega)
      have f0 : w4.cell? ⟨w2.heap.size, 0, none⟩ = some (.int .i64 e) := hF2.cell 0
      have f1 : w4.cell? ⟨w2.heap.size, 1, none⟩ = some (.int .i64 k) := hF2.cell 1
      have HB4 := Lib.hid ((HB3.out.alloc hz3' _).trans (hb4.mono (by simp; omega)))
      have hz4 : w3.heap.size < w4.heap.size := by have := hb4.size; simp at this; omega
      have hz5 : w2.heap.size < w4.heap.size := by omega
      have hz5' : w.heap.size ≤ w4.heap.size := by omega
      clear hb4 ho3 hF2
      go_wp2_with fail
      go_ret
      exact ⟨rfl, HB4.out.alloc hz5' _⟩
    · have HEA := Lib.hid ea
      have HEB := Lib.hid eb
      have HEJ := Lib.hid ej
      have m1 : ((e : Int) != 0) = true := by rw [bne_iff_ne]; omega
      clear ea eb ej he hx hxl
      go_enter Tryz.func6, Tryz.ntmps6
      go_wp2_with fail
      refine hal.mono ?_
      rintro e1 w1 ⟨rfl, hb1⟩
      have HB1 := Lib.hid hb1
      clear hal hb1
      go_wp2_with fail
      refine (HA1.out _ (HV.out.below HB1.out)).mono ?_
      rintro e1 w2 ⟨hall, hb2⟩
      unfold AllV at hall
      rw [HEA.out] at hall
      obtain ⟨v1, rfl, ho1⟩ := hall
      have HB2 := Lib.hid (HB1.out.trans (hb2.mono HB1.out.size))
      have hz2 := HB2.out.size
      clear hb2 ho1
      go_wp2_with fail
      refine (HA2.out _ ((HV.out.below HB2.out).alloc _)).mono ?_
      rintro e1 w3 ⟨hall, hb3⟩
      unfold AllV at hall
      rw [HEB.out] at hall
      obtain ⟨v2, rfl, ho2⟩ := hall
      have HF2 := Lib.hid (Blk.below (Blk.new w2 26 #[.int .i64 0, .int .i64 0]) hb3 (by simp))
      have HB3 := Lib.hid ((HB2.out.alloc hz2 _).trans (hb3.mono (by simp; omega)))
      have hz3 : w2.heap.size < w3.heap.size := by have := hb3.size; simp at this; omega
      have hz3' : w.heap.size ≤ w3.heap.size := by omega
      clear hb3 ho2
      go_wp2_with fail
      refine (HA3.out _ ((HV.out.below HB3.out).alloc _)).mono ?_
      rintro e1 w4 ⟨hall, hb4⟩
      unfold AllV at hall
      rw [HJ.out, HEJ.out] at hall
      obtain ⟨v3, rfl, ho3⟩ := hall
      have hF2 : Blk w4 w2.heap.size 26 #[.int .i64 0, .int .i64 0] := Blk.below (HF2.out.alloc _) hb4 (by simp; omega)
      have f0 := hF2.cell 0
      have f1 := hF2.cell 1
      have hF3 : Blk w4 w3.heap.size 26 #[.int .i64 e, .int .i64 k] := Blk.below (Blk.new w3 _ _) hb4 (by simp)
      have f2 := hF3.cell 0
      have f3 := hF3.cell 1
      simp only [List.getElem?_toArray, List.getElem?_cons_zero, List.getElem?_cons_succ] at f0 f1 f2 f3
      have HB4 := Lib.hid ((HB3.out.alloc hz3' _).trans (hb4.mono (by simp; omega)))
      have hz4 : w3.heap.size < w4.heap.size := by have := hb4.size; simp at this; omega
      have hz5 : w2.heap.size < w4.heap.size := by omega
      have hz5' : w.heap.size ≤ w4.heap.size := by omega
      obtain ⟨ao3, cap3, rfl⟩ := own_form ho3
      clear hb4 ho3 hF2 hF3
      go_wp2_with fail
      go_ret
      exact ⟨rfl, HB4.out.alloc hz5' _⟩
    · have HEA := Lib.hid ea
      have HEB := Lib.hid eb
      have HEJ := Lib.hid ej
      have hx0 : 0 < x.length := List.length_pos_iff.2 hx
      have hy0 : 0 < y.length := List.length_pos_iff.2 hy
      have hz0 : (x.dropLast ++ y.map (shT (s.size + 1))).length = x.length - 1 + y.length := by simp
      have HZ0 := Lib.hid hz0
      have HYA := Lib.hid hya
      have HXA := Lib.hid hxa
      clear ea eb ej hx hy hz0 hya hxa
      go_enter Tryz.func6, Tryz.ntmps6
      go_wp2_with fail
      refine hal.mono ?_
      rintro e1 w1 ⟨rfl, hb1⟩
      have HB1 := Lib.hid hb1
      clear hal hb1
      go_wp2_with fail
      refine (HA1.out _ (HV.out.below HB1.out)).mono ?_
      rintro e1 w2 ⟨hall, hb2⟩
      unfold AllV at hall
      rw [HEA.out] at hall
      obtain ⟨v1, rfl, ho1⟩ := hall
      have HB2 := Lib.hid (HB1.out.trans (hb2.mono HB1.out.size))
      have hz2 := HB2.out.size
      have HT1 := Lib.hid (ListT.of_own ho1)
      clear hb2 ho1
      go_wp2_with fail
      refine (HA2.out _ ((HV.out.below HB2.out).alloc _)).mono ?_
      rintro e1 w3 ⟨hall, hb3⟩
      unfold AllV at hall
      rw [HEB.out] at hall
      obtain ⟨v2, rfl, ho2⟩ := hall
      have HF2 := Lib.hid (Blk.below (Blk.new w2 26 #[.int .i64 0, .int .i64 0]) hb3 (by simp))
      have HB3 := Lib.hid ((HB2.out.alloc hz2 _).trans (hb3.mono (by simp; omega)))
      have hz3 : w2.heap.size < w3.heap.size := by have := hb3.size; simp at this; omega
      have hz3' : w.heap.size ≤ w3.heap.size := by omega
      have HT1' := Lib.hid ((HT1.out.below ((Below.refl _ _).alloc (Nat.le_refl _) _)).below hb3)
      have HT2 := Lib.hid (ListT.of_own ho2)
      clear hb3 ho2
      go_wp2_with fail
      refine (HA3.out _ ((HV.out.below HB3.out).alloc _)).mono ?_
      rintro e1 w4 ⟨hall, hb4⟩
      unfold AllV at hall
      rw [HJ.out, HEJ.out] at hall
      obtain ⟨v3, rfl, ho3⟩ := hall
      have hF2 : Blk w4 w2.heap.size 26 #[.int .i64 0, .int .i64 0] := Blk.below (HF2.out.alloc _) hb4 (by simp; omega)
      have f0 := hF2.cell 0
      have f1 := hF2.cell 1
      have hF3 : Blk w4 w3.heap.size 26 #[.int .i64 0, .int .i64 0] := Blk.below (Blk.new w3 _ _) hb4 (by simp)
      have f2 := hF3.cell 0
      have f3 := hF3.cell 1
      simp only [List.getElem?_toArray, List.getElem?_cons_zero, List.getElem?_cons_succ] at f0 f1 f2 f3
      have HB4 := Lib.hid ((HB3.out.alloc hz3' _).trans (hb4.mono (by simp; omega)))
      have hz4 : w3.heap.size < w4.heap.size := by have := hb4.size; simp at this; omega
      have hz5 : w2.heap.size < w4.heap.size := by omega
      have hz5' : w.heap.size ≤ w4.heap.size := by omega
      have HT1'' := Lib.hid ((HT1'.out.below ((Below.refl _ _).alloc (Nat.le_refl _) _)).below hb4)
      have HT2' := Lib.hid ((HT2.out.below ((Below.refl _ _).alloc (Nat.le_refl _) _)).below hb4)
      have HT3 := Lib.hid (ListT.of_own ho3)
      obtain ⟨o1, cap1, rfl, hl1⟩ := HT1''.out
      obtain ⟨g1, rfl, hg1, hc1⟩ := hl1 hx0
      obtain ⟨o2, cap2, rfl, hl2⟩ := HT2'.out
      obtain ⟨g2, rfl, hg2, hc2⟩ := hl2 hy0
      obtain ⟨o3, cap3, rfl, hl3⟩ := HT3.out
      obtain ⟨g3, rfl, hg3, hc3⟩ := hl3 (by rw [HZ0.out]; omega)
      obtain ⟨nz, hnz⟩ : ∃ nz, nz = (x.dropLast ++ y.map (shT (s.size + 1))).length := ⟨_, rfl⟩
      have hnz2 : nz + 1 = x.length + y.length := by rw [hnz, HZ0.out]; omega
      rw [← hnz]
      have HC1 := Lib.hid hc1
      have HC2 := Lib.hid hc2
      have HC3 := Lib.hid hc3
      have HNZ := Lib.hid hnz
      have m2 : ((nz : Int) != (x.length : Int) + y.length - 1) = false := by rw [bne_eq_false_iff_eq]; omega
      have m3 : ((x.length : Int) == 0) = false := by rw [beq_eq_false_iff_ne]; omega
      have hnz3 : nz + 1 ≤ x.length + y.length := by omega
      have hnz4 : x.length + y.length ≤ nz + 1 := by omega
      clear hl1 hl2 hl3 hc1 hc2 hc3 hnz hnz2
      clear hb4 ho3 hF2 hF3
      go_wp2_with fail
      have HW := Lib.hid (HB4.out.alloc hz5' (.cells #[.int .i64 0, .int .i64 0] 26))
      go_loopw [94] (fun i wr => ∃ k : Nat, i = .int .i64 k ∧ k ≤ nz ∧ Below w4.heap.size w4 wr) (fun i _ => nz - (intOf i).toNat)
      case atStart => exact ⟨0, rfl, Nat.zero_le _, (Below.refl _ _).alloc (Nat.le_refl _) _⟩
      case round =>
        obtain ⟨k, rfl, hk, hbr⟩ := hrel
        have hzr := hbr.size
        by_cases hlt : k < nz
        · by_cases hkx : k + 1 < x.length
          · have hzt : (x.dropLast ++ y.map (shT (s.size + 1))).getD k ⟨0, 0, [], 0⟩ = x.getD k ⟨0, 0, [], 0⟩ := by
              rw [List.getD_eq_getElem?_getD, List.getD_eq_getElem?_getD, List.getElem?_append_left (by simp; omega), List.getElem?_dropLast, if_pos (by omega)]
            have hz : ∀ j, j < 4 → wr.cell? ⟨g3, k * 4 + j, none⟩ = (tokC (x.getD k ⟨0, 0, [], 0⟩))[j]? := fun j hj => by
              have h1 := tcells_at (x.dropLast ++ y.map (shT (s.size + 1))) k j (by rw [← HNZ.out]; exact hlt) hj
              rw [hzt] at h1
              obtain ⟨u, hu⟩ : ∃ u, (tokC (x.getD k ⟨0, 0, [], 0⟩))[j]? = some u := ⟨_, List.getElem?_eq_getElem (by simpa [tokC] using hj)⟩
              rw [hu] at h1 ⊢
              exact (hbr.cell (p := ⟨g3, k * 4 + j, none⟩) hg3).trans (HC3.out _ u h1)
            have hx1 : ∀ j, j < 4 → wr.cell? ⟨g1, k * 4 + j, none⟩ = (tokC (x.getD k ⟨0, 0, [], 0⟩))[j]? := fun j hj => by
              have h1 := tcells_at x k j (by omega) hj
              obtain ⟨u, hu⟩ : ∃ u, (tokC (x.getD k ⟨0, 0, [], 0⟩))[j]? = some u := ⟨_, List.getElem?_eq_getElem (by simpa [tokC] using hj)⟩
              rw [hu] at h1 ⊢
              exact (hbr.cell (p := ⟨g1, k * 4 + j, none⟩) hg1).trans (HC1.out _ u h1)
            have hy1 : ∀ j, j < 4 → wr.cell? ⟨g2, j, none⟩ = (tokC (y.getD 0 ⟨0, 0, [], 0⟩))[j]? := fun j hj => by
              have h1 := tcells_at y 0 j hy0 hj
              rw [Nat.zero_mul, Nat.zero_add] at h1
              obtain ⟨u, hu⟩ : ∃ u, (tokC (y.getD 0 ⟨0, 0, [], 0⟩))[j]? = some u := ⟨_, List.getElem?_eq_getElem (by simpa [tokC] using hj)⟩
              rw [hu] at h1 ⊢
              exact (hbr.cell (p := ⟨g2, j, none⟩) hg2).trans (HC2.out _ u h1)
            have hP : (x.getD k ⟨0, 0, [], 0⟩).at_ ≤ s.size := HXA.out _ (getT_mem (by omega))
            generalize x.getD k ⟨0, 0, [], 0⟩ = X at *
            generalize y.getD 0 ⟨0, 0, [], 0⟩ = Y at *
            obtain ⟨K, P, T, F⟩ := X
            obtain ⟨K2, P2, T2, F2⟩ := Y
            have hP : P ≤ s.size := hP
            have c0 : wr.cell? ⟨g3, k * 4, none⟩ = some (.int .i64 K) := hz 0 (by decide)
            have c1 : wr.cell? ⟨g3, k * 4 + 1, none⟩ = some (.int .i64 P) := hz 1 (by decide)
            have c2 : wr.cell? ⟨g3, k * 4 + 2, none⟩ = some (.string (S T)) := hz 2 (by decide)
            have c3 : wr.cell? ⟨g3, k * 4 + 3, none⟩ = some (.float .f64 F) := hz 3 (by decide)
            have d0 : wr.cell? ⟨g1, k * 4, none⟩ = some (.int .i64 K) := hx1 0 (by decide)
            have d1 : wr.cell? ⟨g1, k * 4 + 1, none⟩ = some (.int .i64 P) := hx1 1 (by decide)
            have d2 : wr.cell? ⟨g1, k * 4 + 2, none⟩ = some (.string (S T)) := hx1 2 (by decide)
            have d3 : wr.cell? ⟨g1, k * 4 + 3, none⟩ = some (.float .f64 F) := hx1 3 (by decide)
            have e0 : wr.cell? ⟨g2, 0, none⟩ = some (.int .i64 K2) := hy1 0 (by decide)
            have e1 : wr.cell? ⟨g2, 1, none⟩ = some (.int .i64 P2) := hy1 1 (by decide)
            have e2 : wr.cell? ⟨g2, 2, none⟩ = some (.string (S T2)) := hy1 2 (by decide)
            have e3 : wr.cell? ⟨g2, 3, none⟩ = some (.float .f64 F2) := hy1 3 (by decide)
            have hgr3 : g3 < wr.heap.size := by omega
            have hgr1 : g1 < wr.heap.size := by omega
            have hgr2 : g2 < wr.heap.size := by omega
            have HBR := Lib.hid hbr
            clear hz hx1 hy1 hzt hbr
            go_wp2_with fail
            exact ⟨⟨k + 1, by go_num, hlt, (HBR.out.alloc hzr _).alloc (by simp; omega) _⟩, by simp only [intOf]; omega⟩
          · obtain ⟨i, rfl⟩ : ∃ i, k = x.length - 1 + i := ⟨k - (x.length - 1), by omega⟩
            have hi : i < y.length := by omega
            have hzt : (x.dropLast ++ y.map (shT (s.size + 1))).getD (x.length - 1 + i) ⟨0, 0, [], 0⟩ = shT (s.size + 1) (y.getD i ⟨0, 0, [], 0⟩) := by
              rw [List.getD_eq_getElem?_getD, List.getD_eq_getElem?_getD, List.getElem?_append_right (by simp), List.length_dropLast, show x.length - 1 + i - (x.length - 1) = i from by omega, List.getElem?_map, List.getElem?_eq_getElem hi]
              rfl
            have hz : ∀ j, j < 4 → wr.cell? ⟨g3, (x.length - 1 + i) * 4 + j, none⟩ = (tokC (shT (s.size + 1) (y.getD i ⟨0, 0, [], 0⟩)))[j]? := fun j hj => by
              have h1 := tcells_at (x.dropLast ++ y.map (shT (s.size + 1))) (x.length - 1 + i) j (by rw [← HNZ.out]; exact hlt) hj
              rw [hzt] at h1
              obtain ⟨u, hu⟩ : ∃ u, (tokC (shT (s.size + 1) (y.getD i ⟨0, 0, [], 0⟩)))[j]? = some u := ⟨_, List.getElem?_eq_getElem (by simpa [tokC] using hj)⟩
              rw [hu] at h1 ⊢
              exact (hbr.cell (p := ⟨g3, (x.length - 1 + i) * 4 + j, none⟩) hg3).trans (HC3.out _ u h1)
            have hy1 : ∀ j, j < 4 → wr.cell? ⟨g2, i * 4 + j, none⟩ = (tokC (y.getD i ⟨0, 0, [], 0⟩))[j]? := fun j hj => by
              have h1 := tcells_at y i j hi hj
              obtain ⟨u, hu⟩ : ∃ u, (tokC (y.getD i ⟨0, 0, [], 0⟩))[j]? = some u := ⟨_, List.getElem?_eq_getElem (by simpa [tokC] using hj)⟩
              rw [hu] at h1 ⊢
              exact (hbr.cell (p := ⟨g2, i * 4 + j, none⟩) hg2).trans (HC2.out _ u h1)
            have hP : (y.getD i ⟨0, 0, [], 0⟩).at_ ≤ t.size := HYA.out _ (getT_mem hi)
            generalize y.getD i ⟨0, 0, [], 0⟩ = Y at *
            obtain ⟨K, P, T, F⟩ := Y
            have hP : P ≤ t.size := hP
            have hk2 : x.length - 1 + i < nz := hlt
            obtain ⟨k, hkk⟩ : ∃ k, k = x.length - 1 + i := ⟨_, rfl⟩
            have hk1 : k + 1 ≤ x.length + i := by omega
            have hk3 : x.length + i ≤ k + 1 := by omega
            rw [← hkk] at hz hk2 hk ⊢
            have c0 : wr.cell? ⟨g3, k * 4, none⟩ = some (.int .i64 K) := hz 0 (by decide)
            have c1 : wr.cell? ⟨g3, k * 4 + 1, none⟩ = some (.int .i64 ((P : Int) + ((s.size : Int) + 1))) := hz 1 (by decide)
            have c2 : wr.cell? ⟨g3, k * 4 + 2, none⟩ = some (.string (S T)) := hz 2 (by decide)
            have c3 : wr.cell? ⟨g3, k * 4 + 3, none⟩ = some (.float .f64 F) := hz 3 (by decide)
            have hgr3 : g3 < wr.heap.size := by omega
            have hgr1 : g1 < wr.heap.size := by omega
            have hgr2 : g2 < wr.heap.size := by omega
            have HBR := Lib.hid hbr
            clear hz hzt hbr hkk hlt
            by_cases hi0 : i = 0
            · subst hi0
              have e0 : wr.cell? ⟨g2, 0, none⟩ = some (.int .i64 K) := by simpa [tokC] using hy1 0 (by decide)
              have e1 : wr.cell? ⟨g2, 1, none⟩ = some (.int .i64 P) := by simpa [tokC] using hy1 1 (by decide)
              have e2 : wr.cell? ⟨g2, 2, none⟩ = some (.string (S T)) := by simpa [tokC] using hy1 2 (by decide)
              have e3 : wr.cell? ⟨g2, 3, none⟩ = some (.float .f64 F) := by simpa [tokC] using hy1 3 (by decide)
              have hle : (k : Int) - x.length + 1 ≤ 0 := by omega
              clear hy1
              go_wp2_with fail
              exact ⟨⟨k + 1, by go_num, hk2, (HBR.out.alloc hzr _).alloc (by simp; omega) _⟩, by simp only [intOf]; omega⟩
            · have hto : k - x.length + 1 = i := by omega
              have e0 : wr.cell? ⟨g2, (k - x.length + 1) * 4, none⟩ = some (.int .i64 K) := by rw [hto]; exact hy1 0 (by decide)
              have e1 : wr.cell? ⟨g2, (k - x.length + 1) * 4 + 1, none⟩ = some (.int .i64 P) := by rw [hto]; exact hy1 1 (by decide)
              have e2 : wr.cell? ⟨g2, (k - x.length + 1) * 4 + 2, none⟩ = some (.string (S T)) := by rw [hto]; exact hy1 2 (by decide)
              have e3 : wr.cell? ⟨g2, (k - x.length + 1) * 4 + 3, none⟩ = some (.float .f64 F) := by rw [hto]; exact hy1 3 (by decide)
              have hle : 0 < (k : Int) - x.length + 1 := by omega
              have hle2 : (k : Int) - x.length + 1 < y.length := by omega
              clear hy1 hto
              go_wp2_with fail
              exact ⟨⟨k + 1, by go_num, hk2, (HBR.out.alloc hzr _).alloc (by simp; omega) _⟩, by simp only [intOf]; omega⟩
        · obtain rfl : k = nz := by omega
          go_wp2_with fail
          go_ret
          exact ⟨rfl, HB4.out.trans (hbr.mono (by omega))⟩
end Go.Proofs.YtjddjdpgnoebnaaGreatDoor.lx
