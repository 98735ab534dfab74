/- For any grammar and any number the law LeftCycles returns true, and what it was handed reads afterwards as it did; no condition. -/
import Derived.Test.YtljkobijoenabaaMi
namespace Go.Proofs.Ytljkobijoenabaa.dv
open Go.ChangeShapes Go.WideShapes Go.ChangeAt Go.RowKit Go.Maps Go.WideMaps Go.WideElems
set_option linter.unusedVariables false
set_option linter.unusedSimpArgs false
/-! layer 11: slow -/
attribute [local go_sem] run_store_fl
theorem slowA_snoc (R : List Rl) : ∀ (k : Nat) (S : List Nat), slowA R (k + 1) S = slowP R (slowA R k S)
  | 0, S => rfl
  | k + 1, S => by
    rw [slowA, slowA_snoc R k (slowP R S)]
    rfl
theorem slowP_snoc {R : List Rl} {k : Nat} {r : Rl} (h : R[k]? = some r) (S : List Nat) : slowP (R.take (k + 1)) S = slowR (slowP (R.take k) S) r := by
  unfold slowP
  rw [List.take_add_one, h, List.foldl_append]
  rfl
def TopS (vl : Nat) (S : List Nat) : Prop := S.length = vl ∧ ∀ x, S.getD x 0 ≤ 1048576
theorem top_set {vl : Nat} {S : List Nat} (h : TopS vl S) (k y : Nat) (hy : y ≤ 1048576) : TopS vl (S.set k y) := by
  refine ⟨by rw [List.length_set]; exact h.1, fun x => ?_⟩
  by_cases hk : k < S.length
  · rw [nat_set _ _ _ _ hk]
    split
    · exact hy
    · exact h.2 x
  · rw [List.set_eq_of_length_le (by omega)]
    exact h.2 x
theorem slowN_drop {S : List Nat} {F : List Int} {n j : Nat} (hj : j < F.length) : slowN S (F.drop j) n = slowN S (F.drop (j + 1)) (if F.getD j 0 < 0 ∨ S.getD (F.getD j 0).toNat 0 = 0 then 1048576 else min (n + S.getD (F.getD j 0).toNat 0) 1048576) := by
  have hdr : F.drop j = F.getD j 0 :: F.drop (j + 1) := by
    rw [List.getD_eq_getElem?_getD, List.getElem?_eq_getElem hj, List.drop_eq_getElem_cons hj]; rfl
  rw [hdr, slowN]
structure StS (w : World) (gc : Array Value) (m vl : Nat) (S : List Nat) (W : World) : Prop where
  gram : Blk W w.heap.size 25 gc
  below : Below w.heap.size w W
  row : W.ownsRow w.heap.size 3 1 (.slice (some ⟨m, 0, none⟩) vl vl) vl (IN S)
  top : TopS vl S
section
variable {w : World} {gc : Array Value} {m vl : Nat} {S : List Nat} {W W' : World}
theorem StS.far (h : StS w gc m vl S W) (hb : Below W.heap.size W W') : StS w gc m vl S W' :=
  ⟨h.gram.below hb h.gram.lt, h.below.trans (hb.mono h.below.size), own_of_block (row := none) h.row ⟨hb.os, hb.tape, hb.output, hb.size, fun k hk _ => hb.block k hk⟩ (fun _ _ e => by cases e), h.top⟩
theorem StS.get (h : StS w gc m vl S W) {x : Nat} (hx : x < vl) : W.cell? ⟨m, x, none⟩ = some (.int .i64 (S.getD x 0)) := by
  have hl := h.top.1
  rw [h.row.cellAt x (by omega)]
  unfold IN IV
  rw [List.getElem?_map, List.getElem?_map, List.getElem?_eq_getElem (by omega), List.getD_eq_getElem?_getD, List.getElem?_eq_getElem (by omega)]
  rfl
theorem StS.put (h : StS w gc m vl S W) (x y : Nat) (hy : y ≤ 1048576) : StS w gc m vl (S.set x y) (W.setCell ⟨m, x, none⟩ (.int .i64 y)) := by
  obtain ⟨o1, o2⟩ := h.row.stored x (.int .i64 y)
  have e : IN (S.set x y) = (IN S).set x (.int .i64 y) := by unfold IN IV; rw [List.map_set, List.map_set]
  exact ⟨h.gram.grown o2 (h.gram.not_row (by decide) h.row), h.below.grown o2 h.below.size (fun r e => (row_cells h.row r e).1), by rw [e]; exact o1, top_set h.top x y hy⟩
end
set_option maxRecDepth 100000 in
set_option maxHeartbeats 4000000 in
theorem slow_any (w : World) (B : Nat) (ta va : Option Addr) (tl tc vl vc : Nat) (rv : Value) (R : List Rl) (hR : RulesAt B w rv R) (hB : B ≤ w.heap.size) (hl : ∀ r ∈ R, 0 ≤ r.left ∧ r.left < vl) (hvr : ∀ r ∈ R, ∀ s ∈ r.right, 0 ≤ s → s < vl) (hv : vl ≤ 1000) :
    Calls Try.prog 35 #[.agg #[.slice ta tl tc, .slice va vl vc, rv]] w fun e w' => ∃ b, e = .returned (.bool b) ∧ (b = false → ∀ x, (slowA R vl (List.replicate vl 0)).getD x 0 ≤ 50) ∧ Below w.heap.size w w' := by
  obtain ⟨i0, hi0, hy0, hy1, hy2⟩ := info_parts info_int
  obtain ⟨ra, rc, rfl, hn, _⟩ := id hR
  have b0 := Blk.new w 25 #[.slice ta tl tc, .slice va vl vc, .slice ra R.length rc]
  have hbl : Below w.heap.size w (w.alloc (.cells #[.slice ta tl tc, .slice va vl vc, .slice ra R.length rc] 25)) := (Below.refl _ w).alloc (Nat.le_refl _) _
  have hR63 : R.length ≤ 9223372036854775807 := by unfold maxLen at hn; omega
  have hz : (w.alloc (.cells #[.slice ta tl tc, .slice va vl vc, .slice ra R.length rc] 25)).heap.size = w.heap.size + 1 := by simp
  generalize hW0 : w.alloc (.cells #[.slice ta tl tc, .slice va vl vc, .slice ra R.length rc] 25) = w0 at *
  have HR := Lib.hid hR
  have HL := Lib.hid hl
  have HVR := Lib.hid hvr
  have HB0 := Lib.hid b0
  have HBL := Lib.hid hbl
  have HZ := Lib.hid hz
  have c1 := b0.cell 1
  simp only [List.getElem?_toArray, List.getElem?_cons_zero, List.getElem?_cons_succ] at c1
  clear hR hl hvr b0 hbl
  go_enter Try.func35, Try.ntmps35
  go_wp2_with (at_make; refine wpList_make_full _ rfl _ _ 26 rfl w0.heap.size 3 i0 (.int .i64 0) 1 Try.underlying26 hi0 hy0 hy1 .i64 .i64 _ _ vl rfl rfl rfl rfl (by rw [hy2]; omega) (by unfold maxLen; omega) (Nat.le_refl _) ?_; intro w4 hown4 hgrow4; have hb4 : Below w0.heap.size w0 w4 := (Below.refl _ _).grown hgrow4 (Nat.le_refl _) (fun k e => by cases e); have s1 := (HB0.out.below hb4 HB0.out.lt).cell 1; simp only [List.getElem?_toArray, List.getElem?_cons_zero, List.getElem?_cons_succ] at s1; have HOWN4 := Lib.hid hown4; have HB4 := Lib.hid hb4; clear hown4 hgrow4 hb4)
  have hst0 : StS w #[.slice ta tl tc, .slice va vl vc, .slice ra R.length rc] (w.heap.size + 1) vl (List.replicate vl 0) w4 := by
    refine ⟨HB0.out.below HB4.out HB0.out.lt, HBL.out.trans (HB4.out.mono (by have := HZ.out; omega)), ?_, by simp, fun x => ?_⟩
    · have h1 := HOWN4.out
      rw [show (Value.int .i64 0).cells = #[.int .i64 0] from rfl, toList_madeCells_one, Nat.mul_one, HZ.out] at h1
      have h2 : IN (List.replicate vl 0) = List.replicate vl (Value.int .i64 0) := by simp [IN, IV]
      rw [h2]
      exact ⟨h1.1, h1.2.imp id (fun ⟨g, cap, cur, e, hb, h⟩ => ⟨g, cap, cur, e, by omega, h⟩)⟩
    · rw [List.getD_eq_getElem?_getD, List.getElem?_replicate]
      split <;> simp
  have HST0 := Lib.hid hst0
  clear hst0 c1 s1
  go_loopw [18] (fun q W => ∃ c : Nat, c ≤ vl ∧ q = .int .i64 c ∧ StS w #[.slice ta tl tc, .slice va vl vc, .slice ra R.length rc] (w.heap.size + 1) vl (slowA R c (List.replicate vl 0)) W) (fun q _ => vl - (intOf q).toNat)
  case atStart => exact ⟨0, Nat.zero_le _, rfl, HST0.out⟩
  case round =>
    obtain ⟨W, rfl⟩ : ∃ W : World, W = wr := ⟨_, rfl⟩
    obtain ⟨c, hc, hq, hst⟩ := hrel
    obtain rfl := hq
    have HST := Lib.hid hst
    have z2 := hst.gram.cell 2
    simp only [List.getElem?_toArray, List.getElem?_cons_zero, List.getElem?_cons_succ] at z2
    clear hst HST0
    have HSN := Lib.hid (slowA_snoc R c (List.replicate vl 0))
    generalize hSE : slowA R c (List.replicate vl 0) = S at *
    have HSE := Lib.hid hSE
    clear hSE
    by_cases hlt : c < vl
    · have hlt2 : (c : Int) < (vl : Int) := by omega
      go_wp2
      go_loopw [23] (fun q W => ∃ k : Nat, k ≤ R.length ∧ q = .int .i64 k ∧ StS w #[.slice ta tl tc, .slice va vl vc, .slice ra R.length rc] (w.heap.size + 1) vl (slowP (R.take k) S) W) (fun q _ => R.length - (intOf q).toNat)
      case atStart => exact ⟨0, Nat.zero_le _, rfl, HST.out⟩
      case round =>
        obtain ⟨X, rfl⟩ : ∃ X : World, X = wr := ⟨_, rfl⟩
        obtain ⟨k, hk, hq, hst⟩ := hrel
        obtain rfl := hq
        have XST := Lib.hid hst
        by_cases hkt : k < R.length
        · obtain ⟨r, hrk⟩ : ∃ r, R[k]? = some r := ⟨_, List.getElem?_eq_getElem hkt⟩
          have hrm := List.mem_of_getElem? hrk
          obtain ⟨hl0, hl1⟩ := HL.out r hrm
          have hvr := HVR.out r hrm
          have hsn := slowP_snoc hrk S
          obtain ⟨ra', rc', er, _, hr2⟩ := HR.out.far (hst.below.mono hB)
          cases er
          obtain ⟨a2, rfl, hab2, ao2, c2, h1, h2, h3, h4, h5, h6, h7, h8⟩ := hr2 k r hrk
          rw [addf a2 (k * 3) 1 (by decide)] at h2
          rw [addf a2 (k * 3) 2 (by decide)] at h3
          obtain ⟨lf, F, wt⟩ := r
          dsimp only at hl0 hl1 h1 h2 h3 h4 h5 h6 h7 h8 hvr
          obtain ⟨lv, rfl⟩ : ∃ lv : Nat, lf = lv := ⟨lf.toNat, by omega⟩
          have hlv : lv < vl := by omega
          have hF63 : F.length ≤ 9223372036854775807 := by unfold maxLen at h5; omega
          have hX1 : Below X.heap.size X (X.alloc (.cells #[.int .i64 lv, .slice ao2 F.length c2, .float .f64 wt] 52)) := (Below.refl _ X).alloc (Nat.le_refl _) _
          have h7' : ∀ j, j < F.length → ∃ a : Addr, ao2 = some a ∧ (X.alloc (.cells #[.int .i64 lv, .slice ao2 F.length c2, .float .f64 wt] 52)).cell? (a.add j) = some (.int .i64 (F.getD j 0)) := fun j hj => by
            obtain ⟨a3, e3, hab3, hca⟩ := h7 j hj
            have hb3 : (a3.add j).block < X.heap.size := by rw [add_block]; have := hst.below.size; omega
            exact ⟨a3, e3, (hX1.cell hb3).trans hca⟩
          have hst1 := hst.far hX1
          have bR := Blk.new X 52 #[.int .i64 lv, .slice ao2 F.length c2, .float .f64 wt]
          have q0 := bR.cell 0
          have q1 := bR.cell 1
          simp only [List.getElem?_toArray, List.getElem?_cons_zero, List.getElem?_cons_succ] at q0 q1
          have HF7 := Lib.hid h7'
          have HVF := Lib.hid hvr
          have HSNP := Lib.hid hsn
          have HS1 := Lib.hid hst1
          have HBR := Lib.hid bR
          have hk0 : (0 : Int) ≤ (k : Int) := by omega
          have hk1 : (k : Int) < (R.length : Int) := by omega
          clear hst hr2 h4 h5 h6 h7 h8 hrk hrm hvr hsn hX1 h7' hst1 bR XST HST
          go_wp2
          generalize hYY : X.alloc (.cells #[.int .i64 lv, .slice ao2 F.length c2, .float .f64 wt] 52) = Y at *
          generalize slowP (R.take k) S = P at *
          have hvs0 : slowN P F 1 = slowN P (F.drop 0) 1 := rfl
          have HN0 := Lib.hid hvs0
          clear hYY hvs0
          go_loopw [6, 30] (fun qn q wr => ∃ j n : Nat, j ≤ F.length ∧ qn = .int .i64 n ∧ q = .int .i64 j ∧ slowN P F 1 = slowN P (F.drop j) n ∧ n ≤ 1048576 ∧ wr = Y) (fun _ q _ => F.length - (intOf q).toNat)
          case atStart => exact ⟨0, 1, Nat.zero_le _, rfl, rfl, HN0.out, by decide, by first | exact rfl | trivial⟩
          case round =>
            obtain ⟨j, n, hj, hqn, hq, hns, hn20, hww⟩ := hrel
            obtain rfl := hqn
            obtain rfl := hq
            obtain rfl : Y = wr := hww.symm
            clear hww
            have HNS := Lib.hid hns
            clear hns
            by_cases hjt : j < F.length
            · obtain ⟨a3, rfl, hca⟩ := HF7.out j hjt
              have hsv := HVF.out (F.getD j 0) (by rw [List.getD_eq_getElem?_getD, List.getElem?_eq_getElem hjt]; exact List.getElem_mem _)
              have hnd := HNS.out
              rw [slowN_drop hjt] at hnd
              have HND := Lib.hid hnd
              have hj0 : (0 : Int) ≤ (j : Int) := by omega
              have hj1 : (j : Int) < (F.length : Int) := by omega
              clear hnd
              generalize F.getD j 0 = s at *
              by_cases hs0 : 0 ≤ s
              · have hs1 := hsv hs0
                obtain ⟨sn, rfl⟩ : ∃ sn : Nat, s = sn := ⟨s.toNat, by omega⟩
                have hsn : sn < vl := by omega
                have hcs := HS1.out.get hsn
                have htp := HS1.out.top.2 sn
                have hd0 : decide ((sn : Int) < 0) = false := decide_eq_false (by omega)
                have hnd := HND.out
                rw [Int.toNat_natCast] at hnd
                by_cases hz0 : P.getD sn 0 = 0
                · rw [if_pos (.inr hz0)] at hnd
                  rw [hz0] at hcs
                  have HND2 := Lib.hid hnd
                  clear hnd
                  go_wp2
                  exact ⟨⟨j + 1, 1048576, hjt, rfl, congrArg (Value.int .i64) (by omega), HND2.out, Nat.le_refl _, by first | exact rfl | trivial⟩, by simp only [intOf]; omega⟩
                · rw [if_neg (fun h => h.elim (fun h => by omega) hz0)] at hnd
                  obtain ⟨y, hy⟩ : ∃ y, y = P.getD sn 0 := ⟨_, rfl⟩
                  rw [← hy] at hcs hnd htp hz0
                  have hyz : ((y : Int) == 0) = false := by simpa using hz0
                  have HND2 := Lib.hid hnd
                  clear hnd hy
                  go_wp2
                  exact ⟨⟨j + 1, min (n + y) 1048576, hjt, congrArg (Value.int .i64) (by omega), congrArg (Value.int .i64) (by omega), HND2.out, Nat.min_le_right _ _, by first | exact rfl | trivial⟩, by simp only [intOf]; omega⟩
              · have hd0 : decide (s < 0) = true := decide_eq_true (by omega)
                have hnd := HND.out
                rw [if_pos (.inl (by omega))] at hnd
                have HND2 := Lib.hid hnd
                clear hnd
                go_wp2
                exact ⟨⟨j + 1, 1048576, hjt, rfl, congrArg (Value.int .i64) (by omega), HND2.out, Nat.le_refl _, by first | exact rfl | trivial⟩, by simp only [intOf]; omega⟩
            · obtain rfl : j = F.length := by omega
              have hsum : slowN P F 1 = n := by rw [HNS.out, List.drop_length]; rfl
              by_cases hge0 : n < 1048576
              · have hge : decide ((n : Int) < 1048576) = true := decide_eq_true (by omega)
                have hdr : Below Y.heap.size Y Y.drew := (Below.refl _ _).drew
                have hsd := HS1.out.far hdr
                have hcl := HS1.out.get hlv
                have hfz : (World.drew Y).frozen? ⟨w.heap.size + 1, lv, none⟩ = false := hsd.row.frozenAt lv
                have hput : ∀ z : Int, z = ((max (P.getD lv 0) n : Nat) : Int) → StS w #[.slice ta tl tc, .slice va vl vc, .slice (some a2) R.length rc] (w.heap.size + 1) vl (slowP (R.take (k + 1)) S) ((World.drew Y).setCell ⟨w.heap.size + 1, lv, none⟩ (.int .i64 z)) := fun z hz => by
                  rw [hz, HSNP.out]
                  unfold slowR
                  dsimp only
                  rw [hsum, if_pos (by omega), Int.toNat_natCast]
                  exact hsd.put lv (max (P.getD lv 0) n) (by have := hsd.top.2 lv; omega)
                obtain ⟨pl, hpl⟩ : ∃ y, y = P.getD lv 0 := ⟨_, rfl⟩
                rw [← hpl] at hcl hput
                have HPUT := Lib.hid hput
                have hlv0 : (0 : Int) ≤ (lv : Int) := by omega
                clear hput hsd hdr hsum hpl
                go_wp2
                refine wp_region_EQ (fun U => U.cell? ⟨X.heap.size, 0, none⟩ = some (.int .i64 lv) ∧ U.cell? ⟨w.heap.size + 1, lv, none⟩ = some (.int .i64 (pl : Nat))) [11] (by kernel_rfl) ?_
                have HS : _ := And.intro (DRC Y _ _ q0) (DRC Y _ _ hcl)
                change anyE _ _ _ _ _ _ _ _ _ (World.drew _)
                refine anyE_take (i := 0) (v := ?_) rfl (by kernel_rfl) (by kernel_rfl) (by kernel_rfl) (by kernel_rfl) (by kernel_rfl) (fun c _ _ h => absurd rfl (h.1 c)) (Or.inl ⟨by kernel_rfl, ?_⟩) HS ?_
                rotate_left
                · intro w _; go_simp; with_reducible rfl
                refine anyE_take (i := 1) (v := ?_) rfl (by kernel_rfl) (by kernel_rfl) (by kernel_rfl) (by kernel_rfl) (by kernel_rfl) (fun c _ _ h => absurd rfl (h.1 c)) (Or.inl ⟨by kernel_rfl, ?_⟩) HS ?_
                rotate_left
                · intro w _; go_simp; with_reducible rfl
                refine anyE_take (i := 2) (v := ?_) rfl (by kernel_rfl) (by kernel_rfl) (by kernel_rfl) (by kernel_rfl) (by kernel_rfl) (fun c _ _ h => absurd rfl (h.1 c)) (Or.inl ⟨by kernel_rfl, ?_⟩) HS ?_
                rotate_left
                · intro w hw; have hw := hw.1; go_simp; with_reducible rfl
                refine anyE_take (i := 3) (v := ?_) rfl (by kernel_rfl) (by kernel_rfl) (by kernel_rfl) (by kernel_rfl) (by kernel_rfl) (fun c _ _ h => absurd rfl (h.1 c)) (Or.inl ⟨by kernel_rfl, ?_⟩) HS ?_
                rotate_left
                · intro w _; go_simp; with_reducible rfl
                refine anyE_take (i := 4) (v := ?_) rfl (by kernel_rfl) (by kernel_rfl) (by kernel_rfl) (by kernel_rfl) (by kernel_rfl) (fun c _ _ h => absurd rfl (h.1 c)) (Or.inl ⟨by kernel_rfl, ?_⟩) HS ?_
                rotate_left
                · intro w _; go_simp; with_reducible rfl
                refine anyE_take (i := 5) (v := ?_) rfl (by kernel_rfl) (by kernel_rfl) (by kernel_rfl) (by kernel_rfl) (by kernel_rfl) (fun c _ _ h => absurd rfl (h.1 c)) (Or.inl ⟨by kernel_rfl, ?_⟩) HS ?_
                rotate_left
                · intro w hw; have hw := hw.1; go_simp; with_reducible rfl
                refine anyE_take (i := 6) (v := ?_) rfl (by kernel_rfl) (by kernel_rfl) (by kernel_rfl) (by kernel_rfl) (by kernel_rfl) (fun c _ _ h => absurd rfl (h.1 c)) (Or.inl ⟨by kernel_rfl, ?_⟩) HS ?_
                rotate_left
                · intro w _; go_simp; with_reducible rfl
                refine anyE_take (i := 7) (v := ?_) rfl (by kernel_rfl) (by kernel_rfl) (by kernel_rfl) (by kernel_rfl) (by kernel_rfl) (fun c _ _ h => absurd rfl (h.1 c)) (Or.inl ⟨by kernel_rfl, ?_⟩) HS ?_
                rotate_left
                · intro w hw; have hw := hw.2; go_simp; with_reducible rfl
                refine anyE_take (i := 8) (v := ?_) rfl (by kernel_rfl) (by kernel_rfl) (by kernel_rfl) (by kernel_rfl) (by kernel_rfl) (fun c _ _ h => absurd rfl (h.1 c)) (Or.inl ⟨by kernel_rfl, ?_⟩) HS ?_
                rotate_left
                · intro w _; go_simp; with_reducible rfl
                refine anyE_take (i := 9) (v := ?_) rfl (by kernel_rfl) (by kernel_rfl) (by kernel_rfl) (by kernel_rfl) (by kernel_rfl) (fun c _ _ h => absurd rfl (h.1 c)) (Or.inl ⟨by kernel_rfl, ?_⟩) HS ?_
                rotate_left
                · intro w _; go_simp; with_reducible rfl
                refine anyE_take (i := 10) (v := ?_) rfl (by kernel_rfl) (by kernel_rfl) (by kernel_rfl) (by kernel_rfl) (by kernel_rfl) (fun c _ _ h => absurd rfl (h.1 c)) (Or.inl ⟨by kernel_rfl, ?_⟩) HS ?_
                rotate_left
                · intro w _; go_simp; with_reducible rfl
                refine anyE_rest (by kernel_rfl) ?_
                refine wpAny_ready (rs := [11]) (by kernel_rfl) (by simp) ?_
                refine AllReady.cons rfl (fun K hK => ?_) AllReady.nil
                go_simp
                refine hK _ _ ?_
                clear hK K
                refine wpAny_done (by kernel_rfl) ?_ _
                refine ⟨(fun c h => by cases h), ?_⟩
                go_wp2
                exact ⟨⟨k + 1, hkt, congrArg (Value.int .i64) (by omega), HPUT.out _ (by omega)⟩, by simp only [intOf]; omega⟩
              · have hge : decide ((n : Int) < 1048576) = false := decide_eq_false (by omega)
                have hput : StS w #[.slice ta tl tc, .slice va vl vc, .slice (some a2) R.length rc] (w.heap.size + 1) vl (slowP (R.take (k + 1)) S) Y := by
                  rw [HSNP.out]
                  unfold slowR
                  dsimp only
                  rw [hsum, if_neg hge0]
                  exact HS1.out
                have HPUT := Lib.hid hput
                clear hput hsum
                go_wp2
                exact ⟨⟨k + 1, hkt, congrArg (Value.int .i64) (by omega), HPUT.out⟩, by simp only [intOf]; omega⟩
        · obtain rfl : k = R.length := by omega
          clear hst
          go_wp2
          refine ⟨⟨c + 1, hlt, congrArg (Value.int .i64) (by omega), ?_⟩, by simp only [intOf]; omega⟩
          have h := XST.out
          rw [List.take_length] at h
          rw [HSN.out]
          exact h
    · obtain rfl : c = vl := by omega
      go_wp2
      go_loopw [68] (fun q wr => ∃ x : Nat, x ≤ c ∧ q = .int .i64 x ∧ (∀ y, y < x → S.getD y 0 ≤ 50) ∧ wr = W) (fun q _ => c - (intOf q).toNat)
      case atStart => exact ⟨0, Nat.zero_le _, rfl, (fun y hy => absurd hy (Nat.not_lt_zero _)), by first | exact rfl | trivial⟩
      case round =>
        obtain ⟨x, hx, hq, hall, hww⟩ := hrel
        obtain rfl := hq
        obtain rfl : W = wr := hww.symm
        clear hww
        have HALL := Lib.hid hall
        clear hall
        by_cases hxt : x < c
        · have hcx := HST.out.get hxt
          have hx0 : (0 : Int) ≤ (x : Int) := by omega
          have hx1 : (x : Int) < (c : Int) := by omega
          obtain ⟨y, hy⟩ : ∃ y, y = S.getD x 0 := ⟨_, rfl⟩
          rw [← hy] at hcx
          have HY := Lib.hid hy
          clear hy
          by_cases hy50 : 50 < y
          · have hg : decide ((50 : Int) < (y : Int)) = true := decide_eq_true (by omega)
            go_wp2
            go_ret
            exact ⟨true, rfl, (fun e => by cases e), HST.out.below⟩
          · have hg : decide ((50 : Int) < (y : Int)) = false := decide_eq_false (by omega)
            go_wp2
            exact ⟨⟨x + 1, hxt, congrArg (Value.int .i64) (by omega), (fun z hz => by
              by_cases e : z = x
              · rw [e, ← HY.out]; omega
              · exact HALL.out z (by omega)), by first | exact rfl | trivial⟩, by simp only [intOf]; omega⟩
        · obtain rfl : x = c := by omega
          go_wp2
          go_ret
          refine ⟨false, rfl, (fun _ y => ?_), HST.out.below⟩
          rw [HSE.out]
          by_cases hyx : y < x
          · exact HALL.out y hyx
          · rw [List.getD_eq_getElem?_getD, List.getElem?_eq_none (by rw [HST.out.top.1]; omega)]
            exact Nat.zero_le _
end Go.Proofs.Ytljkobijoenabaa.dv
namespace Go.Proofs.Ytljkobijoenabaa.dv
open Go.ChangeShapes Go.WideShapes Go.ChangeAt Go.RowKit Go.Maps Go.WideMaps Go.WideElems
set_option linter.unusedVariables false
set_option linter.unusedSimpArgs false
/-! LeftCycles -/
set_option maxRecDepth 100000 in
set_option maxHeartbeats 4000000 in
theorem cycles_any (w : World) (ta va ra : Option Addr) (tl tc vl vc rc : Nat) (v : Int) (R : List Rl) (hR : RulesAt w.heap.size w (.slice ra R.length rc) R) (hT : StrsAt w.heap.size w ta tl) (hV : StrsAt w.heap.size w va vl) (hn : R.length ≤ maxLen) (ht : tl ≤ maxLen) (hv : vl ≤ maxLen) (hv64 : In64 v) :
    Calls Try.prog 9 #[.agg #[.slice ta tl tc, .slice va vl vc, .slice ra R.length rc], .int .i64 v] w fun e w' => e = .returned (.bool true) ∧ Below w.heap.size w w' := by
  have b0 := Blk.new w 25 #[.slice ta tl tc, .slice va vl vc, .slice ra R.length rc]
  have hbl : Below w.heap.size w (w.alloc (.cells #[.slice ta tl tc, .slice va vl vc, .slice ra R.length rc] 25)) := below_lit _ _ _
  have hR1 := hR.below hbl
  have hT1 := hT.below hbl
  have hV1 := hV.below hbl
  generalize hW0 : w.alloc (.cells #[.slice ta tl tc, .slice va vl vc, .slice ra R.length rc] 25) = w0 at *
  have hz0 : w0.heap.size = w.heap.size + 1 := by rw [← hW0]; simp
  have HR := Lib.hid hR1
  have HT := Lib.hid hT1
  have HV := Lib.hid hV1
  clear hR hT hV hR1 hT1 hV1
  go_enter Try.func9, Try.ntmps9
  go_wp2_with fail
  refine (lalive_any w0).mono ?_
  rintro e w1 ⟨rfl, hb1⟩
  have hB1 : Below (w.heap.size + 1) w0 w1 := hb1.mono (by omega)
  have hz1 := hB1.size
  have bx1 := b0.below hB1 (by omega)
  have p0 := bx1.cell 0
  have p1 := bx1.cell 1
  have p2 := bx1.cell 2
  simp only [List.getElem?_toArray, List.getElem?_cons_zero, List.getElem?_cons_succ] at p0 p1 p2
  go_wp2_with fail
  refine (few_any w1 w.heap.size ta va ra tl tc vl vc rc R (HR.out.below (hB1.mono (by omega))) (by omega) hn ht hv).mono ?_
  rintro e w2 ⟨b, rfl, hfew, hb2⟩
  have hB2 : Below (w.heap.size + 1) w0 w2 := hB1.trans (hb2.mono (by omega))
  cases b
  · clear hfew
    go_wp2
    go_ret
    exact ⟨rfl, hbl.trans (hB2.mono (by omega))⟩
  · obtain ⟨f1, f2, f3, h8⟩ := hfew rfl
    have H8 := Lib.hid h8
    clear hfew h8
    have hz2 := hB2.size
    have bx2 := b0.below hB2 (by omega)
    have q0 := bx2.cell 0
    have q1 := bx2.cell 1
    have q2 := bx2.cell 2
    simp only [List.getElem?_toArray, List.getElem?_cons_zero, List.getElem?_cons_succ] at q0 q1 q2
    clear bx1 p0 p1 p2 hb1 hb2 hz1
    go_wp2_with fail
    refine (right_yes w2 w.heap.size ta va ra tl tc vl vc rc R (HR.out.below (hB2.mono (by omega))) (HT.out.below (hB2.mono (by omega))) (HV.out.below (hB2.mono (by omega))) (by omega) f3 f2 f1 H8.out).mono ?_
    rintro e w3 ⟨b, rfl, hok, hb3⟩
    have hB3 : Below (w.heap.size + 1) w0 w3 := hB2.trans (hb3.mono (by omega))
    cases b
    · clear hok
      go_wp2
      go_ret
      exact ⟨rfl, hbl.trans (hB3.mono (by omega))⟩
    · obtain ⟨hv1, hrl⟩ := hok rfl
      have hl : ∀ r ∈ R, 0 ≤ r.left ∧ r.left < vl := fun r hr => ⟨(hrl r hr).1, (hrl r hr).2.1⟩
      have hvr : ∀ r ∈ R, ∀ s ∈ r.right, 0 ≤ s → s < vl := fun r hr s hs _ => ((hrl r hr).2.2 s hs).1
      have HL := Lib.hid hl
      have HVR := Lib.hid hvr
      have hz3 := hB3.size
      have bx3 := b0.below hB3 (by omega)
      have r0 := bx3.cell 0
      have r1 := bx3.cell 1
      have r2 := bx3.cell 2
      simp only [List.getElem?_toArray, List.getElem?_cons_zero, List.getElem?_cons_succ] at r0 r1 r2
      clear bx2 q0 q1 q2 hb3 hok hrl hl hvr
      have HB3 := Lib.hid hB3
      have hcy := cycle_any w3 w.heap.size ta va tl tc vl vc (.slice ra R.length rc) R v (HR.out.below (hB3.mono (by omega))) (by omega) HL.out (by omega) H8.out HVR.out
      go_wp2_with fail
      refine hcy.mono ?_
      rintro e w4 hcr
      obtain ⟨u, b, rfl, hb4, _⟩ := id hcr
      have hB4 : Below (w.heap.size + 1) w0 w4 := HB3.out.trans (hb4.mono (by omega))
      have hz4 := hB4.size
      have bx4 := b0.below hB4 (by omega)
      have s0 := bx4.cell 0
      have s1 := bx4.cell 1
      have s2 := bx4.cell 2
      simp only [List.getElem?_toArray, List.getElem?_cons_zero, List.getElem?_cons_succ] at s0 s1 s2
      have HB4 := Lib.hid hB4
      clear r0 r1 r2 bx3 hcy hB3
      cases b
      · obtain ⟨rfl, _, hno⟩ := cyc_no HL.out H8.out (by omega) hcr
        have HNO := Lib.hid hno
        clear hcr hno hb4
        by_cases hv0 : v < 0
        · have hvd : decide (v < 0) = true := decide_eq_true hv0
          go_wp2
          go_ret
          exact ⟨rfl, hbl.trans (HB4.out.mono (by omega))⟩
        · have hvd : decide (v < 0) = false := decide_eq_false hv0
          by_cases hvb : v < (vl : Int)
          · have hvd2 : decide ((vl : Int) ≤ v) = false := decide_eq_false (by omega)
            obtain ⟨n, rfl⟩ : ∃ n : Nat, v = n := ⟨v.toNat, by omega⟩
            have hnv : n < vl := by omega
            have hrc := reach_any w4 w.heap.size ta va tl tc vl vc (.slice ra R.length rc) R (HR.out.below (HB4.out.mono (by omega))) (by omega) HL.out HVR.out (by omega) (by omega)
            go_wp2_with fail
            refine hrc.mono ?_
            rintro e w5 ⟨u5, vs, rfl, hbm, hb5⟩
            have hB5 := HB4.out.trans (hb5.mono (by omega))
            have hz5 := hB5.size
            have hml := (begM_at R HL.out).1.1
            obtain ⟨m, mc, b, bc, rfl, hvb2, hc⟩ := hbm.form (by omega) (i := n) (by omega)
            have hcc := hbm.cell (by omega) hvb2 hnv
            have bx5 := b0.below hB5 (by omega)
            have t0 := bx5.cell 0
            have t1 := bx5.cell 1
            have t2 := bx5.cell 2
            simp only [List.getElem?_toArray, List.getElem?_cons_zero, List.getElem?_cons_succ] at t0 t1 t2
            rw [hml] at hbm ⊢
            have hn0 : (0 : Int) ≤ (n : Int) := by omega
            have hno := HNO.out (by omega) (by omega)
            rw [Int.toNat_natCast] at hno
            obtain ⟨x, hx⟩ : ∃ x, x = matF (begM vl R) n n := ⟨_, rfl⟩
            rw [← hx] at hcc hno
            have HNX := Lib.hid hno
            have HB5 := Lib.hid hB5
            clear hrc hbm hvb2 s0 s1 s2 hx hno bx5 hb5 hB5
            cases x
            · go_wp2
              go_ret
              exact ⟨rfl, hbl.trans (HB5.out.mono (by omega))⟩
            · have hsl := slow_any w5 w.heap.size ta va tl tc vl vc (.slice ra R.length rc) R (HR.out.below (HB5.out.mono (by omega))) (by omega) HL.out HVR.out (by omega)
              go_wp2_with fail
              refine hsl.mono ?_
              rintro e w6 ⟨b6, rfl, hb0, hb6⟩
              cases b6
              · exact absurd (HNX.out (hb0 rfl)) (by intro e; cases e)
              · clear hb0
                go_wp2
                go_ret
                exact ⟨rfl, hbl.trans ((HB5.out.trans (hb6.mono (by omega))).mono (by omega))⟩
          · have hvd2 : decide ((vl : Int) ≤ v) = true := decide_eq_true (by omega)
            go_wp2
            go_ret
            exact ⟨rfl, hbl.trans (HB4.out.mono (by omega))⟩
      · obtain ⟨h0, h1, hr, ks, k1, k2, k3, k4, k5, X, k6⟩ := cyc_yes HL.out HVR.out (by omega) hcr
        have hko := row_own k5 rfl k4
        clear hcr hb4 k5
        obtain ⟨n, rfl⟩ : ∃ n : Nat, v = n := ⟨v.toNat, by omega⟩
        rw [Int.toNat_natCast] at hr
        have hnv : n < vl := by omega
        have hvd : decide ((n : Int) < 0) = false := decide_eq_false (by omega)
        have hvd2 : decide ((vl : Int) ≤ (n : Int)) = false := decide_eq_false (by omega)
        have HKO := Lib.hid hko
        have hkp : 0 < ks.length := List.length_pos_iff.2 k3
        obtain ⟨ko, kc, rfl, hkc, hkm, _⟩ := hko
        have hkm' : kc ≤ 9223372036854775807 := by unfold maxLen at hkm; omega
        have hB45 : Below (w.heap.size + 1) w0 (w4.alloc (.cells #[.int .i64 n] 3)) := HB4.out.alloc (by omega) _
        have hlit := lit_row w4 [(n : Int)] 1 _ rfl rfl (by simpa using hv64) (by decide)
        have hrep := replay_any (w4.alloc (.cells #[.int .i64 n] 3)) w.heap.size ta va tl tc vl vc (.slice ra R.length rc) (.slice (some ⟨w4.heap.size, 0, none⟩) 1 1) (.slice ko ks.length kc) R [(n : Int)] ks (HR.out.below (hB45.mono (by omega))) (by simp; omega) hlit (HKO.out.below (below_lit _ _ _)) (by omega) (by simp; omega) H8.out
        unfold ReplR at hrep
        rw [k6] at hrep
        dsimp only at hrep
        have HB45 := Lib.hid hB45
        clear hlit hB45 k3 k4 k6
        have HK1 := Lib.hid k1
        clear k1
        go_wp2_with fail
        refine hrep.mono ?_
        rintro e w5 ⟨u5, rfl, hu5, _, hb5⟩
        have hown := hu5 trivial
        have hB5 : Below (w.heap.size + 1) w0 w5 := HB45.out.trans (hb5.mono (by simp; omega))
        have hz5 := hB5.size
        have bx5 := b0.below hB5 (by omega)
        have t0 := bx5.cell 0
        have t1 := bx5.cell 1
        have t2 := bx5.cell 2
        simp only [List.getElem?_toArray, List.getElem?_cons_zero, List.getElem?_cons_succ] at t0 t1 t2
        have hrc := reach_any w5 w.heap.size ta va tl tc vl vc (.slice ra R.length rc) R (HR.out.below (hB5.mono (by omega))) (by omega) HL.out HVR.out (by omega) (by omega)
        obtain ⟨g, cap, rfl, _, _⟩ := World.ownsRow.form hown (Nat.succ_pos _)
        have HOWN := Lib.hid hown
        have HB5 := Lib.hid hB5
        have HK5 := Lib.hid ((HKO.out.below (below_lit w4 #[.int .i64 n] 3)).below hb5)
        clear hu5 hrep hown hB5 bx5 s0 s1 s2 hb5
        go_wp2_with fail
        refine hrc.mono ?_
        rintro e w6 ⟨u6, vs, rfl, hbm, hb6⟩
        have hB6 := HB5.out.trans (hb6.mono (by omega))
        have hz6 := hB6.size
        have hml := (begM_at R HL.out).1.1
        obtain ⟨m, mc, b, bc, rfl, hvb2, hc⟩ := hbm.form (by omega) (i := n) (by omega)
        have hcc := hbm.cell (by omega) hvb2 hnv
        have bx6 := b0.below hB6 (by omega)
        have y0 := bx6.cell 0
        have y1 := bx6.cell 1
        have y2 := bx6.cell 2
        simp only [List.getElem?_toArray, List.getElem?_cons_zero, List.getElem?_cons_succ] at y0 y1 y2
        rw [hml] at hbm ⊢
        rw [hr] at hcc
        have hn0 : (0 : Int) ≤ (n : Int) := by omega
        have hown6 := own_bel HOWN.out hb6
        have hcb := check_any w6 w.heap.size ta va tl tc vl vc (.slice ra R.length rc) (.slice ko ks.length kc) R n ks (HR.out.below (hB6.mono (by omega))) (by omega) (HK5.out.below hb6) (by omega) hv64 H8.out
        rw [HK1.out] at hcb
        have HB6 := Lib.hid hB6
        have HO6 := Lib.hid hown6
        clear hrc hr hbm hvb2 t0 t1 t2 hown6 bx6 hb6 hB6
        go_wp2_with fail
        refine hcb.mono ?_
        rintro e w7 ⟨rfl, hb7⟩
        have hx := (own_bel HO6.out hb7).cellAt 0 (by simp)
        have hx2 : w7.cell? ⟨g, 0, none⟩ = some (.int .i64 n) := by rw [hx]; rfl
        have hgl : decide ((0 : Int) < ((((n : Int) :: X).length : Nat) : Int)) = true := decide_eq_true (by simp)
        have hgl2 : (0 : Int) < ((((n : Int) :: X).length : Nat) : Int) := by simp
        have hkd : decide ((0 : Int) < (ks.length : Int)) = true := decide_eq_true (by omega)
        generalize ((n : Int) :: X).length = gn at *
        clear hx
        go_wp2
        go_ret
        exact ⟨rfl, hbl.trans ((HB6.out.trans (hb7.mono (by omega))).mono (by omega))⟩
end Go.Proofs.Ytljkobijoenabaa.dv
namespace Go.Proofs.Ytljkobijoenabaa.dv
open Go.ChangeShapes Go.WideShapes Go.ChangeAt Go.RowKit Go.Maps Go.WideMaps Go.WideElems Go.Deep Go.Joins
set_option linter.unusedVariables false
set_option linter.unusedSimpArgs false
theorem in64_lit {x : Int} (h : (Lit.int IntKind.i64 x).wf = true) : In64 x := by
  simp only [Lit.wf, Bool.and_eq_true, decide_eq_true_eq] at h
  have e1 : IntKind.i64.min = -9223372036854775808 := by rfl
  have e2 : IntKind.i64.max = 9223372036854775807 := by rfl
  rw [e1, e2] at h
  exact ⟨h.1, by omega⟩
set_option maxRecDepth 100000 in
theorem sleftCycles_lifted (os : Os) (started : os.Started) (H : Type) (enc : TypeId × Value → H) :
    ReturnsInHanded {} Try.checked os 9 .any (Rows.leftCyclesSpec.pre6 enc Try.prog Try.f9 Rows.leftCyclesRow.domain false) (Rows.leftCyclesSpec.post enc Try.prog Try.f9 false true false false) := by
  refine returnsInHanded_of_change (C := Try.checked) own started (by kernel_rfl) Try.func9
    (ChangeSpec.witness6 (enc := enc) (C := Try.checked) false ⟨#[], #[.agg #[.slice none 0 0, .slice none 0 0, .slice none 0 0], .int .i64 0], []⟩ 8 (by kernel_rfl) (by kernel_rfl) (by kernel_rfl) (by kernel_rfl)) ?_
  intro W base args ds gs before hval0 hW hcnd _
  have hval : ∀ (j : Nat) t v, Try.f9.params[j]? = some t → args[j]? = some v → Value.okWide Try.prog W .any base t v := hval0
  have hW' := hW
  obtain ⟨p, q, hA0, hV, rfl, hfz, hnd⟩ := hW
  have hA : DataW.TrodAll enc Try.prog W 0 (fun _ => true) true Try.f9.params.toList args.toList ds p := hA0
  rw [Try.params9] at hA hval
  obtain ⟨v0, vs0, d0, ds0, p0, q0, hargs, rfl, rfl, h0, r0⟩ := trodAll_cons hA
  obtain ⟨v1, vs1, d1, ds1, p1, q1, rfl, rfl, rfl, h1, r1⟩ := trodAll_cons r0
  obtain ⟨rfl, rfl, rfl⟩ := trodAll_nil r1
  obtain rfl : args = #[v0, v1] := by cases args; simp_all
  obtain ⟨rfl, rfl⟩ := trodVars_none hV
  have h0k := h0
  obtain ⟨g0, g1, g2, y0, y1, y2, n, rfl, _, _, e0, e1, e2⟩ := open_agg3 Try.underlying25 (by kernel_rfl) (by kernel_rfl) (hval 0 25 v0 rfl rfl) h0
  replace e0 : DataW.trod enc Try.prog W 0 (fun _ => true) true n 22 [g0] = some y0 := e0
  replace e1 : DataW.trod enc Try.prog W 0 (fun _ => true) true n 22 [g1] = some y1 := e1
  replace e2 : DataW.trod enc Try.prog W 0 (fun _ => true) true n 23 [g2] = some y2 := e2
  obtain ⟨ta, tl, tc, rfl, _, _, _⟩ := slice_of Try.underlying22 e0
  obtain ⟨va, vl, vc, rfl, _, _, _⟩ := slice_of Try.underlying22 e1
  obtain ⟨ra, rl, rc, rfl, hr1, hr2, _⟩ := slice_of Try.underlying23 e2
  obtain ⟨hT1, hT2⟩ := strs_of e0
  obtain ⟨hV1, hV2⟩ := strs_of e1
  obtain ⟨R, rfl, hR, hwf⟩ := rules_of e2
  obtain ⟨x1, rfl, rfl, rfl, w1⟩ := open_int Try.underlying3 (hval 1 3 v1 rfl rfl) h1
  clear hA0 hval0
  simp only [List.append_nil, List.nil_append] at hW'
  have hlt : ∀ x ∈ p0, x.block < W.heap.size := fun x hx => by simpa using hW'.lt x (by simpa using hx)
  have hback0 : ∀ (W' : World), Below W.heap.size W W' → DataW.Trod enc Try.prog W' 0 (fun b => decide (b < W.heap.size)) true 25 (.agg #[.slice ta tl tc, .slice va vl vc, .slice ra R.length rc]) d0 p0 :=
    fun W' hn => Below.trod laidOut (by kernel_rfl) (of_decide_eq_true (by kernel_rfl)) h0k hn (fun x hx => hlt x (by simp [hx]))
  have hT : ∀ (W' : World), Below W.heap.size W W' → DataW.TrodAll enc Try.prog W' 0 (fun b => decide (b < W.heap.size)) true [25, 3] [.agg #[.slice ta tl tc, .slice va vl vc, .slice ra R.length rc], .int .i64 x1] [d0, .lit (.int .i64 x1)] (p0) := fun W' hn => by
    have h4 := (trodAll_cons_mk (hback0 _ hn) (trodAll_mk1 (shut_int (H := H) (enc := enc) (P := Try.prog) (w := W') (base := 0) (spare := fun b => decide (b < W.heap.size)) (held := true) Try.underlying3 w1)))
    simpa using h4
  refine (cycles_any W ta va ra tl tc vl vc rc x1 R hR hT1 hV1 (by omega) hT2 hV2 (in64_lit w1)).mono fun e W' ⟨he, hb⟩ => ?_
  subst he
  exact ⟨_, rfl, _, _, _, [], p0, [], hW', trodAll_mk1 (shut_bool Try.underlying4 _), hT W' hb, rfl, hb.frame _, fun h => by cases h⟩
theorem sleftCycles_said : Rows.LeftCyclesSaid :=
  OpenClaim.holds_of_wide 9 Try.f9 rfl rfl rfl rfl rfl rfl rfl ⟨rfl, rfl, rfl, rfl, rfl⟩ rfl rfl rfl rfl rfl (by kernel_rfl) Try.func9 (by kernel_rfl)
    (of_decide_eq_true (by kernel_rfl)) (by unfold Func.isWrapper; first | (rw [if_pos (by decide +kernel)]; kernel_rfl) | (rw [if_neg (by decide +kernel)]; exact ⟨rfl, rfl⟩))
    (fun os started H enc _ => sleftCycles_lifted os started H enc)
end Go.Proofs.Ytljkobijoenabaa.dv
namespace Go.Proofs.Ytljkobijoenabaa
theorem leftCycles_holds : Rows.LeftCyclesSaid := dv.sleftCycles_said
end Go.Proofs.Ytljkobijoenabaa
