import Derived.Maps.AppendAt
import Derived.Test.YtomikgkoegkofaaGreatDoorUsx
namespace Go.Proofs.YtomikgkoegkofaaGreatDoor.dv
open Go.ChangeShapes Go.WideShapes Go.ChangeAt Go.RowKit Go.Maps Go.WideMaps Go.WideElems
set_option linter.unusedVariables false
set_option linter.unusedSimpArgs false
/-! the document's Cost -/
attribute [local go_sem] run_store_fl
theorem passesF_snoc (R : List Rl) : ∀ (k : Nat) (f : Nat → Nat), passesF R (k + 1) f = passF R (passesF R k f)
  | 0, f => rfl
  | k + 1, f => by
    rw [passesF, passesF_snoc R k (passF R f)]
    rfl
theorem passF_snoc : ∀ {R : List Rl} {k : Nat} {r : Rl}, R[k]? = some r → ∀ f : Nat → Nat, passF (R.take (k + 1)) f = upd (passF (R.take k) f) r.left.toNat (min (passF (R.take k) f r.left.toNat) (sumC (passF (R.take k) f) r.right))
  | [], k, r, h, f => by cases h
  | q :: R, 0, r, h, f => by
    simp only [List.getElem?_cons_zero, Option.some.injEq] at h
    subst h
    rfl
  | q :: R, k + 1, r, h, f => by
    rw [List.getElem?_cons_succ] at h
    rw [List.take_succ_cons, List.take_succ_cons, passF, passF]
    exact passF_snoc h _
def NF (n : Nat) (f : Nat → Nat) : List Value := IV ((List.range n).map fun x => (f x : Int))
theorem nf_get {n x : Nat} (f : Nat → Nat) (hx : x < n) : (NF n f)[x]? = some (.int .i64 (f x : Nat)) := by
  unfold NF IV
  rw [List.getElem?_map, List.getElem?_map, List.getElem?_range hx]
  rfl
theorem nf_upd (n : Nat) (f : Nat → Nat) (k u : Nat) : NF n (upd f k u) = (NF n f).set k (.int .i64 (u : Nat)) := by
  refine List.ext_getElem? (fun i => ?_)
  rw [List.getElem?_set]
  by_cases hi : i < n
  · rw [nf_get _ hi, nf_get _ hi]
    have hl : (NF n f).length = n := by simp [NF, IV]
    unfold upd
    by_cases e : k = i
    · rw [if_pos e.symm, if_pos e, if_pos (by omega)]
    · rw [if_neg (fun h => e h.symm), if_neg e]
  · have hl : (NF n f).length = n := by simp [NF, IV]
    have hl2 : (NF n (upd f k u)).length = n := by simp [NF, IV]
    rw [List.getElem?_eq_none (by omega), List.getElem?_eq_none (by omega)]
    by_cases e : k = i
    · rw [if_pos e, if_neg (by omega)]
    · rw [if_neg e]
theorem sumC_snoc {f : Nat → Nat} {F : List Int} {j : Nat} (hj : j < F.length) : sumC f (F.take (j + 1)) = sumC f (F.take j) + (if F.getD j 0 < 0 then 1 else f (F.getD j 0).toNat) := by
  unfold sumC
  rw [List.take_succ_eq_append_getElem hj, List.map_append, List.sum_append, List.getD_eq_getElem?_getD, List.getElem?_eq_getElem hj]
  simp
structure StC (w : World) (gc : Array Value) (g cp vl : Nat) (f : Nat → Nat) (W : World) : Prop where
  gram : Blk W w.heap.size 25 gc
  below : Below w.heap.size w W
  row : W.ownsRow w.heap.size 3 1 (.slice (some ⟨g, 0, none⟩) vl cp) vl (NF vl f)
  top : ∀ x, f x ≤ Far
section
variable {w : World} {gc : Array Value} {g cp vl : Nat} {f : Nat → Nat} {W W' : World}
theorem StC.get (h : StC w gc g cp vl f W) {x : Nat} (hx : x < vl) : W.cell? ⟨g, x, none⟩ = some (.int .i64 (f x : Nat)) := by
  rw [h.row.cellAt x (by omega)]
  exact nf_get f hx
theorem StC.put (h : StC w gc g cp vl f W) (x y : Nat) (hy : y ≤ Far) : StC w gc g cp vl (upd f x y) (W.setCell ⟨g, x, none⟩ (.int .i64 (y : Nat))) := by
  obtain ⟨o1, o2⟩ := h.row.stored x (.int .i64 (y : Nat))
  refine ⟨h.gram.grown o2 (h.gram.not_row (by decide) h.row), h.below.grown o2 h.below.size (fun r e => (row_cells h.row r e).1), by rw [nf_upd]; exact o1, fun v => ?_⟩
  unfold upd
  split
  · exact hy
  · exact h.top v
theorem StC.drew (h : StC w gc g cp vl f W) : StC w gc g cp vl f W.drew := ⟨h.gram, h.below.drew, h.row, h.top⟩
end
theorem pass_top (f : Nat → Nat) (hf : ∀ v, f v ≤ Far) (R : List Rl) (v : Nat) : passF R f v ≤ Far := Nat.le_trans (pass_le R f v) (hf v)
theorem far_min (a j : Nat) : min a Far ≤ Far + (j + 1) := Nat.le_trans (Nat.min_le_right _ _) (Nat.le_add_right _ _)
theorem far_more {a j : Nat} (h : a ≤ Far + j) : a + 1 ≤ Far + (j + 1) := by omega
theorem far_cap {a b c : Nat} (F : Nat) (h : min a F = min b F) (y : Nat) (hc : c = b + y) : min (min (a + y) F) F = min c F := by omega
theorem far_one {a b c : Nat} (F : Nat) (h : min a F = min b F) (hc : c = b + 1) : min (a + 1) F = min c F := by omega
theorem far_int (a y : Nat) : min ((a : Int) + (y : Int)) 1073741824 = ((min (a + y) Far : Nat) : Int) := by
  have e : Far = 1073741824 := rfl
  rw [e]
  omega
set_option maxRecDepth 100000 in
set_option maxHeartbeats 4000000 in
theorem rcost_any (w : World) (B : Nat) (ta va : Option Addr) (tl tc vl vc : Nat) (rv : Value) (R : List Rl) (hR : RulesAt B w rv R) (hB : B ≤ w.heap.size) (hl : ∀ r ∈ R, 0 ≤ r.left ∧ r.left < vl) (hvr : ∀ r ∈ R, ∀ s ∈ r.right, 0 ≤ s → s < vl) (hv : vl ≤ 1000) (hv0 : 0 < vl) (h8 : ∀ r ∈ R, r.right.length ≤ 8) :
    Calls Tryz.prog 11 #[.agg #[.slice ta tl tc, .slice va vl vc, rv]] w fun e w' => ∃ v, e = .returned v ∧ w'.ownsRow w.heap.size 3 1 v vl (NF vl (passesF R vl (fun _ => Far))) ∧ Below w.heap.size w w' := by
  obtain ⟨i0, hi0, hz0, hz1, hz2⟩ := info_parts info_int
  obtain ⟨ra, rc, rfl, hn, _⟩ := id hR
  have b0 := Blk.new w 25 #[.slice ta tl tc, .slice va vl vc, .slice ra R.length rc]
  have hbl : Below w.heap.size w (w.alloc (.cells #[.slice ta tl tc, .slice va vl vc, .slice ra R.length rc] 25)) := (Below.refl _ w).alloc (Nat.le_refl _) _
  have hR63 : R.length ≤ 9223372036854775807 := by unfold maxLen at hn; omega
  have hz : (w.alloc (.cells #[.slice ta tl tc, .slice va vl vc, .slice ra R.length rc] 25)).heap.size = w.heap.size + 1 := by simp
  generalize hW0 : w.alloc (.cells #[.slice ta tl tc, .slice va vl vc, .slice ra R.length rc] 25) = w0 at *
  have HR := Lib.hid hR
  have HL := Lib.hid hl
  have HVR := Lib.hid hvr
  have H8 := Lib.hid h8
  have HB0 := Lib.hid b0
  have HBL := Lib.hid hbl
  have HZ := Lib.hid hz
  have hrow0 : (w0.alloc (.cells #[] 3)).ownsRow w.heap.size 3 1 (.slice (some ⟨w0.heap.size, 0, none⟩) 0 0) 0 (NF 0 (fun _ => Far)) := World.ownsRow_lit (base := w.heap.size) (e := 3) (size := 1) w0 #[] 0 (by omega) (by decide) rfl
  have HROW0 := Lib.hid hrow0
  clear hR hl hvr h8 b0 hbl hrow0
  go_enter Tryz.func11, Tryz.ntmps11
  go_wp2
  go_loopw [3, 4] (fun cv q W => ∃ k : Nat, k ≤ vl ∧ q = .int .i64 k ∧ Blk W w.heap.size 25 #[.slice ta tl tc, .slice va vl vc, .slice ra R.length rc] ∧ Below w.heap.size w W ∧ W.ownsRow w.heap.size 3 1 cv k (NF k (fun _ => Far))) (fun _ q _ => vl - (intOf q).toNat)
  case atStart => exact ⟨0, Nat.zero_le _, rfl, HB0.out.alloc _, HBL.out.alloc (by have := HZ.out; omega) _, by rw [← HZ.out]; exact HROW0.out⟩
  case round =>
    obtain ⟨W, rfl⟩ : ∃ W : World, W = wr := ⟨_, rfl⟩
    obtain ⟨k, hk, hq, hbx, hbw, hrw⟩ := hrel
    obtain rfl := hq
    have WBX := Lib.hid hbx
    have WBW := Lib.hid hbw
    have WRW := Lib.hid hrw
    have c1 := hbx.cell 1
    simp only [List.getElem?_toArray, List.getElem?_cons_zero, List.getElem?_cons_succ] at c1
    clear hbx hbw hrw
    by_cases hlt : k < vl
    · have hlt2 : (k : Int) < (vl : Int) := by omega
      have hnw := one_new W 3 (.int .i64 1073741824)
      have HRA := Lib.hid (WRW.out.alloc (.cells #[.int .i64 1073741824] 3))
      have hsz : w.heap.size ≤ (W.alloc (.cells #[.int .i64 1073741824] 3)).heap.size := by rw [World.size_alloc]; have := WBW.out.size; omega
      go_wp2_with (at_builtin; refine wpList_append_own_at _ rfl _ _ 28 rfl w.heap.size 3 i0 (.int .i64 0) 1 8 Tryz.underlying28 hi0 hz0 hz1 hz2 rfl (by decide) u3 k (NF k (fun _ => Far)) rfl HRA.out _ 1 1 [.int .i64 1073741824] rfl rfl hnw (by simp [Value.oneCell']) (by unfold maxLen; omega) (by omega) hsz ?_; intro u32 W8 hown8 hgrow8 hnil8 hat8)
      have e : NF (k + 1) (fun _ => Far) = NF k (fun _ => Far) ++ [.int .i64 1073741824] := by unfold NF IV Far; rw [List.range_succ, List.map_append, List.map_append]; rfl
      exact ⟨⟨k + 1, hlt, congrArg (Value.int .i64) (by omega), (WBX.out.alloc _).grown hgrow8 ((WBX.out.alloc _).not_row (by decide) HRA.out), (WBW.out.alloc WBW.out.size _).grown hgrow8 hsz (fun r e => (row_cells HRA.out r e).1), by rw [e]; exact hown8⟩, by simp only [intOf]; omega⟩
    · obtain rfl : k = vl := by omega
      obtain ⟨g, cp, rfl, _, _⟩ := World.ownsRow.form WRW.out hv0
      have hst0 : StC w #[.slice ta tl tc, .slice va k vc, .slice ra R.length rc] g cp k (fun _ => Far) W := ⟨WBX.out, WBW.out, WRW.out, fun _ => Nat.le_refl _⟩
      have HST0 := Lib.hid hst0
      clear hst0
      go_wp2
      go_loopw [5] (fun q W => ∃ n : Nat, n ≤ k ∧ q = .int .i64 n ∧ StC w #[.slice ta tl tc, .slice va k vc, .slice ra R.length rc] g cp k (passesF R n (fun _ => Far)) W) (fun q _ => k - (intOf q).toNat)
      case atStart => exact ⟨0, Nat.zero_le _, rfl, HST0.out⟩
      case round =>
        obtain ⟨X, rfl⟩ : ∃ X : World, X = wr := ⟨_, rfl⟩
        obtain ⟨n, hnk, hq, hst⟩ := hrel
        obtain rfl := hq
        have XST := Lib.hid hst
        have d1 := hst.gram.cell 1
        simp only [List.getElem?_toArray, List.getElem?_cons_zero, List.getElem?_cons_succ] at d1
        clear hst HST0 WBX WBW WRW
        have HSN := Lib.hid (passesF_snoc R n (fun _ => Far))
        generalize hFE : passesF R n (fun _ => Far) = f at *
        have HFE := Lib.hid hFE
        clear hFE
        by_cases hnt : n < k
        · have hnt2 : (n : Int) < (k : Int) := by omega
          go_wp2
          go_loopw [6] (fun q W => ∃ i : Nat, i ≤ R.length ∧ q = .int .i64 i ∧ StC w #[.slice ta tl tc, .slice va k vc, .slice ra R.length rc] g cp k (passF (R.take i) f) W) (fun q _ => R.length - (intOf q).toNat)
          case atStart => exact ⟨0, Nat.zero_le _, rfl, XST.out⟩
          case round =>
            obtain ⟨Y, rfl⟩ : ∃ Y : World, Y = wr := ⟨_, rfl⟩
            obtain ⟨i, hir, hq, hst⟩ := hrel
            obtain rfl := hq
            have YST := Lib.hid hst
            have e2 := hst.gram.cell 2
            simp only [List.getElem?_toArray, List.getElem?_cons_zero, List.getElem?_cons_succ] at e2
            clear d1
            by_cases hit : i < R.length
            · obtain ⟨r, hrk⟩ : ∃ r, R[i]? = some r := ⟨_, List.getElem?_eq_getElem hit⟩
              have hrm := List.mem_of_getElem? hrk
              obtain ⟨hl0, hl1⟩ := HL.out r hrm
              have hvr := HVR.out r hrm
              have h8 := H8.out r hrm
              have hsn := passF_snoc hrk f
              obtain ⟨ra', rc', er, _, hr2⟩ := HR.out.far (hst.below.mono hB)
              cases er
              obtain ⟨a2, rfl, hab2, ao2, c2, h1, h2, h3, h4, h5, h6, h7, h8'⟩ := hr2 i r hrk
              rw [addf a2 (i * 3) 1 (by decide)] at h2
              obtain ⟨lf, F, wt⟩ := r
              dsimp only at hl0 hl1 h1 h2 h3 h4 h5 h6 h7 h8' hvr h8 hsn
              obtain ⟨lv, rfl⟩ : ∃ lv : Nat, lf = lv := ⟨lf.toNat, by omega⟩
              rw [Int.toNat_natCast] at hsn
              have hlv : lv < k := by omega
              have hF63 : F.length ≤ 9223372036854775807 := by unfold maxLen at h5; omega
              generalize hPE : passF (R.take i) f = P at *
              have HF7 := Lib.hid h7
              have HVF := Lib.hid hvr
              have HSNP := Lib.hid hsn
              have HTOP := Lib.hid hst.top
              have hi0' : (0 : Int) ≤ (i : Int) := by omega
              have hi1 : (i : Int) < (R.length : Int) := by omega
              clear hst hr2 h3 h4 h5 h6 h7 h8' hrk hrm hvr hsn XST hPE
              go_wp2
              go_loopw [7, 8] (fun qs q wr => ∃ j sm : Nat, j ≤ F.length ∧ qs = .int .i64 sm ∧ q = .int .i64 j ∧ min sm Far = min (sumC P (F.take j)) Far ∧ sm ≤ Far + j ∧ wr = Y) (fun _ q _ => F.length - (intOf q).toNat)
              case atStart => exact ⟨0, 0, Nat.zero_le _, rfl, rfl, rfl, Nat.zero_le _, by first | exact rfl | trivial⟩
              case round =>
                obtain ⟨j, sm, hj, hqs, hq, hsum, hsm, hww⟩ := hrel
                obtain rfl := hqs
                obtain rfl := hq
                obtain rfl : Y = wr := hww.symm
                clear hww
                have HSUM := Lib.hid hsum
                have HSM := Lib.hid hsm
                have hsm2 : sm ≤ 1073741824 + j := hsm
                clear hsum hsm
                by_cases hjt : j < F.length
                · obtain ⟨a3, rfl, hab3, hca⟩ := HF7.out j hjt
                  have hsv := HVF.out (F.getD j 0) (by rw [List.getD_eq_getElem?_getD, List.getElem?_eq_getElem hjt]; exact List.getElem_mem _)
                  have hsc := sumC_snoc (f := P) hjt
                  have HSC := Lib.hid hsc
                  have hj0 : (0 : Int) ≤ (j : Int) := by omega
                  have hj1 : (j : Int) < (F.length : Int) := by omega
                  clear hsc
                  generalize F.getD j 0 = s at *
                  by_cases hs0 : 0 ≤ s
                  · have hs1 := hsv hs0
                    obtain ⟨sn, rfl⟩ : ∃ sn : Nat, s = sn := ⟨s.toNat, by omega⟩
                    have hsn : sn < k := by omega
                    have hcs := YST.out.get hsn
                    have htp := HTOP.out sn
                    have hd0 : decide ((sn : Int) < 0) = false := decide_eq_false (by omega)
                    have hnd := HSC.out
                    rw [if_neg (by omega), Int.toNat_natCast] at hnd
                    obtain ⟨y, hy⟩ : ∃ y, y = P sn := ⟨_, rfl⟩
                    rw [← hy] at hcs hnd htp
                    have htp2 : y ≤ 1073741824 := htp
                    have HND := Lib.hid hnd
                    clear hnd hy htp
                    go_wp2
                    exact ⟨⟨j + 1, min (sm + y) Far, hjt, congrArg (Value.int .i64) (far_int sm y), congrArg (Value.int .i64) (by omega), far_cap Far HSUM.out y HND.out, far_min _ _, by first | exact rfl | trivial⟩, by simp only [intOf]; omega⟩
                  · have hd0 : decide (s < 0) = true := decide_eq_true (by omega)
                    have hnd := HSC.out
                    rw [if_pos (by omega)] at hnd
                    have HND := Lib.hid hnd
                    clear hnd
                    go_wp2
                    exact ⟨⟨j + 1, sm + 1, hjt, congrArg (Value.int .i64) (by omega), congrArg (Value.int .i64) (by omega), far_one Far HSUM.out HND.out, far_more HSM.out, by first | exact rfl | trivial⟩, by simp only [intOf]; omega⟩
                · obtain rfl : j = F.length := by omega
                  have hcl := YST.out.get hlv
                  have hsd := YST.out.drew
                  have hfz : (World.drew Y).frozen? ⟨g, lv, none⟩ = false := hsd.row.frozenAt lv
                  have hput : ∀ z : Int, z = ((min (P lv) sm : Nat) : Int) → StC w #[.slice ta tl tc, .slice va k vc, .slice (some a2) R.length rc] g cp k (passF (R.take (i + 1)) f) ((World.drew Y).setCell ⟨g, lv, none⟩ (.int .i64 z)) := fun z hz => by
                    have h1 := HSUM.out
                    rw [List.take_length] at h1
                    have h2 := HTOP.out lv
                    have e : min (P lv) (sumC P F) = min (P lv) sm := by omega
                    rw [hz, HSNP.out, e]
                    exact hsd.put lv (min (P lv) sm) (by omega)
                  obtain ⟨pl, hpl⟩ : ∃ y, y = P lv := ⟨_, rfl⟩
                  rw [← hpl] at hcl hput
                  have HPUT := Lib.hid hput
                  have hlv0 : (0 : Int) ≤ (lv : Int) := by omega
                  clear hput hsd hpl
                  go_wp2
                  refine wp_region_EQ (fun U => U.cell? ⟨w.heap.size, 2, none⟩ = some (.slice (some a2) R.length rc) ∧ U.cell? (a2.add (i * 3)) = some (.int .i64 lv) ∧ U.cell? ⟨g, lv, none⟩ = some (.int .i64 (pl : Nat))) [19] (by kernel_rfl) ?_
                  have HS : _ := And.intro (DRC Y _ _ e2) (And.intro (DRC Y _ _ h1) (DRC Y _ _ hcl))
                  change anyE _ _ _ _ _ _ _ _ _ (World.drew _)
                  refine anyE_take (i := 0) (v := ?_) rfl (by kernel_rfl) (by kernel_rfl) (by kernel_rfl) (by kernel_rfl) (by kernel_rfl) (fun c _ _ h => absurd rfl (h.1 c)) (Or.inl ⟨by kernel_rfl, ?_⟩) HS ?_
                  rotate_left
                  · intro w _; go_simp; with_reducible rfl
                  refine anyE_take (i := 1) (v := ?_) rfl (by kernel_rfl) (by kernel_rfl) (by kernel_rfl) (by kernel_rfl) (by kernel_rfl) (fun c _ _ h => absurd rfl (h.1 c)) (Or.inl ⟨by kernel_rfl, ?_⟩) HS ?_
                  rotate_left
                  · intro w _; go_simp; with_reducible rfl
                  refine anyE_take (i := 2) (v := ?_) rfl (by kernel_rfl) (by kernel_rfl) (by kernel_rfl) (by kernel_rfl) (by kernel_rfl) (fun c _ _ h => absurd rfl (h.1 c)) (Or.inl ⟨by kernel_rfl, ?_⟩) HS ?_
                  rotate_left
                  · intro w hw; have hw := hw.1; go_simp; with_reducible rfl
                  refine anyE_take (i := 3) (v := ?_) rfl (by kernel_rfl) (by kernel_rfl) (by kernel_rfl) (by kernel_rfl) (by kernel_rfl) (fun c _ _ h => absurd rfl (h.1 c)) (Or.inl ⟨by kernel_rfl, ?_⟩) HS ?_
                  rotate_left
                  · intro w _; go_simp; with_reducible rfl
                  refine anyE_take (i := 4) (v := ?_) rfl (by kernel_rfl) (by kernel_rfl) (by kernel_rfl) (by kernel_rfl) (by kernel_rfl) (fun c _ _ h => absurd rfl (h.1 c)) (Or.inl ⟨by kernel_rfl, ?_⟩) HS ?_
                  rotate_left
                  · intro w _; go_simp; with_reducible rfl
                  refine anyE_take (i := 5) (v := ?_) rfl (by kernel_rfl) (by kernel_rfl) (by kernel_rfl) (by kernel_rfl) (by kernel_rfl) (fun c _ _ h => absurd rfl (h.1 c)) (Or.inl ⟨by kernel_rfl, ?_⟩) HS ?_
                  rotate_left
                  · intro w _; go_simp; with_reducible rfl
                  refine anyE_take (i := 6) (v := ?_) rfl (by kernel_rfl) (by kernel_rfl) (by kernel_rfl) (by kernel_rfl) (by kernel_rfl) (fun c _ _ h => absurd rfl (h.1 c)) (Or.inl ⟨by kernel_rfl, ?_⟩) HS ?_
                  rotate_left
                  · intro w hw; have hw := hw.2.1; go_simp; with_reducible rfl
                  refine anyE_take (i := 7) (v := ?_) rfl (by kernel_rfl) (by kernel_rfl) (by kernel_rfl) (by kernel_rfl) (by kernel_rfl) (fun c _ _ h => absurd rfl (h.1 c)) (Or.inl ⟨by kernel_rfl, ?_⟩) HS ?_
                  rotate_left
                  · intro w _; go_simp; with_reducible rfl
                  refine anyE_take (i := 8) (v := ?_) rfl (by kernel_rfl) (by kernel_rfl) (by kernel_rfl) (by kernel_rfl) (by kernel_rfl) (fun c _ _ h => absurd rfl (h.1 c)) (Or.inl ⟨by kernel_rfl, ?_⟩) HS ?_
                  rotate_left
                  · intro w _; go_simp; with_reducible rfl
                  refine anyE_take (i := 9) (v := ?_) rfl (by kernel_rfl) (by kernel_rfl) (by kernel_rfl) (by kernel_rfl) (by kernel_rfl) (fun c _ _ h => absurd rfl (h.1 c)) (Or.inl ⟨by kernel_rfl, ?_⟩) HS ?_
                  rotate_left
                  · intro w hw; have hw := hw.1; go_simp; with_reducible rfl
                  refine anyE_take (i := 10) (v := ?_) rfl (by kernel_rfl) (by kernel_rfl) (by kernel_rfl) (by kernel_rfl) (by kernel_rfl) (fun c _ _ h => absurd rfl (h.1 c)) (Or.inl ⟨by kernel_rfl, ?_⟩) HS ?_
                  rotate_left
                  · intro w _; go_simp; with_reducible rfl
                  refine anyE_take (i := 11) (v := ?_) rfl (by kernel_rfl) (by kernel_rfl) (by kernel_rfl) (by kernel_rfl) (by kernel_rfl) (fun c _ _ h => absurd rfl (h.1 c)) (Or.inl ⟨by kernel_rfl, ?_⟩) HS ?_
                  rotate_left
                  · intro w _; go_simp; with_reducible rfl
                  refine anyE_take (i := 12) (v := ?_) rfl (by kernel_rfl) (by kernel_rfl) (by kernel_rfl) (by kernel_rfl) (by kernel_rfl) (fun c _ _ h => absurd rfl (h.1 c)) (Or.inl ⟨by kernel_rfl, ?_⟩) HS ?_
                  rotate_left
                  · intro w _; go_simp; with_reducible rfl
                  refine anyE_take (i := 13) (v := ?_) rfl (by kernel_rfl) (by kernel_rfl) (by kernel_rfl) (by kernel_rfl) (by kernel_rfl) (fun c _ _ h => absurd rfl (h.1 c)) (Or.inl ⟨by kernel_rfl, ?_⟩) HS ?_
                  rotate_left
                  · intro w hw; have hw := hw.2.1; go_simp; with_reducible rfl
                  refine anyE_take (i := 14) (v := ?_) rfl (by kernel_rfl) (by kernel_rfl) (by kernel_rfl) (by kernel_rfl) (by kernel_rfl) (fun c _ _ h => absurd rfl (h.1 c)) (Or.inl ⟨by kernel_rfl, ?_⟩) HS ?_
                  rotate_left
                  · intro w _; go_simp; with_reducible rfl
                  refine anyE_take (i := 15) (v := ?_) rfl (by kernel_rfl) (by kernel_rfl) (by kernel_rfl) (by kernel_rfl) (by kernel_rfl) (fun c _ _ h => absurd rfl (h.1 c)) (Or.inl ⟨by kernel_rfl, ?_⟩) HS ?_
                  rotate_left
                  · intro w hw; have hw := hw.2.2; go_simp; with_reducible rfl
                  refine anyE_take (i := 16) (v := ?_) rfl (by kernel_rfl) (by kernel_rfl) (by kernel_rfl) (by kernel_rfl) (by kernel_rfl) (fun c _ _ h => absurd rfl (h.1 c)) (Or.inl ⟨by kernel_rfl, ?_⟩) HS ?_
                  rotate_left
                  · intro w _; go_simp; with_reducible rfl
                  refine anyE_take (i := 17) (v := ?_) rfl (by kernel_rfl) (by kernel_rfl) (by kernel_rfl) (by kernel_rfl) (by kernel_rfl) (fun c _ _ h => absurd rfl (h.1 c)) (Or.inl ⟨by kernel_rfl, ?_⟩) HS ?_
                  rotate_left
                  · intro w _; go_simp; with_reducible rfl
                  refine anyE_take (i := 18) (v := ?_) rfl (by kernel_rfl) (by kernel_rfl) (by kernel_rfl) (by kernel_rfl) (by kernel_rfl) (fun c _ _ h => absurd rfl (h.1 c)) (Or.inl ⟨by kernel_rfl, ?_⟩) HS ?_
                  rotate_left
                  · intro w _; go_simp; with_reducible rfl
                  refine anyE_rest (by kernel_rfl) ?_
                  refine wpAny_ready (rs := [19]) (by kernel_rfl) (by simp) ?_
                  refine AllReady.cons rfl (fun K hK => ?_) AllReady.nil
                  go_simp
                  refine hK _ _ ?_
                  clear hK K
                  refine wpAny_done (by kernel_rfl) ?_ _
                  refine ⟨(fun c h => by cases h), ?_⟩
                  go_wp2
                  exact ⟨⟨i + 1, hit, congrArg (Value.int .i64) (by omega), HPUT.out _ (by omega)⟩, by simp only [intOf]; omega⟩
            · obtain rfl : i = R.length := by omega
              clear hst
              go_wp2
              refine ⟨⟨n + 1, hnt, congrArg (Value.int .i64) (by omega), ?_⟩, by simp only [intOf]; omega⟩
              have h := YST.out
              rw [List.take_length] at h
              rw [HSN.out]
              exact h
        · obtain rfl : n = k := by omega
          go_wp2
          go_ret
          exact ⟨_, rfl, by rw [HFE.out]; exact XST.out.row, XST.out.below⟩
end Go.Proofs.YtomikgkoegkofaaGreatDoor.dv
