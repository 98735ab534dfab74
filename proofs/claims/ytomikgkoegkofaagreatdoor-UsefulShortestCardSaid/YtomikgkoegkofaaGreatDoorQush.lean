/- For any grammar and number the law UsefulShortest returns true, and what it was handed reads afterwards as it did; no condition but that the listed library variables hold what their text lays. -/
import Derived.Test.YtomikgkoegkofaaGreatDoorVb
import Derived.Test.YtomikgkoegkofaaGreatDoorDvx
import Derived.Test.YtomikgkoegkofaaGreatDoorUmb
import Derived.Test.YtomikgkoegkofaaGreatDoorVc
import Derived.Test.YtomikgkoegkofaaGreatDoorDvw
import Derived.Test.YtomikgkoegkofaaGreatDoorCards
import Derived.Test.YtomikgkoegkofaaGreatDoorTie
import Derived.SevenTiedAt
import Derived.ChangeMaps5
import Derived.Lay
namespace Go.Proofs.YtomikgkoegkofaaGreatDoor.dv
open Go.ChangeShapes Go.WideShapes Go.ChangeAt Go.RowKit Go.Maps Go.WideMaps Go.WideElems
set_option linter.unusedVariables false
set_option linter.unusedSimpArgs false
/-! UsefulShortest -/
theorem term_of_rest2 {G : List Int} (h : restW G = []) : ∀ x ∈ G, x < 0 := fun x hx => by
  rw [← lead_rest G, h, List.append_nil] at hx
  exact lead_neg G x hx
theorem readB_cell2 {w : World} {o : Option Addr} {cp : Nat} {S : List Bool} (h : ReadB w (.slice o S.length cp) S) {i : Nat} (hi : i < S.length) : ∃ a : Addr, o = some a ∧ a.block < w.heap.size ∧ w.cell? (a.add i) = some (.bool (S.getD i false)) := by
  obtain ⟨ao, c, e, _, hc⟩ := h
  cases e
  exact hc i hi
theorem useW_len2 (R : List Rl) (n : Nat) : (useW R n).length = n := by
  unfold useW
  rw [marksR_len]
  unfold startB
  split <;> simp
theorem prodW_len2 (R : List Rl) (b : Bool) (n : Nat) : (roundsB R b n (List.replicate n false)).length = n := by rw [rounds_len]; simp
/-- as many steps as are told -/
theorem exps_len {R : List Rl} {n : Nat} {W : List Way} (hI : Inv R n W) (hd : Done R W) (h8 : ∀ r ∈ R, r.right.length ≤ 8) (hn : n ≤ 8) {F ks : List Int} (h : Exps R W F ks) : (∀ s ∈ F, 0 ≤ s → s.toNat < n) → (∀ r ∈ R, ∀ s ∈ r.right, 0 ≤ s → s.toNat < n) → ks.length = sS W F := by
  obtain ⟨rk, hb, hs⟩ := steps_small hI hd h8 hn
  intro hF hR
  induction h with
  | nil => rfl
  | @term s F ks h0 _ ih =>
    rw [ih (fun x hx => hF x (List.mem_cons_of_mem _ hx))]
    unfold sS wat
    simp [h0]
  | @var s k r F ks h0 h1 h2 _ ih =>
    have hsn := hF s List.mem_cons_self h0
    have hst := (hs 8 s.toNat k r hsn (by have := hb _ hsn; omega) h1 h2).2.1 (Nat.le_refl _)
    have hrr : r ∈ R := List.mem_of_getElem? h2
    rw [List.length_cons, ih (fun x hx => by
      rcases List.mem_append.1 hx with hx | hx
      · exact hR r hrr x hx
      · exact hF x (List.mem_cons_of_mem _ hx))]
    unfold sS at *
    simp only [List.map_append, List.sum_append, List.map_cons, List.sum_cons, wat_var h0]
    omega
theorem way_rule {R : List Rl} {n : Nat} {W : List Way} (hI : Inv R n W) (u : Nat) (h : 0 ≤ (W.getD u noW).2.2) : (W.getD u noW).2.2 < R.length := by
  rcases hI.form u with he | ⟨_, k, r, e1, e2, _⟩
  · rw [he] at h
    exact absurd h (by decide)
  · have := (List.getElem?_eq_some_iff.1 e2).1
    omega
theorem way_wide {R : List Rl} {n : Nat} {W : List Way} (hI : Inv R n W) (hd : Done R W) (h8 : ∀ r ∈ R, r.right.length ≤ 8) (hn : n ≤ 8) {v : Nat} (hv : v < n) (hc : (W.getD v noW).1 ≠ Far) (hst : 4096 < (W.getD v noW).2.1) : 4096 < wpasses R W n n (fun _ => 0) v := by
  rcases hI.form v with he | ⟨_, k, r, e1, e2, _⟩
  · exact absurd (by rw [he]; rfl) hc
  · rw [wide_known hI hd h8 hn _ v k r hv e1 e2]
    omega
theorem prod_of {R : List Rl} {n : Nat} (hl : ∀ r ∈ R, 0 ≤ r.left ∧ r.left < (n : Int)) {v : Nat} {ks G : List Int} (h : replW R [(v : Int)] ks 0 = (G, 0, 0)) (hG : ∀ s ∈ G, s < 0) : (roundsB R false n (List.replicate n false)).getD v false = true := by
  have hc := prod_closed false hl
  have h1 := (back_all (fun s => at_ (roundsB R false n (List.replicate n false)) s = true) (fun r hr hs => hc r hr (allB_of hs)) ks [(v : Int)] 0 G h hG).1 (v : Int) (by simp) (by omega)
  exact h1
theorem exps_pos {R : List Rl} {W : List Way} {v : Nat} {ks : List Int} (h : Exps R W [(v : Int)] ks) : 0 < ks.length := by
  cases h with
  | term h0 _ => omega
  | var _ _ _ _ => simp
set_option maxRecDepth 100000 in
set_option maxHeartbeats 8000000 in
theorem ushortest_any (w : World) (ta va ra : Option Addr) (tl tc vl vc rc : Nat) (v : Int) (R : List Rl) (hR : RulesAt w.heap.size w (.slice ra R.length rc) R) (hT : StrsAt w.heap.size w ta tl) (hV : StrsAt w.heap.size w va vl) (hn : R.length ≤ maxLen) (ht : tl ≤ maxLen) (hv : vl ≤ maxLen) :
    Calls Tryz.prog 4 #[.agg #[.slice ta tl tc, .slice va vl vc, .slice ra R.length rc], .int .i64 v] w fun e w' => e = .returned (.bool true) ∧ Below w.heap.size w w' := by
  have b0 := Blk.new w 25 #[.slice ta tl tc, .slice va vl vc, .slice ra R.length rc]
  have hbl : Below w.heap.size w (w.alloc (.cells #[.slice ta tl tc, .slice va vl vc, .slice ra R.length rc] 25)) := below_lit _ _ _
  have hR1 := hR.below hbl
  have hT1 := hT.below hbl
  have hV1 := hV.below hbl
  generalize hW0 : w.alloc (.cells #[.slice ta tl tc, .slice va vl vc, .slice ra R.length rc] 25) = w0 at *
  have hz0 : w0.heap.size = w.heap.size + 1 := by rw [← hW0]; simp
  have HR := Lib.hid hR1
  have HT := Lib.hid hT1
  have HV := Lib.hid hV1
  have HB0 := Lib.hid b0
  have HBL := Lib.hid hbl
  have HZ0 := Lib.hid hz0
  clear hR hT hV hR1 hT1 hV1
  have HSS : Hid (∀ y, Below (w.heap.size + 1) w0 y → y.cell? ⟨w.heap.size, 0, none⟩ = some (.slice ta tl tc) ∧ y.cell? ⟨w.heap.size, 1, none⟩ = some (.slice va vl vc) ∧ y.cell? ⟨w.heap.size, 2, none⟩ = some (.slice ra R.length rc)) := Lib.hid (fun y hy => by
    have bx := HB0.out.below hy (by omega)
    have x0 := bx.cell 0
    have x1 := bx.cell 1
    have x2 := bx.cell 2
    simp only [List.getElem?_toArray, List.getElem?_cons_zero, List.getElem?_cons_succ] at x0 x1 x2
    exact ⟨x0, x1, x2⟩)
  clear b0 hbl hz0
  go_enter Tryz.func4, Tryz.ntmps4
  go_wp2_with fail
  refine (ualive_any w0).mono ?_
  rintro e w1 ⟨rfl, hb1⟩
  have HB1 := Lib.hid (show Below (w.heap.size + 1) w0 w1 from hb1.mono (by have := HZ0.out; omega))
  have HZ1 := Lib.hid (show w.heap.size + 1 ≤ w1.heap.size by have := HB1.out.size; have := HZ0.out; omega)
  obtain ⟨p0, p1, p2⟩ := HSS.out _ HB1.out
  clear hb1 hW0
  go_wp2_with fail
  refine (few_any w1 w.heap.size ta va ra tl tc vl vc rc R (HR.out.below (HB1.out.mono (by omega))) (by have := HZ1.out; omega) hn ht hv).mono ?_
  rintro e w2 ⟨b, rfl, hfew, hb2⟩
  have HB2 := Lib.hid (HB1.out.trans (hb2.mono HZ1.out))
  have HZ2 := Lib.hid (show w.heap.size + 1 ≤ w2.heap.size by have := hb2.size; have := HZ1.out; omega)
  clear hb2
  cases b
  · clear hfew
    go_wp2
    go_ret
    exact ⟨rfl, HBL.out.trans (HB2.out.mono (by omega))⟩
  · obtain ⟨f1, f2, f3, h8⟩ := hfew rfl
    have H8 := Lib.hid h8
    clear hfew h8 p0 p1 p2
    obtain ⟨p0, p1, p2⟩ := HSS.out _ HB2.out
    go_wp2_with fail
    refine (right_yes w2 w.heap.size ta va ra tl tc vl vc rc R (HR.out.below (HB2.out.mono (by omega))) (HT.out.below (HB2.out.mono (by omega))) (HV.out.below (HB2.out.mono (by omega))) (by have := HZ2.out; omega) f3 f2 f1 H8.out).mono ?_
    rintro e w3 ⟨b, rfl, hok, hb3⟩
    have HB3 := Lib.hid (HB2.out.trans (hb3.mono HZ2.out))
    have HZ3 := Lib.hid (show w.heap.size + 1 ≤ w3.heap.size by have := hb3.size; have := HZ2.out; omega)
    clear hb3 p0 p1 p2
    cases b
    · clear hok
      go_wp2
      go_ret
      exact ⟨rfl, HBL.out.trans (HB3.out.mono (by omega))⟩
    · obtain ⟨hv1, hrl⟩ := hok rfl
      have HL := Lib.hid (show ∀ r ∈ R, 0 ≤ r.left ∧ r.left < (vl : Int) from fun r hr => ⟨(hrl r hr).1, (hrl r hr).2.1⟩)
      have HVI := Lib.hid (show ∀ r ∈ R, ∀ s ∈ r.right, 0 ≤ s → s < (vl : Int) from fun r hr s hs _ => ((hrl r hr).2.2 s hs).1)
      have HVN := Lib.hid (show ∀ r ∈ R, ∀ s ∈ r.right, 0 ≤ s → s.toNat < vl from fun r hr s hs h0 => by have := ((hrl r hr).2.2 s hs).1; omega)
      clear hok hrl
      obtain ⟨p0, p1, p2⟩ := HSS.out _ HB3.out
      by_cases hv0 : v < 0
      · have hgd : decide (v < 0) = true := decide_eq_true hv0
        go_wp2
        go_ret
        exact ⟨rfl, HBL.out.trans (HB3.out.mono (by omega))⟩
      · obtain ⟨n, rfl⟩ : ∃ n : Nat, v = n := ⟨v.toNat, by omega⟩
        have hgd : decide ((n : Int) < 0) = false := decide_eq_false hv0
        by_cases hnv : n < vl
        · have hgd2 : decide ((vl : Int) ≤ (n : Int)) = false := decide_eq_false (by omega)
          go_wp2_with fail
          refine (shortest_any w3 w.heap.size ta va tl tc vl vc (.slice ra R.length rc) R (n : Int) (HR.out.below (HB3.out.mono (by omega))) (by have := HZ3.out; omega) HL.out (by omega) H8.out).mono ?_
          rintro e w4 ⟨S, u, b, rfl, hI, hd, hb4, hy, hno⟩
          have HB4 := Lib.hid (HB3.out.trans (hb4.mono HZ3.out))
          have HZ4 := Lib.hid (show w.heap.size + 1 ≤ w4.heap.size by have := hb4.size; have := HZ3.out; omega)
          have HI := Lib.hid hI
          have HD := Lib.hid hd
          have HY := Lib.hid hy
          have HNO := Lib.hid hno
          clear hb4 hI hd hy hno p0 p1 p2
          obtain ⟨p0, p1, p2⟩ := HSS.out _ HB4.out
          go_wp2_with fail
          refine (cost_any w4 w.heap.size ta va tl tc vl vc (.slice ra R.length rc) R (HR.out.below (HB4.out.mono (by omega))) (by have := HZ4.out; omega) HL.out (by omega)).mono ?_
          rintro e w5 ⟨S2, cv, dv, rfl, hI2, hd2, hb5, hc, hdv⟩
          have hS2 : S2 = S := done_one hd2 HD.out (by rw [hI2.len, HI.out.len])
          subst hS2
          have HB5 := Lib.hid (HB4.out.trans (hb5.mono HZ4.out))
          have HZ5 := Lib.hid (show w.heap.size + 1 ≤ w5.heap.size by have := hb5.size; have := HZ4.out; omega)
          have HB45 := Lib.hid hb5
          obtain ⟨c, cc, rfl⟩ := own_some hc (by omega)
          obtain ⟨dd, dc, rfl⟩ := own_some hdv (by omega)
          have hSl := HI.out.len
          have HCO := Lib.hid (show c < w5.heap.size ∧ ∀ i, i < vl → w5.cell? ⟨c, i, none⟩ = some (.int .i64 ((S2.getD i noW).1 : Int)) from ⟨(World.ownsRow.lt hc c rfl).2, fun i hi => by
            rw [hc.cellAt i (by omega)]
            simp [IV, List.getD_eq_getElem?_getD, List.getElem?_eq_getElem (show i < S2.length by omega)]⟩)
          have HDO := Lib.hid (show dd < w5.heap.size ∧ ∀ i, i < vl → w5.cell? ⟨dd, i, none⟩ = some (.int .i64 (S2.getD i noW).2.2) from ⟨(World.ownsRow.lt hdv dd rfl).2, fun i hi => by
            rw [hdv.cellAt i (by omega)]
            simp [IV, List.getD_eq_getElem?_getD, List.getElem?_eq_getElem (show i < S2.length by omega)]⟩)
          have HDV := Lib.hid hdv
          have hi4 : (n : Int) < (vl : Int) := by omega
          have hn0 : (0 : Int) ≤ (n : Int) := by omega
          clear hb5 hc hdv hI2 hd2 p0 p1 p2 hSl
          obtain ⟨p0, p1, p2⟩ := HSS.out _ HB5.out
          have hccell := HCO.out.2 n hnv
          cases b
          · obtain ⟨rfl, hst⟩ := HNO.out (by first | rfl | trivial)
            have hst2 : 4096 < (S2.getD n noW).2.1 := by have := hst hn0 hi4; rwa [Int.toNat_natCast] at this
            have hwd := way_wide HI.out HD.out H8.out f1 hnv
            obtain ⟨sv, hsv⟩ : ∃ sv, sv = (S2.getD n noW).1 := ⟨_, rfl⟩
            rw [← hsv] at hccell hwd
            have HWD := Lib.hid hwd
            have HST := Lib.hid hst2
            clear hwd hst hst2 hsv
            have HFIN := Lib.hid (HBL.out.trans (HB5.out.mono (by omega)))
            by_cases hq1 : sv = Far
            · have hq2 : ((sv : Int) == 1073741824) = true := by subst hq1; decide
              clear hq1
              go_wp2
              go_ret
              exact ⟨rfl, HFIN.out⟩
            · have hq2 : ((sv : Int) == 1073741824) = false := by
                have : (sv : Int) ≠ 1073741824 := fun h => hq1 (by unfold Far; omega)
                simpa using this
              have HQ1 := Lib.hid hq1
              clear hq1
              by_cases hq3 : 100 < sv
              · have hq4 : decide ((100 : Int) < (sv : Int)) = true := decide_eq_true (by omega)
                go_wp2
                go_ret
                exact ⟨rfl, HFIN.out⟩
              · have hq4 : decide ((100 : Int) < (sv : Int)) = false := decide_eq_false (by omega)
                have hDl : (S2.map fun x => x.2.2).length = vl := by rw [List.length_map]; exact HI.out.len
                have hwa := wide_any w5 w.heap.size ta va tl tc vl vc (.slice ra R.length rc) (.slice (some ⟨dd, 0, none⟩) vl dc) R S2 (S2.map fun x => x.2.2) n (HR.out.below (HB5.out.mono (by omega))) (by have := HZ5.out; omega) HVI.out (by omega) (by
                  have h := row_own HDV.out hDl (fun x hx => by
                    obtain ⟨i, hi, rfl⟩ := List.mem_iff_getElem.1 hx
                    have hi2 : i < S2.length := by simpa using hi
                    have e : (S2.map fun x => x.2.2)[i] = (S2.getD i noW).2.2 := by simp [List.getD_eq_getElem?_getD, List.getElem?_eq_getElem hi2]
                    rw [e]
                    unfold In64
                    by_cases h0 : 0 ≤ (S2.getD i noW).2.2
                    · have := way_rule HI.out i h0
                      omega
                    · rcases HI.out.form i with he | ⟨_, k, r, e1, e2, _⟩
                      · rw [he]; decide
                      · omega)
                  exact h) hDl (fun u hu => by simp [List.getD_eq_getElem?_getD, List.getElem?_eq_getElem (show u < S2.length by have := HI.out.len; omega)]) (fun u hu h0 => way_rule HI.out u h0) hnv
                rw [decide_eq_true (HWD.out HQ1.out HST.out)] at hwa
                go_wp2_with fail
                refine hwa.mono ?_
                rintro e w6 ⟨rfl, hb6⟩
                have HFIN2 := Lib.hid (HBL.out.trans ((HB5.out.trans (hb6.mono HZ5.out)).mono (by omega)))
                clear hb6 hwa
                go_wp2
                go_ret
                exact ⟨rfl, HFIN2.out⟩
          · obtain ⟨_, _, hst, ks, hex, hrow⟩ := HY.out (by first | rfl | trivial)
            rw [Int.toNat_natCast] at hst
            have hsn : sS S2 [(n : Int)] = (S2.getD n noW).2.1 := by
              unfold sS
              simp only [List.map_cons, List.map_nil, List.sum_cons, List.sum_nil]
              rw [wat_var (by omega), Int.toNat_natCast]
              omega
            have hkl : ks.length ≤ 4096 := by
              rw [exps_len HI.out HD.out H8.out f1 hex (fun s hs h0 => by simp at hs; omega) HVN.out, hsn]
              exact hst
            have hpos := exps_pos hex
            obtain ⟨G, hG1, hG2, hG3⟩ := exps_ok HI.out HD.out hex [] 0 (fun x hx => by cases hx)
            rw [List.nil_append] at hG1
            have hG4 : G.length = (S2.getD n noW).1 := by
              rw [hG3]
              unfold sumC
              simp only [List.map_cons, List.map_nil, List.sum_cons, List.sum_nil, List.length_nil]
              rw [if_neg (by omega), Int.toNat_natCast]
              omega
            have hbest := exps_best HI.out HD.out hex
            have HBEST := Lib.hid hbest
            have hrest : restW G = [] := Classical.byContradiction fun h => by
              obtain ⟨x, X, e1, e2⟩ := rest_var h
              have hx : x ∈ G := by
                rw [← lead_rest G, e1]
                simp
              have := hG2 x hx
              omega
            have hrowat : RowAt w4 u ks := row_own hrow rfl (fun x hx => by
              obtain ⟨r, e1, e2, _⟩ := hbest x hx
              have := (List.getElem?_eq_some_iff.1 e1).1
              unfold In64
              omega)
            have hrw5 := hrowat.below HB45.out
            have HRW5 := Lib.hid hrw5
            obtain ⟨uo, uc, rfl, _⟩ := hrowat
            have HPR := Lib.hid (prod_of HL.out hG1 hG2)
            have hA6 := below_al w5 (.cells #[.int .i64 n] 3)
            have HA6 := Lib.hid (HB5.out.trans (hA6.mono HZ5.out))
            have hyl := yield_any (w5.alloc (.cells #[.int .i64 n] 3)) w.heap.size ta va tl tc vl vc (.slice ra R.length rc) (.slice (some ⟨w5.heap.size, 0, none⟩) 1 1) (.slice uo ks.length uc) R [(n : Int)] ks (HR.out.below (HA6.out.mono (by omega))) (by have := HZ5.out; simp; omega) (lit_row w5 [(n : Int)] 1 _ rfl rfl (fun x hx => by simp at hx; subst hx; unfold In64; omega) (by decide)) (HRW5.out.below hA6) hkl (by simp; omega) H8.out
            unfold YieldR yieldW at hyl
            rw [hG1] at hyl
            dsimp only at hyl
            rw [if_pos rfl, if_pos hrest] at hyl
            dsimp only at hyl
            have hml : (List.map (fun x => -1 - x) G).length = (S2.getD n noW).1 := by rw [List.length_map]; exact hG4
            rw [hml] at hyl
            obtain ⟨sv, hsv⟩ : ∃ sv, sv = (S2.getD n noW).1 := ⟨_, rfl⟩
            rw [← hsv] at hyl hccell
            have hpd : ((ks.length : Int) == 0) = false := by
              have : (ks.length : Int) ≠ 0 := by omega
              simpa using this
            have hk63 : ks.length ≤ 9223372036854775807 := by omega
            clear hA6 hrw5 hG1 hG2 hG3 hG4 hrest hml hex hrow hst hsn hbest
            go_wp2_with fail
            refine hyl.mono ?_
            rintro e w6 ⟨u6, rfl, hu6, _, hb6⟩
            obtain ⟨o6, c6, rfl⟩ := own_sl (hu6 (by first | exact rfl | trivial))
            have HB56 := Lib.hid ((below_al w5 (.cells #[.int .i64 n] 3)).trans (hb6.mono (by simp)))
            have HB6 := Lib.hid (HB5.out.trans (HB56.out.mono HZ5.out))
            have HZ6 := Lib.hid (show w.heap.size + 1 ≤ w6.heap.size by have := HB56.out.size; have := HZ5.out; omega)
            have hccell6 := (HB56.out.cell (p := ⟨c, n, none⟩) HCO.out.1).trans hccell
            have HX0 := Lib.hid (Below.refl w6.heap.size w6)
            clear hyl hu6 hb6 hccell p0 p1 p2
            obtain ⟨p0, p1, p2⟩ := HSS.out _ HB6.out
            go_wp2
            go_loopw [96] (fun q wr => ∃ k : Nat, k ≤ ks.length ∧ q = .int .i64 k ∧ Below w6.heap.size w6 wr) (fun q _ => ks.length - (intOf q).toNat)
            case atStart => exact ⟨0, Nat.zero_le _, rfl, HX0.out⟩
            case round =>
              obtain ⟨k, hk, rfl, hbr⟩ := hrel
              have HBR := Lib.hid hbr
              have HWR := Lib.hid (HB6.out.trans (hbr.mono HZ6.out))
              have HW5 := Lib.hid (HB56.out.trans (hbr.mono HB56.out.size))
              clear hbr p0 p1 p2 hccell6
              obtain ⟨p0, p1, p2⟩ := HSS.out _ HWR.out
              by_cases hlt : k < ks.length
              · have hmem : ks.getD k 0 ∈ ks := by rw [List.getD_eq_getElem?_getD, List.getElem?_eq_getElem hlt]; exact List.getElem_mem _
                obtain ⟨r0, e1, e2, e3⟩ := HBEST.out _ hmem
                obtain ⟨_, _, ek, _, _, _, _, hkc⟩ := HRW5.out.below HW5.out
                cases ek
                obtain ⟨ka, hka, hkab, hkcell⟩ := hkc k hlt
                subst hka
                obtain ⟨kk, hkk⟩ : ∃ kk : Nat, ks.getD k 0 = kk := ⟨(ks.getD k 0).toNat, by omega⟩
                rw [hkk] at hkcell e1 e3
                rw [Int.toNat_natCast] at e1
                have hkR := (List.getElem?_eq_some_iff.1 e1).1
                obtain ⟨a2, r2, ao, cap, hae, hab, hrk, hc0, _⟩ := (HR.out.below (HWR.out.mono (by omega))).at kk hkR
                subst hae
                rw [e1] at hrk
                cases hrk
                obtain ⟨l0, l1⟩ := HL.out r0 (List.mem_of_getElem? e1)
                obtain ⟨x, hx'⟩ : ∃ x : Nat, r0.left = x := ⟨r0.left.toNat, by omega⟩
                rw [hx'] at hc0 e3
                rw [Int.toNat_natCast] at e3
                have hxl : x < vl := by omega
                have hdcell := (HW5.out.cell (p := ⟨dd, x, none⟩) HDO.out.1).trans (HDO.out.2 x hxl)
                rw [e3] at hdcell
                have hi1 : (kk : Int) < (R.length : Int) := by omega
                have hi3 : (x : Int) < (vl : Int) := by omega
                clear e1 e2 e3 hmem hkk hkR hx' l0 l1 hkc hkab hab
                go_wp2
                exact ⟨⟨k + 1, hlt, congrArg (Value.int .i64) (by omega), HBR.out⟩, by simp only [intOf]; omega⟩
              · obtain rfl : k = ks.length := by omega
                go_wp2_with fail
                refine (rproductive_any wr w.heap.size ta va tl tc vl vc (.slice ra R.length rc) R (HR.out.below (HWR.out.mono (by omega))) (by have := HBR.out.size; have := HZ6.out; omega) HL.out HVN.out (by omega)).mono ?_
                rintro e w7 ⟨u7, m7, rfl, hm7, hb7⟩
                have hrd := hm7.read
                obtain ⟨o7, c7, rfl, _⟩ := id hrd
                have hpl := prodW_len2 R false vl
                obtain ⟨pa, hpa, _, hpcell⟩ := readB_cell2 hrd (i := n) (by omega)
                subst hpa
                rw [HPR.out] at hpcell
                have hi5 : (n : Int) < ((roundsB R false vl (List.replicate vl false)).length : Int) := by omega
                have HFIN := Lib.hid (HBL.out.trans ((HWR.out.trans (hb7.mono (by have := HBR.out.size; have := HZ6.out; omega))).mono (by omega)))
                clear hb7 hm7 hrd
                go_wp2
                go_ret
                exact ⟨rfl, HFIN.out⟩
        · have hgd2 : decide ((vl : Int) ≤ (n : Int)) = true := decide_eq_true (by omega)
          go_wp2
          go_ret
          exact ⟨rfl, HBL.out.trans (HB3.out.mono (by omega))⟩
end Go.Proofs.YtomikgkoegkofaaGreatDoor.dv
namespace Go.Proofs.YtomikgkoegkofaaGreatDoor.dv
open Go.ChangeShapes Go.WideShapes Go.ChangeAt Go.RowKit Go.Maps Go.WideMaps Go.WideElems Go.Deep Go.Joins Go.ChangeMaps Go.Lib
set_option linter.unusedVariables false
set_option linter.unusedSimpArgs false
set_option maxRecDepth 100000 in
theorem susefulShortest_lifted (os : Os) (started : os.Started) (H : Type) (enc : TypeId × Value → H) :
    ReturnsInHanded {} Tryz.checked os 4 .any (fun w args => (Rows.usefulShortestSpec.pre enc Tryz.prog Tryz.f4 [] false w args ∧ laidMetH Tryz.prog Rows.usefulShortestRow.laid w) ∧ sizedMet enc Tryz.prog Tryz.f4 (OpenSpec.ofChange Rows.usefulShortestSpec) false w args)
      (Rows.usefulShortestSpec.post enc Tryz.prog Tryz.f4 false true false false) := by
  refine returnsInHanded_of_change_and (C := Tryz.checked) (X := fun w _ => laidMetH Tryz.prog Rows.usefulShortestRow.laid w) (fun _ _ _ hh h => h.of_heap hh) own started (by kernel_rfl) Tryz.func4
    (ChangeSpec.witness_shaped (enc := enc) (C := Tryz.checked) (os := os) (X := fun w _ => laidMetH Tryz.prog Rows.usefulShortestRow.laid w) false (World.laidAll Tryz.prog os Rows.usefulShortestRow.laid) #[.agg #[.slice none 0 0, .slice none 0 0, .slice none 0 0], .int .i64 0] 8 (World.laidAll_os _ _ _)
      (World.shaped_of_ZipB (by kernel_rfl) (by kernel_rfl)) (by kernel_rfl) (by kernel_rfl) (by kernel_rfl)
      (by rw [MakeChecks.laidMetH_plain _ _ _ (by kernel_rfl)]; exact laidMet_laidAll _ (by kernel_rfl) (by kernel_rfl))) ?_
  intro W base args ds gs before hval0 hW _ _ hL _
  have hval : ∀ (j : Nat) t v, Tryz.f4.params[j]? = some t → args[j]? = some v → Value.okWide Tryz.prog W .any base t v := hval0
  have hW' := hW
  obtain ⟨p, q, hA0, hV, rfl, hfz, hnd⟩ := hW
  have hA : DataW.TrodAll enc Tryz.prog W 0 (fun _ => true) true Tryz.f4.params.toList args.toList ds p := hA0
  rw [Tryz.params4] at hA hval
  obtain ⟨v0, vs0, d0, ds0, p0, q0, hargs, rfl, rfl, h0, r0⟩ := trodAll_cons hA
  obtain ⟨v1, vs1, d1, ds1, p1, q1, rfl, rfl, rfl, h1, r1⟩ := trodAll_cons r0
  obtain ⟨rfl, rfl, rfl⟩ := trodAll_nil r1
  obtain rfl : args = #[v0, v1] := by cases args; simp_all
  obtain ⟨rfl, rfl⟩ := trodVars_none hV
  have h0k := h0
  obtain ⟨g0, g1, g2, y0, y1, y2, n, rfl, _, _, e0, e1, e2⟩ := open_agg3 Tryz.underlying25 (by kernel_rfl) (by kernel_rfl) (hval 0 25 v0 rfl rfl) h0
  replace e0 : DataW.trod enc Tryz.prog W 0 (fun _ => true) true n 22 [g0] = some y0 := e0
  replace e1 : DataW.trod enc Tryz.prog W 0 (fun _ => true) true n 22 [g1] = some y1 := e1
  replace e2 : DataW.trod enc Tryz.prog W 0 (fun _ => true) true n 23 [g2] = some y2 := e2
  obtain ⟨ta, tl, tc, rfl, _, _, _⟩ := slice_of Tryz.underlying22 e0
  obtain ⟨va, vl, vc, rfl, _, _, _⟩ := slice_of Tryz.underlying22 e1
  obtain ⟨ra, rl, rc, rfl, hr1, hr2, _⟩ := slice_of Tryz.underlying23 e2
  obtain ⟨hT1, hT2⟩ := strs_of e0
  obtain ⟨hV1, hV2⟩ := strs_of e1
  obtain ⟨R, rfl, hR, hwf⟩ := rules_of e2
  obtain ⟨x1, rfl, rfl, rfl, w1⟩ := open_int Tryz.underlying3 (hval 1 3 v1 rfl rfl) h1
  clear hA0 hval0
  simp only [List.append_nil, List.nil_append] at hW'
  have hlt : ∀ x ∈ p0, x.block < W.heap.size := fun x hx => by simpa using hW'.lt x (by simpa using hx)
  have hback0 : ∀ (W' : World), Below W.heap.size W W' → DataW.Trod enc Tryz.prog W' 0 (fun b => decide (b < W.heap.size)) true 25 (.agg #[.slice ta tl tc, .slice va vl vc, .slice ra R.length rc]) d0 p0 :=
    fun W' hn => Below.trod laidOut (by kernel_rfl) (of_decide_eq_true (by kernel_rfl)) h0k hn (fun x hx => hlt x (by simp [hx]))
  have hT : ∀ (W' : World), Below W.heap.size W W' → DataW.TrodAll enc Tryz.prog W' 0 (fun b => decide (b < W.heap.size)) true [25, 3] [.agg #[.slice ta tl tc, .slice va vl vc, .slice ra R.length rc], .int .i64 x1] [d0, .lit (.int .i64 x1)] (p0) := fun W' hn => by
    have h4 := (trodAll_cons_mk (hback0 _ hn) (trodAll_mk1 (shut_int (H := H) (enc := enc) (P := Tryz.prog) (w := W') (base := 0) (spare := fun b => decide (b < W.heap.size)) (held := true) Tryz.underlying3 w1)))
    simpa using h4
  refine (ushortest_any W ta va ra tl tc vl vc rc x1 R hR hT1 hV1 (by omega) hT2 hV2).mono fun e W' ⟨he, hb⟩ => ?_
  subst he
  exact ⟨_, rfl, _, _, _, [], p0, [], hW', trodAll_mk1 (shut_bool Tryz.underlying4 _), hT W' hb, rfl, hb.frame _, fun h => by cases h⟩
theorem susefulShortest_said : Rows.UsefulShortestSaid :=
  OpenClaim.holds_of_wide 4 Tryz.f4 rfl rfl rfl rfl rfl rfl rfl ⟨rfl, rfl, rfl, rfl, rfl⟩ rfl rfl rfl rfl rfl (by kernel_rfl) Tryz.func4 (by kernel_rfl)
    (of_decide_eq_true (by kernel_rfl)) (by unfold Func.isWrapper; first | (rw [if_pos (by decide +kernel)]; kernel_rfl) | (rw [if_neg (by decide +kernel)]; exact ⟨rfl, rfl⟩))
    (fun os started H enc _ => susefulShortest_lifted os started H enc)
theorem susefulShortest_looks (t : TypeId) (h : t = 25 ∨ t = 3) : Tryz.prog.wantsStandIn t = false := by
  rcases h with rfl | rfl <;> kernel_rfl
theorem susefulShortest_plain (f : FuncId) (fn : Func) (hf : Tryz.pinned.checked.prog.funcNamed "accidence/accidencelaw09.UsefulShortest" = some f) (hfn : Tryz.pinned.checked.prog.funcs[f]? = some fn) :
    false = Tryz.pinned.checked.prog.looks [] ∧ ∀ (j : Nat) t, fn.params[j]? = some t → Tryz.pinned.checked.prog.wantsStandIn t = false := by
  obtain rfl : f = 4 := Option.some.inj ((show Tryz.prog.funcNamed "accidence/accidencelaw09.UsefulShortest" = some 4 by kernel_rfl).symm.trans hf) |>.symm
  obtain rfl : fn = Tryz.f4 := (Option.some.inj (Tryz.func4.symm.trans hfn)).symm
  refine ⟨by kernel_rfl, fun j t ht => ?_⟩
  rw [Tryz.params4] at ht
  have hm : t ∈ [25, 3] := by simpa using Array.mem_of_getElem? ht
  exact susefulShortest_looks t (by simpa using hm)
end Go.Proofs.YtomikgkoegkofaaGreatDoor.dv
namespace Go.Proofs.YtomikgkoegkofaaGreatDoor
theorem usefulShortest_holds : Rows.UsefulShortestCardSaid :=
  Claim7.holds_tied_plain_at .later [] _ _ _ _ dv.susefulShortest_said (fun _ h => by cases h) (by kernel_rfl) (fun _ h => by cases h) usefulShortest_row_tie rfl ⟨rfl, rfl⟩ (by kernel_rfl) rfl dv.susefulShortest_plain (by kernel_rfl)
end Go.Proofs.YtomikgkoegkofaaGreatDoor
