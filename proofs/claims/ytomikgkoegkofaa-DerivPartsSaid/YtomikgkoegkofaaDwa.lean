import Derived.Test.YtomikgkoegkofaaDvx
import Derived.Test.YtomikgkoegkofaaDvq
import Derived.Test.YtomikgkoegkofaaDwm
namespace Go.Proofs.Ytomikgkoegkofaa.dv
open Go.ChangeShapes Go.WideShapes Go.ChangeAt Go.RowKit Go.Maps Go.WideMaps Go.WideElems
set_option linter.unusedVariables false
set_option linter.unusedSimpArgs false
/-! DerivCounts -/
set_option maxRecDepth 100000 in
set_option maxHeartbeats 2000000 in
theorem counts_any (w : World) (ta va ra : Option Addr) (tl tc vl vc rc : Nat) (fv kv : Value) (R : List Rl) (F ks : List Int) (hR : RulesAt w.heap.size w (.slice ra R.length rc) R) (hT : StrsAt w.heap.size w ta tl) (hV : StrsAt w.heap.size w va vl) (hn : R.length ≤ maxLen) (ht : tl ≤ maxLen) (hv : vl ≤ maxLen) (hF : RowAt w fv F) (hK : RowAt w kv ks) :
    Calls Try.prog 7 #[.agg #[.slice ta tl tc, .slice va vl vc, .slice ra R.length rc], fv, kv] w fun e w' => e = .returned (.bool true) ∧ Below w.heap.size w w' := by
  have b0 := Blk.new w 25 #[.slice ta tl tc, .slice va vl vc, .slice ra R.length rc]
  have hbl : Below w.heap.size w (w.alloc (.cells #[.slice ta tl tc, .slice va vl vc, .slice ra R.length rc] 25)) := below_lit _ _ _
  have hR1 := hR.below hbl
  have hT1 := hT.below hbl
  have hV1 := hV.below hbl
  have hF1 := hF.below hbl
  have hK1 := hK.below hbl
  generalize hW0 : w.alloc (.cells #[.slice ta tl tc, .slice va vl vc, .slice ra R.length rc] 25) = w0 at *
  have hz0 : w0.heap.size = w.heap.size + 1 := by rw [← hW0]; simp
  have HR := Lib.hid hR1
  have HT := Lib.hid hT1
  have HV := Lib.hid hV1
  have HF := Lib.hid hF1
  have HK := Lib.hid hK1
  have hin := hF.ins
  have HIN := Lib.hid hin
  obtain ⟨fo, fc, rfl, hfc, hfm, _⟩ := hF
  obtain ⟨ko, kc, rfl, hkc, hkm, _⟩ := hK
  have hfm' : fc ≤ 9223372036854775807 := by unfold maxLen at hfm; omega
  have hkm' : kc ≤ 9223372036854775807 := by unfold maxLen at hkm; omega
  clear hR hT hV hR1 hT1 hV1 hF1 hK1 hin
  go_enter Try.func7, Try.ntmps7
  go_wp2_with fail
  refine (alive_any w0).mono ?_
  rintro e w1 ⟨rfl, hb1⟩
  have hB1 : Below (w.heap.size + 1) w0 w1 := hb1.mono (by omega)
  have hz1 := hB1.size
  have bx1 := b0.below hB1 (by omega)
  have p0 := bx1.cell 0
  have p1 := bx1.cell 1
  have p2 := bx1.cell 2
  simp only [List.getElem?_toArray, List.getElem?_cons_zero, List.getElem?_cons_succ] at p0 p1 p2
  go_wp2_with fail
  refine (few_any w1 w.heap.size ta va ra tl tc vl vc rc R (HR.out.below (hB1.mono (by omega))) (by omega) hn ht hv).mono ?_
  rintro e w2 ⟨b, rfl, hfew, hb2⟩
  have hB2 : Below (w.heap.size + 1) w0 w2 := hB1.trans (hb2.mono (by omega))
  cases b
  · clear hfew
    go_wp2
    go_ret
    exact ⟨rfl, hbl.trans (hB2.mono (by omega))⟩
  · obtain ⟨f1, f2, f3, h8⟩ := hfew rfl
    have H8 := Lib.hid h8
    clear hfew h8
    have hz2 := hB2.size
    have bx2 := b0.below hB2 (by omega)
    have q0 := bx2.cell 0
    have q1 := bx2.cell 1
    have q2 := bx2.cell 2
    simp only [List.getElem?_toArray, List.getElem?_cons_zero, List.getElem?_cons_succ] at q0 q1 q2
    by_cases g1 : F.length ≤ 40
    · by_cases g2 : ks.length ≤ 60
      · go_wp2_with fail
        refine (right_any w2 w.heap.size ta va ra tl tc vl vc rc R (HR.out.below (hB2.mono (by omega))) (HT.out.below (hB2.mono (by omega))) (HV.out.below (hB2.mono (by omega))) (by omega) f3 f2 f1 H8.out).mono ?_
        rintro e w3 ⟨b, rfl, hb3⟩
        have hB3 : Below (w.heap.size + 1) w0 w3 := hB2.trans (hb3.mono (by omega))
        have hz3 := hB3.size
        cases b
        · go_wp2
          go_ret
          exact ⟨rfl, hbl.trans (hB3.mono (by omega))⟩
        · go_wp2
          clear p0 p1 p2 q0 q1 q2 bx1 bx2 hb1 hb2 hb3 hB1 hB2 hz1 hz2
          have hRin := rules_in HR.out H8.out
          have HRI := Lib.hid hRin
          have hBw3 : w.heap.size ≤ w3.heap.size := by omega
          go_loopw [7, 38] (fun s i wr => ∃ (j : Nat) (G : List Int), j ≤ ks.length ∧ i = .int .i64 j ∧ RowAt wr s G ∧ replW R F (ks.take j) 0 = (G, 0, 0) ∧ Below (w.heap.size + 1) w0 wr) (fun _ i _ => ks.length - (intOf i).toNat)
          case atStart => exact ⟨0, F, Nat.zero_le _, rfl, HF.out.below (by rw [hz0]; exact hB3), by simp [replW], hB3⟩
          case round =>
            obtain ⟨j, G, hj, rfl, hG, heq, hbr⟩ := hrel
            have hzr := hbr.size
            have bx := b0.below hbr (by omega)
            have p0 := bx.cell 0
            have p1 := bx.cell 1
            have p2 := bx.cell 2
            simp only [List.getElem?_toArray, List.getElem?_cons_zero, List.getElem?_cons_succ] at p0 p1 p2
            by_cases hlt : j < ks.length
            · have hKr := HK.out.below (by rw [hz0]; exact hbr)
              obtain ⟨ko', kc', ek, _, _, _, _, hkc2⟩ := id hKr
              cases ek
              obtain ⟨ka, rfl, kab, kca⟩ := hkc2 j hlt
              have htk := repl_take R F G ks j hlt heq
              have hgl : G.length ≤ F.length + 8 * j ∧ ∀ n ∈ G, In64 n := by
                have := repl_in HRI.out (ks.take j) F 0 HIN.out
                rw [heq] at this
                exact ⟨by have h2 := this.2; simp at h2; omega, this.1⟩
              have HGI := Lib.hid hgl.2
              have hgl1 := hgl.1
              have hsl := (stepL_in HRI.out G (ks.getD j 0) hgl.2).2
              have HSI := Lib.hid (stepL_in HRI.out G (ks.getD j 0) hgl.2).1
              have hst := step_any wr w.heap.size ta va tl tc vl vc (.slice ra R.length rc) _ R G (ks.getD j 0) (HR.out.below (hbr.mono (by omega))) (by omega) hG (by omega) (by omega)
              have hKt : RowAt wr (.slice (some ka) (j + 1) kc) (ks.take (j + 1)) := hKr.take (j + 1) hlt
              have HTK := Lib.hid htk
              have HEQ := Lib.hid heq
              have HKT := Lib.hid hKt
              obtain ⟨go, gc, rfl, hgc, hgm, _⟩ := id hG
              have hgm' : gc ≤ 9223372036854775807 := by unfold maxLen at hgm; omega
              clear hkc2 hKr htk heq hKt hgl hG
              unfold StepR at hst
              generalize ks.getD j 0 = k at *
              go_wp2_with fail
              refine hst.mono ?_
              rintro e w4 ⟨u, rfl, hu1, hu2, hb4⟩
              have hB4 : Below (w.heap.size + 1) w0 w4 := hbr.trans (hb4.mono (by omega))
              have hz4 := hB4.size
              have bx4 := b0.below hB4 (by omega)
              have q0 := bx4.cell 0
              have q1 := bx4.cell 1
              have q2 := bx4.cell 2
              simp only [List.getElem?_toArray, List.getElem?_cons_zero, List.getElem?_cons_succ] at q0 q1 q2
              have hF4 : RowAt w4.drew (.slice fo F.length fc) F := (HF.out.below (by rw [hz0]; exact hB4)).below (Below.refl _ w4).drew
              have hK4 : RowAt w4.drew (.slice (some ka) (j + 1) kc) (ks.take (j + 1)) := (HKT.out.below hb4).below (Below.refl _ w4).drew
              have hR4 : RulesAt w.heap.size w4.drew (.slice ra R.length rc) R := (HR.out.below (hB4.mono (by omega))).below (Below.refl _ w4).drew
              have hrep := replay_any w4.drew w.heap.size ta va tl tc vl vc (.slice ra R.length rc) _ _ R F (ks.take (j + 1)) hR4 (by show w.heap.size ≤ w4.heap.size; omega) hF4 hK4 (by simp; omega) (by simp; omega) H8.out
              unfold ReplR at hrep
              rw [HTK.out] at hrep
              have hw1 : IntKind.i64.wrap ((j : Int) + 1) = (j : Int) + 1 := by rw [IntKind.wrap_i64]; omega
              have hA0 : (0 : Int) ≤ (j : Int) + 1 := by omega
              have hA1 : (j : Int) + 1 ≤ (kc : Int) := by omega
              clear hF4 hK4 hR4 bx4 bx p0 p1 p2 hst
              by_cases hE : refW R (fvW G) k = 0
              · rw [if_pos hE] at hrep
                dsimp only at hrep
                obtain ⟨hk0, hk1, hv0⟩ := refW_ok hE
                obtain ⟨sl1, sl2⟩ := step_len R G k hv0
                obtain ⟨kn, rfl⟩ : ∃ kn : Nat, k = kn := ⟨k.toNat, by omega⟩
                have ho := hu1 hE
                rw [hE]
                have HO := Lib.hid ho
                have HFIN := Lib.hid (show replW R F (ks.take (j + 1)) 0 = (stepL R G kn, 0, 0) by rw [HTK.out, if_pos hE])
                obtain ⟨uo, uc, rfl⟩ := own_len ho
                clear hu1 hu2 ho
                go_wp2
                go_region_law (first
                  | (go_simp; go_at_call 21; refine hrep.mono ?_; rintro e w5 ⟨u5, rfl, hv1, _, hb5⟩))
                all_goals
                  have ho5 := hv1 (by trivial)
                  have hd : Below w4.heap.size w4 w4.drew := (Below.refl _ w4).drew
                  have hb45 : Below w4.heap.size w4 w5 := hd.trans hb5
                  have hB5 : Below (w.heap.size + 1) w0 w5 := hB4.trans (hb45.mono (by omega))
                  have hz5 := hB5.size
                  have hwu : WordAt w5 (.slice uo (stepL R G kn).length uc) (stepL R G kn) := (word_own HO.out rfl HSI.out).below hb45
                  have hwv : WordAt w5 u5 (stepL R G kn) := word_own ho5 rfl HSI.out
                  have hrow : RowAt w5 (.slice uo (stepL R G kn).length uc) (stepL R G kn) := (row_own HO.out rfl HSI.out).below hb45
                  have hsm := rsame_self w5 _ u5 _ hwu hwv (by omega)
                  have hR5 := HR.out.below (hB5.mono (by omega))
                  obtain ⟨a6, r6, ao6, cap6, ea6, hab6, hrk6, _, s2, _, s4, s5, _⟩ := hR5.at kn (by omega)
                  have hrw : ruleW R (kn : Int) = r6.right := by simp [ruleW, List.getD_eq_getElem?_getD, hrk6]
                  rw [hrw] at sl1
                  obtain ⟨vo, vc', rfl⟩ := own_len ho5
                  subst ea6
                  have HROW := Lib.hid hrow
                  have hr8 := H8.out r6 (List.mem_of_getElem? hrk6)
                  clear hwu hwv hrow ho5 hv1 hR5 hrep hrw
                  generalize hSL : stepL R G kn = SL at *
                  have HSL := Lib.hid hSL
                  clear hSL
                  go_wp2_with fail
                  refine hsm.mono ?_
                  rintro e w6 ⟨rfl, hb6⟩
                  have hB6 : Below (w.heap.size + 1) w0 w6 := hB5.trans (hb6.mono (by omega))
                  have bx6 := b0.below hB6 (by omega)
                  have t2 := bx6.cell 2
                  have s2' := (hb6.cell (p := ⟨(a6.add (kn * 3)).block, (a6.add (kn * 3)).off + 1, none⟩) (by show (a6.add (kn * 3)).block < w5.heap.size; rw [add_block]; omega)).trans s2
                  simp only [List.getElem?_toArray, List.getElem?_cons_zero, List.getElem?_cons_succ] at t2
                  have e7 : ((SL.length : Int) == (G.length : Int) - 1 + (r6.right.length : Int)) = true := by rw [beq_iff_eq]; omega
                  go_wp2
                  exact ⟨⟨j + 1, SL, hlt, congrArg (Value.int .i64) (by omega), HROW.out.below hb6, HFIN.out, hB6⟩, by simp only [intOf]; omega⟩
              · rw [if_neg hE] at hrep
                dsimp only at hrep
                obtain rfl := hu2 hE
                clear hu1 hu2
                generalize hEE : refW R (fvW G) k = E at *
                have HEE := Lib.hid hEE
                clear hEE
                have hne1 : (E != E) = false := by simp
                have hne2 : (E != 0) = true := by simpa using hE
                go_wp2
                go_region_law (first
                  | (go_simp; go_at_call 21; refine hrep.mono ?_; rintro e w5 ⟨u5, rfl, _, hv2, hb5⟩))
                all_goals
                  have hd : Below w4.heap.size w4 w4.drew := (Below.refl _ w4).drew
                  have hb45 : Below w4.heap.size w4 w5 := hd.trans hb5
                  have hB5 : Below (w.heap.size + 1) w0 w5 := hB4.trans (hb45.mono (by omega))
                  clear hrep hv2
                  go_wp2
                  go_ret
                  exact ⟨rfl, hbl.trans (hB5.mono (by omega))⟩
            · obtain rfl : ks.length = j := by omega
              go_wp2
              go_ret
              exact ⟨rfl, hbl.trans (hbr.mono (by omega))⟩
      · go_wp2
        go_ret
        exact ⟨rfl, hbl.trans (hB2.mono (by omega))⟩
    · go_wp2
      go_ret
      exact ⟨rfl, hbl.trans (hB2.mono (by omega))⟩
end Go.Proofs.Ytomikgkoegkofaa.dv
