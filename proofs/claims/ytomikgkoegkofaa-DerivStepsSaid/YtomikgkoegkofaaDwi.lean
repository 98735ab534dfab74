import Derived.Test.YtomikgkoegkofaaDwc
import Derived.Test.YtomikgkoegkofaaDwh
namespace Go.Proofs.Ytomikgkoegkofaa.dv
open Go.ChangeShapes Go.WideShapes Go.ChangeAt Go.RowKit Go.Maps Go.WideMaps Go.WideElems
set_option linter.unusedVariables false
set_option linter.unusedSimpArgs false
/-! DerivSteps -/
set_option maxRecDepth 100000 in
set_option maxHeartbeats 4000000 in
theorem steps_any (w : World) (ta va ra : Option Addr) (tl tc vl vc rc : Nat) (fv : Value) (rule : Int) (R : List Rl) (F : List Int) (hR : RulesAt w.heap.size w (.slice ra R.length rc) R) (hT : StrsAt w.heap.size w ta tl) (hV : StrsAt w.heap.size w va vl) (hn : R.length ≤ maxLen) (ht : tl ≤ maxLen) (hv : vl ≤ maxLen) (hF : RowAt w fv F) :
    Calls Try.prog 3 #[.agg #[.slice ta tl tc, .slice va vl vc, .slice ra R.length rc], fv, .int .i64 rule] w fun e w' => e = .returned (.bool true) ∧ Below w.heap.size w w' := by
  have b0 := Blk.new w 25 #[.slice ta tl tc, .slice va vl vc, .slice ra R.length rc]
  have hbl : Below w.heap.size w (w.alloc (.cells #[.slice ta tl tc, .slice va vl vc, .slice ra R.length rc] 25)) := below_lit _ _ _
  have hR1 := hR.below hbl
  have hT1 := hT.below hbl
  have hV1 := hV.below hbl
  have hF1 := hF.below hbl
  generalize hW0 : w.alloc (.cells #[.slice ta tl tc, .slice va vl vc, .slice ra R.length rc] 25) = w0 at *
  have hz0 : w0.heap.size = w.heap.size + 1 := by rw [← hW0]; simp
  have HR := Lib.hid hR1
  have HT := Lib.hid hT1
  have HV := Lib.hid hV1
  have HF := Lib.hid hF1
  have hin := hF.ins
  have HIN := Lib.hid hin
  obtain ⟨fo, fc, rfl, hfc, hfm, _⟩ := hF
  have hfm' : fc ≤ 9223372036854775807 := by unfold maxLen at hfm; omega
  clear hR hT hV hR1 hT1 hV1 hF1 hin
  go_enter Try.func3, Try.ntmps3
  go_wp2_with fail
  refine (alive_any w0).mono ?_
  rintro e w1 ⟨rfl, hb1⟩
  have hB1 : Below (w.heap.size + 1) w0 w1 := hb1.mono (by omega)
  have hz1 := hB1.size
  have bx1 := b0.below hB1 (by omega)
  have p0 := bx1.cell 0
  have p1 := bx1.cell 1
  have p2 := bx1.cell 2
  simp only [List.getElem?_toArray, List.getElem?_cons_zero, List.getElem?_cons_succ] at p0 p1 p2
  go_wp2_with fail
  refine (few_any w1 w.heap.size ta va ra tl tc vl vc rc R (HR.out.below (hB1.mono (by omega))) (by omega) hn ht hv).mono ?_
  rintro e w2 ⟨b, rfl, hfew, hb2⟩
  have hB2 : Below (w.heap.size + 1) w0 w2 := hB1.trans (hb2.mono (by omega))
  cases b
  · clear hfew
    go_wp2
    go_ret
    exact ⟨rfl, hbl.trans (hB2.mono (by omega))⟩
  · obtain ⟨f1, f2, f3, h8⟩ := hfew rfl
    have H8 := Lib.hid h8
    clear hfew h8
    have hz2 := hB2.size
    have bx2 := b0.below hB2 (by omega)
    have q0 := bx2.cell 0
    have q1 := bx2.cell 1
    have q2 := bx2.cell 2
    simp only [List.getElem?_toArray, List.getElem?_cons_zero, List.getElem?_cons_succ] at q0 q1 q2
    by_cases g1 : F.length ≤ 40
    · by_cases g2 : True
      · go_wp2_with fail
        refine (right_any w2 w.heap.size ta va ra tl tc vl vc rc R (HR.out.below (hB2.mono (by omega))) (HT.out.below (hB2.mono (by omega))) (HV.out.below (hB2.mono (by omega))) (by omega) f3 f2 f1 H8.out).mono ?_
        rintro e w3 ⟨b, rfl, hb3⟩
        have hB3 : Below (w.heap.size + 1) w0 w3 := hB2.trans (hb3.mono (by omega))
        have hz3 := hB3.size
        cases b
        · go_wp2
          go_ret
          exact ⟨rfl, hbl.trans (hB3.mono (by omega))⟩
        · clear p0 p1 p2 q0 q1 q2 bx1 bx2 hb1 hb2 hb3 hB1 hB2 hz1 hz2
          have hRin := rules_in HR.out H8.out
          have HRI := Lib.hid hRin
          have hBw3 : w.heap.size ≤ w3.heap.size := by omega
          have bx3 := b0.below hB3 (by omega)
          have p0 := bx3.cell 0
          have p1 := bx3.cell 1
          have p2 := bx3.cell 2
          simp only [List.getElem?_toArray, List.getElem?_cons_zero, List.getElem?_cons_succ] at p0 p1 p2
          have hF3 : RowAt w3 (.slice fo F.length fc) F := HF.out.below (by rw [hz0]; exact hB3)
          have hR3 : RulesAt w.heap.size w3 (.slice ra R.length rc) R := HR.out.below (hB3.mono (by omega))
          have hsl := stepL_in HRI.out F rule HIN.out
          have HSI := Lib.hid hsl.1
          have hs1 := step_any w3 w.heap.size ta va tl tc vl vc (.slice ra R.length rc) _ R F rule hR3 hBw3 hF3 (by omega) (by omega)
          unfold StepR at hs1
          have hsl2 := hsl.2
          clear hF3 hR3 hsl
          go_wp2_with fail
          refine hs1.mono ?_
          rintro e w4 ⟨u4, rfl, hu1, hu2, hb4⟩
          have hB4 : Below (w.heap.size + 1) w0 w4 := hB3.trans (hb4.mono (by omega))
          have hz4 := hB4.size
          have bx4 := b0.below hB4 (by omega)
          have r0 := bx4.cell 0
          have r1 := bx4.cell 1
          have r2 := bx4.cell 2
          simp only [List.getElem?_toArray, List.getElem?_cons_zero, List.getElem?_cons_succ] at r0 r1 r2
          have hs2 := rstep_any w4 w.heap.size ta va tl tc vl vc (.slice ra R.length rc) _ R F rule (HR.out.below (hB4.mono (by omega))) (by omega) (HF.out.below (by rw [hz0]; exact hB4)) (by omega) H8.out
          unfold StepR at hs2
          clear hs1 p0 p1 p2 bx3 bx4
          go_wp2_with fail
          refine hs2.mono ?_
          rintro e w5 ⟨u5, rfl, hv1, hv2, hb5⟩
          have hB5 : Below (w.heap.size + 1) w0 w5 := hB4.trans (hb5.mono (by omega))
          have hz5 := hB5.size
          have hl1 := lead_any w5 _ F (HF.out.below (by rw [hz0]; exact hB5)) (by omega)
          clear hs2 r0 r1 r2
          go_wp2_with fail
          refine hl1.mono ?_
          rintro e w6 ⟨u6, rfl, ho6, hb6⟩
          have hB6 : Below (w.heap.size + 1) w0 w6 := hB5.trans (hb6.mono (by omega))
          have hz6 := hB6.size
          have hln := lead_le F
          have hnL := neg_in (lead_sub HIN.out)
          have hfin : ∃ x y, WordAt w6 u4 x ∧ WordAt w6 u5 x ∧ x.length ≤ 1000 ∧ y = x := by
            by_cases hE : refW R (fvW F) rule = 0
            · exact ⟨_, _, (word_own (hu1 hE) rfl HSI.out).below (hb5.trans (hb6.mono hb5.size)), (word_own (hv1 hE) rfl HSI.out).below hb6, by omega, rfl⟩
            · have e1 := hu2 hE
              have e2 := hv2 hE
              subst e1 e2
              exact ⟨[], [], ⟨none, 0, rfl, by simp, fun i hi => absurd hi (Nat.not_lt_zero _)⟩, ⟨none, 0, rfl, by simp, fun i hi => absurd hi (Nat.not_lt_zero _)⟩, by simp, rfl⟩
          obtain ⟨x, _, hx1, hx2, hx3, _⟩ := hfin
          have hsm := rsame_self w6 _ _ x hx1 hx2 hx3
          obtain ⟨_, _, rfl, _⟩ := hx1
          obtain ⟨_, _, rfl, _⟩ := hx2
          have HO6 := Lib.hid ho6
          obtain ⟨y6, c6, rfl⟩ := own_len ho6
          clear hu1 hu2 hv1 hv2 hl1 ho6
          generalize refW R (fvW F) rule = E at *
          go_wp2_with fail
          refine hsm.mono ?_
          rintro e w7 ⟨rfl, hb7⟩
          have hB7 : Below (w.heap.size + 1) w0 w7 := hB6.trans (hb7.mono (by omega))
          have hz7 := hB7.size
          have hl2 := rlead_any w7 _ F (HF.out.below (by rw [hz0]; exact hB7)) (by omega)
          clear hsm
          go_wp2_with fail
          refine hl2.mono ?_
          rintro e w8 ⟨u8, rfl, ho8, hb8⟩
          have hB8 : Below (w.heap.size + 1) w0 w8 := hB7.trans (hb8.mono (by omega))
          have hz8 := hB8.size
          have hw6 : WordAt w8 (.slice y6 (leadW F).length c6) ((leadW F).map fun x => -1 - x) := (word_own HO6.out (by simp) hnL).below (hb7.trans (hb8.mono hb7.size))
          have hw8 : WordAt w8 u8 ((leadW F).map fun x => -1 - x) := word_own ho8 (by simp) hnL
          have hsm2 := rsame_self w8 _ _ _ hw6 hw8 (by simp; omega)
          obtain ⟨y8, c8, rfl⟩ := own_len ho8
          clear hw6 hw8 ho8 hl2
          go_wp2_with fail
          refine hsm2.mono ?_
          rintro e w9 ⟨rfl, hb9⟩
          have hB9 : Below (w.heap.size + 1) w0 w9 := hB8.trans (hb9.mono (by omega))
          have hfi := rfirst_any w9 _ F (HF.out.below (by rw [hz0]; exact hB9))
          generalize idxW F = I at *
          generalize leadW F = L at *
          clear hsm2
          go_wp2_with fail
          refine hfi.mono ?_
          rintro e wx ⟨rfl, rfl⟩
          go_wp2
          go_ret
          exact ⟨rfl, hbl.trans (hB9.mono (by omega))⟩
      · exact absurd trivial g2
    · go_wp2
      go_ret
      exact ⟨rfl, hbl.trans (hB2.mono (by omega))⟩
end Go.Proofs.Ytomikgkoegkofaa.dv
