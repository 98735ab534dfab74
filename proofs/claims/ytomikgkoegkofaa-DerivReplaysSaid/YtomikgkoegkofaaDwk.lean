import Derived.Test.YtomikgkoegkofaaDwh
import Derived.Test.YtomikgkoegkofaaDwj
namespace Go.Proofs.Ytomikgkoegkofaa.dv
open Go.ChangeShapes Go.WideShapes Go.ChangeAt Go.RowKit Go.Maps Go.WideMaps Go.WideElems
set_option linter.unusedVariables false
set_option linter.unusedSimpArgs false
/-! DerivReplays -/
set_option maxRecDepth 100000 in
set_option maxHeartbeats 4000000 in
theorem replays_any (w : World) (ta va ra : Option Addr) (tl tc vl vc rc : Nat) (fv kv : Value) (R : List Rl) (F ks : List Int) (hR : RulesAt w.heap.size w (.slice ra R.length rc) R) (hT : StrsAt w.heap.size w ta tl) (hV : StrsAt w.heap.size w va vl) (hn : R.length ≤ maxLen) (ht : tl ≤ maxLen) (hv : vl ≤ maxLen) (hF : RowAt w fv F) (hK : RowAt w kv ks) (hwf : Wf R) :
    Calls Try.prog 4 #[.agg #[.slice ta tl tc, .slice va vl vc, .slice ra R.length rc], fv, kv] w fun e w' => e = .returned (.bool true) ∧ Below w.heap.size w w' := by
  have b0 := Blk.new w 25 #[.slice ta tl tc, .slice va vl vc, .slice ra R.length rc]
  have hbl : Below w.heap.size w (w.alloc (.cells #[.slice ta tl tc, .slice va vl vc, .slice ra R.length rc] 25)) := below_lit _ _ _
  have hR1 := hR.below hbl
  have hT1 := hT.below hbl
  have hV1 := hV.below hbl
  have hF1 := hF.below hbl
  have hK1 := hK.below hbl
  generalize hW0 : w.alloc (.cells #[.slice ta tl tc, .slice va vl vc, .slice ra R.length rc] 25) = w0 at *
  have hz0 : w0.heap.size = w.heap.size + 1 := by rw [← hW0]; simp
  have HR := Lib.hid hR1
  have HT := Lib.hid hT1
  have HV := Lib.hid hV1
  have HF := Lib.hid hF1
  have HK := Lib.hid hK1
  have hin := hF.ins
  have HIN := Lib.hid hin
  obtain ⟨fo, fc, rfl, hfc, hfm, _⟩ := hF
  obtain ⟨ko, kc, rfl, hkc, hkm, _⟩ := hK
  have hfm' : fc ≤ 9223372036854775807 := by unfold maxLen at hfm; omega
  have hkm' : kc ≤ 9223372036854775807 := by unfold maxLen at hkm; omega
  clear hR hT hV hR1 hT1 hV1 hF1 hK1 hin
  go_enter Try.func4, Try.ntmps4
  go_wp2_with fail
  refine (alive_any w0).mono ?_
  rintro e w1 ⟨rfl, hb1⟩
  have hB1 : Below (w.heap.size + 1) w0 w1 := hb1.mono (by omega)
  have hz1 := hB1.size
  have bx1 := b0.below hB1 (by omega)
  have p0 := bx1.cell 0
  have p1 := bx1.cell 1
  have p2 := bx1.cell 2
  simp only [List.getElem?_toArray, List.getElem?_cons_zero, List.getElem?_cons_succ] at p0 p1 p2
  go_wp2_with fail
  refine (few_any w1 w.heap.size ta va ra tl tc vl vc rc R (HR.out.below (hB1.mono (by omega))) (by omega) hn ht hv).mono ?_
  rintro e w2 ⟨b, rfl, hfew, hb2⟩
  have hB2 : Below (w.heap.size + 1) w0 w2 := hB1.trans (hb2.mono (by omega))
  cases b
  · clear hfew
    go_wp2
    go_ret
    exact ⟨rfl, hbl.trans (hB2.mono (by omega))⟩
  · obtain ⟨f1, f2, f3, h8⟩ := hfew rfl
    have H8 := Lib.hid h8
    clear hfew h8
    have hz2 := hB2.size
    have bx2 := b0.below hB2 (by omega)
    have q0 := bx2.cell 0
    have q1 := bx2.cell 1
    have q2 := bx2.cell 2
    simp only [List.getElem?_toArray, List.getElem?_cons_zero, List.getElem?_cons_succ] at q0 q1 q2
    by_cases g1 : F.length ≤ 40
    · by_cases g2 : ks.length ≤ 60
      · go_wp2_with fail
        refine (right_any w2 w.heap.size ta va ra tl tc vl vc rc R (HR.out.below (hB2.mono (by omega))) (HT.out.below (hB2.mono (by omega))) (HV.out.below (hB2.mono (by omega))) (by omega) f3 f2 f1 H8.out).mono ?_
        rintro e w3 ⟨b, rfl, hb3⟩
        have hB3 : Below (w.heap.size + 1) w0 w3 := hB2.trans (hb3.mono (by omega))
        have hz3 := hB3.size
        cases b
        · go_wp2
          go_ret
          exact ⟨rfl, hbl.trans (hB3.mono (by omega))⟩
        · clear p0 p1 p2 q0 q1 q2 bx1 bx2 hb1 hb2 hb3 hB1 hB2 hz1 hz2
          have hRin := rules_in HR.out H8.out
          have HRI := Lib.hid hRin
          have hBw3 : w.heap.size ≤ w3.heap.size := by omega
          have bx3 := b0.below hB3 (by omega)
          have p0 := bx3.cell 0
          have p1 := bx3.cell 1
          have p2 := bx3.cell 2
          simp only [List.getElem?_toArray, List.getElem?_cons_zero, List.getElem?_cons_succ] at p0 p1 p2
          have hIA := repl_in HRI.out ks F 0 HIN.out
          have HIA := Lib.hid hIA.1
          have hla := hIA.2
          have hs1 := replay_any w3 w.heap.size ta va tl tc vl vc (.slice ra R.length rc) _ _ R F ks (HR.out.below (hB3.mono (by omega))) (by omega) (HF.out.below (by rw [hz0]; exact hB3)) (HK.out.below (by rw [hz0]; exact hB3)) (by omega) (by omega) H8.out
          unfold ReplR at hs1
          clear hIA
          go_wp2_with fail
          refine hs1.mono ?_
          rintro e w4 ⟨u4, rfl, hu1, hu2, hb4⟩
          have hB4 : Below (w.heap.size + 1) w0 w4 := hB3.trans (hb4.mono (by omega))
          have hz4 := hB4.size
          have bx4 := b0.below hB4 (by omega)
          have r40 := bx4.cell 0
          have r41 := bx4.cell 1
          have r42 := bx4.cell 2
          simp only [List.getElem?_toArray, List.getElem?_cons_zero, List.getElem?_cons_succ] at r40 r41 r42
          have hs2 := rreplay_any w4 w.heap.size ta va tl tc vl vc (.slice ra R.length rc) _ _ R F ks (HR.out.below (hB4.mono (by omega))) (by omega) (HF.out.below (by rw [hz0]; exact hB4)) (HK.out.below (by rw [hz0]; exact hB4)) (by omega) (by omega) H8.out
          unfold RReplR at hs2
          clear hs1 p0 p1 p2 bx3 bx4
          go_wp2_with fail
          refine hs2.mono ?_
          rintro e w5 ⟨u5, rfl, hv1, hv2, hb5⟩
          have hB5 : Below (w.heap.size + 1) w0 w5 := hB4.trans (hb5.mono (by omega))
          have hz5 := hB5.size
          have bx5 := b0.below hB5 (by omega)
          have r50 := bx5.cell 0
          have r51 := bx5.cell 1
          have r52 := bx5.cell 2
          simp only [List.getElem?_toArray, List.getElem?_cons_zero, List.getElem?_cons_succ] at r50 r51 r52
          have hs3 := yield_any w5 w.heap.size ta va tl tc vl vc (.slice ra R.length rc) _ _ R F ks (HR.out.below (hB5.mono (by omega))) (by omega) (HF.out.below (by rw [hz0]; exact hB5)) (HK.out.below (by rw [hz0]; exact hB5)) (by omega) (by omega) H8.out
          unfold YieldR at hs3
          clear hs2 r40 r41 r42 bx5
          go_wp2_with fail
          refine hs3.mono ?_
          rintro e w6 ⟨u6, rfl, hx1, hx2, hb6⟩
          have hB6 : Below (w.heap.size + 1) w0 w6 := hB5.trans (hb6.mono (by omega))
          have hz6 := hB6.size
          have bx6 := b0.below hB6 (by omega)
          have r60 := bx6.cell 0
          have r61 := bx6.cell 1
          have r62 := bx6.cell 2
          simp only [List.getElem?_toArray, List.getElem?_cons_zero, List.getElem?_cons_succ] at r60 r61 r62
          have hs4 := ryield_any w6 w.heap.size ta va tl tc vl vc (.slice ra R.length rc) _ _ R F ks (HR.out.below (hB6.mono (by omega))) (by omega) (HF.out.below (by rw [hz0]; exact hB6)) (HK.out.below (by rw [hz0]; exact hB6)) (by omega) (by omega) H8.out
          unfold YieldR at hs4
          clear hs3 r50 r51 r52 bx6
          go_wp2_with fail
          refine hs4.mono ?_
          rintro e w7 ⟨u7, rfl, hy1, hy2, hb7⟩
          have hB7 : Below (w.heap.size + 1) w0 w7 := hB6.trans (hb7.mono (by omega))
          have hz7 := hB7.size
          have hb47 : Below w4.heap.size w4 w7 := (hb5.trans (hb6.mono hb5.size)).trans (hb7.mono (by have := hb5.size; have := hb6.size; omega))
          have hb57 : Below w5.heap.size w5 w7 := hb6.trans (hb7.mono hb6.size)
          have hyin : (∀ n ∈ (yieldW R F ks).1, In64 n) ∧ (yieldW R F ks).1.length ≤ F.length + 8 * ks.length := by
            unfold yieldW
            split
            · split
              · exact ⟨neg_in HIA.out, by rw [List.length_map]; exact hla⟩
              · exact ⟨by simp, by simp⟩
            · exact ⟨by simp, by simp⟩
          have hfin : ∃ x, WordAt w7 u4 x ∧ WordAt w7 u5 x ∧ x.length ≤ 1000 := by
            by_cases hE : (replW R F ks 0).2.2 = 0
            · exact ⟨_, (word_own (hu1 hE) rfl HIA.out).below hb47, ((hv1 hE).word).below hb57, by omega⟩
            · have e1 := hu2 hE
              have e2 := hv2 hE
              subst e1 e2
              exact ⟨[], ⟨none, 0, rfl, by simp, fun i hi => absurd hi (Nat.not_lt_zero _)⟩, ⟨none, 0, rfl, by simp, fun i hi => absurd hi (Nat.not_lt_zero _)⟩, by simp⟩
          have hfin2 : ∃ x, WordAt w7 u6 x ∧ WordAt w7 u7 x ∧ x.length ≤ 1000 := by
            by_cases hE : (yieldW R F ks).2 = 0
            · exact ⟨_, (word_own (hx1 hE) rfl hyin.1).below hb7, word_own (hy1 hE) rfl hyin.1, by have := hyin.2; omega⟩
            · have e1 := hx2 hE
              have e2 := hy2 hE
              subst e1 e2
              exact ⟨[], ⟨none, 0, rfl, by simp, fun i hi => absurd hi (Nat.not_lt_zero _)⟩, ⟨none, 0, rfl, by simp, fun i hi => absurd hi (Nat.not_lt_zero _)⟩, by simp⟩
          obtain ⟨x1, hx11, hx12, hx13⟩ := hfin
          obtain ⟨x2, hx21, hx22, hx23⟩ := hfin2
          have HX := Lib.hid (And.intro hx11 (And.intro hx12 (And.intro hx21 hx22)))
          obtain ⟨_, _, rfl, _⟩ := hx11
          obtain ⟨_, _, rfl, _⟩ := hx12
          obtain ⟨_, _, rfl, _⟩ := hx21
          obtain ⟨_, _, rfl, _⟩ := hx22
          clear hu1 hu2 hv1 hv2 hx1 hx2 hy1 hy2 hs4 hyin hla r60 r61 r62
          generalize (replW R F ks 0).2.2 = E at *
          generalize (replW R F ks 0).2.1 = K at *
          generalize (yieldW R F ks).2 = Y at *
          have bx7 := b0.below hB7 (by omega)
          have r70 := bx7.cell 0
          have r71 := bx7.cell 1
          have r72 := bx7.cell 2
          simp only [List.getElem?_toArray, List.getElem?_cons_zero, List.getElem?_cons_succ] at r70 r71 r72
          have hS1 := fun W (hb : Below w7.heap.size w7 W) => (rsame_self W _ _ x1 (HX.out.1.below hb) (HX.out.2.1.below hb) hx13).mono (R' := fun e w' => e = .returned (.bool true) ∧ Below w7.heap.size w7 w') (fun e w' h => ⟨h.1, hb.trans (h.2.mono hb.size)⟩)
          have hS2 := fun W (hb : Below w7.heap.size w7 W) => (rsame_self W _ _ x2 (HX.out.2.2.1.below hb) (HX.out.2.2.2.below hb) hx23).mono (R' := fun e w' => e = .returned (.bool true) ∧ Below w7.heap.size w7 w') (fun e w' h => ⟨h.1, hb.trans (h.2.mono hb.size)⟩)
          have hBW : ∀ W, Below w7.heap.size w7 W → Below (w.heap.size + 1) w0 W := fun W hb => hB7.trans (hb.mono (by omega))
          have hW1 := fun W (hb : Below w7.heap.size w7 W) => (weight_any W w.heap.size ta va tl tc vl vc (.slice ra R.length rc) _ R ks (HR.out.below ((hBW W hb).mono (by omega))) (by have := (hBW W hb).size; omega) (HK.out.below (by rw [hz0]; exact hBW W hb)) (by omega) hwf).mono (R' := fun e w' => ∃ r, e = .returned (.float .f64 r) ∧ IsF (sumF (wtsW R ks)) r ∧ Below w7.heap.size w7 w') (fun e w' h => by
            obtain ⟨r, h1, h2, h3⟩ := h
            exact ⟨r, h1, h2, hb.trans (h3.mono hb.size)⟩)
          have hW2 := fun W (hb : Below w7.heap.size w7 W) => (rweight_any W w.heap.size ta va tl tc vl vc (.slice ra R.length rc) _ R ks (HR.out.below ((hBW W hb).mono (by omega))) (by have := (hBW W hb).size; omega) (HK.out.below (by rw [hz0]; exact hBW W hb)) (by omega) hwf).mono (R' := fun e w' => ∃ r, e = .returned (.float .f64 r) ∧ IsF (sumF (wtsW R ks)) r ∧ Below w7.heap.size w7 w') (fun e w' h => by
            obtain ⟨r, h1, h2, h3⟩ := h
            exact ⟨r, h1, h2, hb.trans (h3.mono hb.size)⟩)
          have HS1 := Lib.hid hS1
          have HS2 := Lib.hid hS2
          have HW1 := Lib.hid hW1
          have HW2 := Lib.hid hW2
          have HB7 := Lib.hid bx7
          have hc7 := Below.refl w7.heap.size w7
          clear hS1 hS2 hW1 hW2 hBW bx7
          go_wp2
          refine wp_region_any (by kernel_rfl) ?_
          change wpAny _ _ _ _ _ _ _ (World.drew _)
          refine wpAny_take (i := 0) (v := ?_) rfl (by kernel_rfl) (by kernel_rfl) (by kernel_rfl) (fun _ _ _ h => h) (Or.inl ⟨by kernel_rfl, ?_⟩) ?_
          rotate_left
          · intro w; go_simp; with_reducible rfl
          refine wpAny_take (i := 1) (v := ?_) rfl (by kernel_rfl) (by kernel_rfl) (by kernel_rfl) (fun _ _ _ h => h) (Or.inl ⟨by kernel_rfl, ?_⟩) ?_
          rotate_left
          · intro w; go_simp; with_reducible rfl
          refine wpAny_take (i := 2) (v := ?_) rfl (by kernel_rfl) (by kernel_rfl) (by kernel_rfl) (fun _ _ _ h => h) (Or.inl ⟨by kernel_rfl, ?_⟩) ?_
          rotate_left
          · intro w; go_simp; with_reducible rfl
          refine wpAny_take (i := 3) (v := ?_) rfl (by kernel_rfl) (by kernel_rfl) (by kernel_rfl) (fun _ _ _ h => h) (Or.inl ⟨by kernel_rfl, ?_⟩) ?_
          rotate_left
          · intro w; go_simp; with_reducible rfl
          refine wpAny_take (i := 4) (v := ?_) rfl (by kernel_rfl) (by kernel_rfl) (by kernel_rfl) (fun _ _ _ h => h) (Or.inl ⟨by kernel_rfl, ?_⟩) ?_
          rotate_left
          · intro w; go_simp; with_reducible rfl
          refine wpAny_take (i := 5) (v := ?_) rfl (by kernel_rfl) (by kernel_rfl) (by kernel_rfl) (fun _ _ _ h => h) (Or.inl ⟨by kernel_rfl, ?_⟩) ?_
          rotate_left
          · intro w; go_simp; with_reducible rfl
          refine wpAny_take (i := 6) (v := ?_) rfl (by kernel_rfl) (by kernel_rfl) (by kernel_rfl) (fun _ _ _ h => h) (Or.inl ⟨by kernel_rfl, ?_⟩) ?_
          rotate_left
          · intro w; go_simp; with_reducible rfl
          refine wpAny_take (i := 7) (v := ?_) rfl (by kernel_rfl) (by kernel_rfl) (by kernel_rfl) (fun _ _ _ h => h) (Or.inl ⟨by kernel_rfl, ?_⟩) ?_
          rotate_left
          · intro w; go_simp; with_reducible rfl
          refine wpAny_take (i := 8) (v := ?_) rfl (by kernel_rfl) (by kernel_rfl) (by kernel_rfl) (fun _ _ _ h => h) (Or.inl ⟨by kernel_rfl, ?_⟩) ?_
          rotate_left
          · intro w; go_simp; with_reducible rfl
          refine wpAny_take (i := 9) (v := ?_) rfl (by kernel_rfl) (by kernel_rfl) (by kernel_rfl) (fun _ _ _ h => h) (Or.inl ⟨by kernel_rfl, ?_⟩) ?_
          rotate_left
          · intro w; go_simp; with_reducible rfl
          refine wpAny_take (i := 10) (v := ?_) rfl (by kernel_rfl) (by kernel_rfl) (by kernel_rfl) (fun _ _ _ h => h) (Or.inl ⟨by kernel_rfl, ?_⟩) ?_
          rotate_left
          · intro w; go_simp; with_reducible rfl
          refine wpAny_ready (rs := [11]) (by kernel_rfl) (by simp) ?_
          refine AllReady.cons rfl (fun K hK => ?_) AllReady.nil
          go_simp
          go_at_call 18
          refine (HS1.out _ hc7.drew).mono ?_
          rintro e w8 ⟨rfl, hc8⟩
          refine hK _ _ ?_
          clear hK K
          refine wpAny_take (i := 12) (v := ?_) rfl (by kernel_rfl) (by kernel_rfl) (by kernel_rfl) (fun _ _ _ h => h) (Or.inl ⟨by kernel_rfl, ?_⟩) ?_
          rotate_left
          · intro w; go_simp; with_reducible rfl
          refine wpAny_take (i := 13) (v := ?_) rfl (by kernel_rfl) (by kernel_rfl) (by kernel_rfl) (fun _ _ _ h => h) (Or.inl ⟨by kernel_rfl, ?_⟩) ?_
          rotate_left
          · intro w; go_simp; with_reducible rfl
          refine wpAny_take (i := 14) (v := ?_) rfl (by kernel_rfl) (by kernel_rfl) (by kernel_rfl) (fun _ _ _ h => h) (Or.inl ⟨by kernel_rfl, ?_⟩) ?_
          rotate_left
          · intro w; go_simp; with_reducible rfl
          refine wpAny_take (i := 15) (v := ?_) rfl (by kernel_rfl) (by kernel_rfl) (by kernel_rfl) (fun _ _ _ h => h) (Or.inl ⟨by kernel_rfl, ?_⟩) ?_
          rotate_left
          · intro w; go_simp; with_reducible rfl
          refine wpAny_take (i := 16) (v := ?_) rfl (by kernel_rfl) (by kernel_rfl) (by kernel_rfl) (fun _ _ _ h => h) (Or.inl ⟨by kernel_rfl, ?_⟩) ?_
          rotate_left
          · intro w; go_simp; with_reducible rfl
          refine wpAny_take (i := 17) (v := ?_) rfl (by kernel_rfl) (by kernel_rfl) (by kernel_rfl) (fun _ _ _ h => h) (Or.inl ⟨by kernel_rfl, ?_⟩) ?_
          rotate_left
          · intro w; go_simp; with_reducible rfl
          refine wpAny_take (i := 18) (v := ?_) rfl (by kernel_rfl) (by kernel_rfl) (by kernel_rfl) (fun _ _ _ h => h) (Or.inl ⟨by kernel_rfl, ?_⟩) ?_
          rotate_left
          · intro w; go_simp; with_reducible rfl
          refine wpAny_take (i := 19) (v := ?_) rfl (by kernel_rfl) (by kernel_rfl) (by kernel_rfl) (fun _ _ _ h => h) (Or.inl ⟨by kernel_rfl, ?_⟩) ?_
          rotate_left
          · intro w; go_simp; with_reducible rfl
          refine wpAny_take (i := 20) (v := ?_) rfl (by kernel_rfl) (by kernel_rfl) (by kernel_rfl) (fun _ _ _ h => h) (Or.inl ⟨by kernel_rfl, ?_⟩) ?_
          rotate_left
          · intro w; go_simp; with_reducible rfl
          refine wpAny_ready (rs := [21]) (by kernel_rfl) (by simp) ?_
          refine AllReady.cons rfl (fun K hK => ?_) AllReady.nil
          go_simp
          go_at_call 18
          refine (HS2.out _ hc8).mono ?_
          rintro e w9 ⟨rfl, hc9⟩
          have bx9 := HB7.out.below hc9 HB7.out.lt
          have r90 := bx9.cell 0
          have r91 := bx9.cell 1
          have r92 := bx9.cell 2
          simp only [List.getElem?_toArray, List.getElem?_cons_zero, List.getElem?_cons_succ] at r90 r91 r92
          refine hK _ _ ?_
          clear hK K
          refine wpAny_take (i := 22) (v := ?_) rfl (by kernel_rfl) (by kernel_rfl) (by kernel_rfl) (fun _ _ _ h => h) (Or.inl ⟨by kernel_rfl, ?_⟩) ?_
          rotate_left
          · intro w; go_simp; with_reducible rfl
          refine wpAny_take (i := 23) (v := ?_) rfl (by kernel_rfl) (by kernel_rfl) (by kernel_rfl) (fun _ _ _ h => h) (Or.inl ⟨by kernel_rfl, ?_⟩) ?_
          rotate_left
          · intro w; go_simp; with_reducible rfl
          refine wpAny_take (i := 25) (v := ?_) rfl (by kernel_rfl) (by kernel_rfl) (by kernel_rfl) (fun _ _ _ h => h) (Or.inl ⟨by kernel_rfl, ?_⟩) ?_
          rotate_left
          · intro w; go_simp; with_reducible rfl
          refine wpAny_take (i := 28) (v := ?_) rfl (by kernel_rfl) (by kernel_rfl) (by kernel_rfl) (fun _ _ _ h => h) (Or.inl ⟨by kernel_rfl, ?_⟩) ?_
          rotate_left
          · intro w; go_simp; with_reducible rfl
          refine wpAny_ready (rs := [24, 27]) (by kernel_rfl) (by simp) ?_
          refine AllReady.cons rfl (fun K hK => ?_) (AllReady.cons rfl (fun K hK => ?_) AllReady.nil)
          · go_simp
            refine hK _ _ ?_
            clear hK K
            refine wpAny_ready (rs := [26, 27]) (by kernel_rfl) (by simp) ?_
            refine AllReady.cons rfl (fun K hK => ?_) (AllReady.cons rfl (fun K hK => ?_) AllReady.nil)
            · go_simp
              go_at_call 26
              refine (HW1.out _ hc9).mono ?_
              rintro e wa ⟨f1, rfl, hf1, hca⟩
              have bxa := HB7.out.below hca HB7.out.lt
              have ra0 := bxa.cell 0
              have ra1 := bxa.cell 1
              have ra2 := bxa.cell 2
              simp only [List.getElem?_toArray, List.getElem?_cons_zero, List.getElem?_cons_succ] at ra0 ra1 ra2
              refine hK _ _ ?_
              clear hK K
              refine wpAny_ready (rs := [27]) (by kernel_rfl) (by simp) ?_
              refine AllReady.cons rfl (fun K hK => ?_) AllReady.nil
              go_simp
              refine hK _ _ ?_
              clear hK K
              refine wpAny_ready (rs := [29]) (by kernel_rfl) (by simp) ?_
              refine AllReady.cons rfl (fun K hK => ?_) AllReady.nil
              go_simp
              go_at_call 27
              refine (HW2.out _ hca).mono ?_
              rintro e wb ⟨f2, rfl, hf2, hcb⟩
              have hfs := fsame_any f1 f2 wb hf1.1 hf2.1
              rw [decide_eq_true (IsF.key hf1 hf2)] at hfs
              refine hK _ _ ?_
              clear hK K
              refine wpAny_ready (rs := [30]) (by kernel_rfl) (by simp) ?_
              refine AllReady.cons rfl (fun K hK => ?_) AllReady.nil
              go_simp
              go_at_call 25
              refine hfs.mono ?_
              rintro e wc ⟨rfl, rfl⟩
              refine hK _ _ ?_
              clear hK K
              refine wpAny_take (i := 31) (v := ?_) rfl (by kernel_rfl) (by kernel_rfl) (by kernel_rfl) (fun _ _ _ h => h) (Or.inl ⟨by kernel_rfl, ?_⟩) ?_
              rotate_left
              · intro w; go_simp; with_reducible rfl
              refine wpAny_take (i := 32) (v := ?_) rfl (by kernel_rfl) (by kernel_rfl) (by kernel_rfl) (fun _ _ _ h => h) (Or.inl ⟨by kernel_rfl, ?_⟩) ?_
              rotate_left
              · intro w; go_simp; with_reducible rfl
              refine wpAny_done (by kernel_rfl) ?_ _
              go_wp2
              go_ret
              exact ⟨rfl, hbl.trans ((hB7.trans (hcb.mono (by omega))).mono (by omega))⟩
            · go_simp
              refine hK _ _ ?_
              clear hK K
              refine wpAny_ready (rs := [26]) (by kernel_rfl) (by simp) ?_
              refine AllReady.cons rfl (fun K hK => ?_) AllReady.nil
              go_simp
              go_at_call 26
              refine (HW1.out _ hc9).mono ?_
              rintro e wa ⟨f1, rfl, hf1, hca⟩
              have bxa := HB7.out.below hca HB7.out.lt
              have ra0 := bxa.cell 0
              have ra1 := bxa.cell 1
              have ra2 := bxa.cell 2
              simp only [List.getElem?_toArray, List.getElem?_cons_zero, List.getElem?_cons_succ] at ra0 ra1 ra2
              refine hK _ _ ?_
              clear hK K
              refine wpAny_ready (rs := [29]) (by kernel_rfl) (by simp) ?_
              refine AllReady.cons rfl (fun K hK => ?_) AllReady.nil
              go_simp
              go_at_call 27
              refine (HW2.out _ hca).mono ?_
              rintro e wb ⟨f2, rfl, hf2, hcb⟩
              have hfs := fsame_any f1 f2 wb hf1.1 hf2.1
              rw [decide_eq_true (IsF.key hf1 hf2)] at hfs
              refine hK _ _ ?_
              clear hK K
              refine wpAny_ready (rs := [30]) (by kernel_rfl) (by simp) ?_
              refine AllReady.cons rfl (fun K hK => ?_) AllReady.nil
              go_simp
              go_at_call 25
              refine hfs.mono ?_
              rintro e wc ⟨rfl, rfl⟩
              refine hK _ _ ?_
              clear hK K
              refine wpAny_take (i := 31) (v := ?_) rfl (by kernel_rfl) (by kernel_rfl) (by kernel_rfl) (fun _ _ _ h => h) (Or.inl ⟨by kernel_rfl, ?_⟩) ?_
              rotate_left
              · intro w; go_simp; with_reducible rfl
              refine wpAny_take (i := 32) (v := ?_) rfl (by kernel_rfl) (by kernel_rfl) (by kernel_rfl) (fun _ _ _ h => h) (Or.inl ⟨by kernel_rfl, ?_⟩) ?_
              rotate_left
              · intro w; go_simp; with_reducible rfl
              refine wpAny_done (by kernel_rfl) ?_ _
              go_wp2
              go_ret
              exact ⟨rfl, hbl.trans ((hB7.trans (hcb.mono (by omega))).mono (by omega))⟩
          · go_simp
            refine hK _ _ ?_
            clear hK K
            refine wpAny_ready (rs := [24]) (by kernel_rfl) (by simp) ?_
            refine AllReady.cons rfl (fun K hK => ?_) AllReady.nil
            go_simp
            refine hK _ _ ?_
            clear hK K
            refine wpAny_ready (rs := [26]) (by kernel_rfl) (by simp) ?_
            refine AllReady.cons rfl (fun K hK => ?_) AllReady.nil
            go_simp
            go_at_call 26
            refine (HW1.out _ hc9).mono ?_
            rintro e wa ⟨f1, rfl, hf1, hca⟩
            have bxa := HB7.out.below hca HB7.out.lt
            have ra0 := bxa.cell 0
            have ra1 := bxa.cell 1
            have ra2 := bxa.cell 2
            simp only [List.getElem?_toArray, List.getElem?_cons_zero, List.getElem?_cons_succ] at ra0 ra1 ra2
            refine hK _ _ ?_
            clear hK K
            refine wpAny_ready (rs := [29]) (by kernel_rfl) (by simp) ?_
            refine AllReady.cons rfl (fun K hK => ?_) AllReady.nil
            go_simp
            go_at_call 27
            refine (HW2.out _ hca).mono ?_
            rintro e wb ⟨f2, rfl, hf2, hcb⟩
            have hfs := fsame_any f1 f2 wb hf1.1 hf2.1
            rw [decide_eq_true (IsF.key hf1 hf2)] at hfs
            refine hK _ _ ?_
            clear hK K
            refine wpAny_ready (rs := [30]) (by kernel_rfl) (by simp) ?_
            refine AllReady.cons rfl (fun K hK => ?_) AllReady.nil
            go_simp
            go_at_call 25
            refine hfs.mono ?_
            rintro e wc ⟨rfl, rfl⟩
            refine hK _ _ ?_
            clear hK K
            refine wpAny_take (i := 31) (v := ?_) rfl (by kernel_rfl) (by kernel_rfl) (by kernel_rfl) (fun _ _ _ h => h) (Or.inl ⟨by kernel_rfl, ?_⟩) ?_
            rotate_left
            · intro w; go_simp; with_reducible rfl
            refine wpAny_take (i := 32) (v := ?_) rfl (by kernel_rfl) (by kernel_rfl) (by kernel_rfl) (fun _ _ _ h => h) (Or.inl ⟨by kernel_rfl, ?_⟩) ?_
            rotate_left
            · intro w; go_simp; with_reducible rfl
            refine wpAny_done (by kernel_rfl) ?_ _
            go_wp2
            go_ret
            exact ⟨rfl, hbl.trans ((hB7.trans (hcb.mono (by omega))).mono (by omega))⟩
      · go_wp2
        go_ret
        exact ⟨rfl, hbl.trans (hB2.mono (by omega))⟩
    · go_wp2
      go_ret
      exact ⟨rfl, hbl.trans (hB2.mono (by omega))⟩
end Go.Proofs.Ytomikgkoegkofaa.dv
