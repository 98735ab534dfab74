/- For any grammar, any variable and any two lists of choices the law TreeSames returns true, and what it was handed reads afterwards as it did; no condition. -/
import Derived.Test.YtomikgkoegkofaaJc
namespace Go.Proofs.Ytomikgkoegkofaa.dt
open Go.ChangeShapes Go.WideShapes Go.ChangeAt Go.RowKit Go.Maps Go.WideMaps Go.WideElems Go.Shelf Go.Proofs.Ytomikgkoegkofaa.dv
set_option linter.unusedVariables false
set_option linter.unusedSimpArgs false
/-! TreeSames -/
set_option maxRecDepth 100000 in
set_option maxHeartbeats 8000000 in
theorem tsames_any (w : World) (ta va ra : Option Addr) (tl tc vl vc rc : Nat) (av bv : Value) (v : Int) (R : List Rl) (A B : List Int) (hR : RulesAt w.heap.size w (.slice ra R.length rc) R) (hT : StrsAt w.heap.size w ta tl) (hV : StrsAt w.heap.size w va vl) (hn : R.length ≤ maxLen) (ht : tl ≤ maxLen) (hv : vl ≤ maxLen) (hA : RowAt w av A) (hB : RowAt w bv B) :
    Calls Try.prog 9 #[.agg #[.slice ta tl tc, .slice va vl vc, .slice ra R.length rc], .int .i64 v, av, bv] w fun e w' => e = .returned (.bool true) ∧ Below w.heap.size w w' := by
  have b0 := Blk.new w 25 #[.slice ta tl tc, .slice va vl vc, .slice ra R.length rc]
  have hbl : Below w.heap.size w (w.alloc (.cells #[.slice ta tl tc, .slice va vl vc, .slice ra R.length rc] 25)) := below_lit _ _ _
  have hR1 := hR.below hbl
  have hT1 := hT.below hbl
  have hV1 := hV.below hbl
  have hA1 := hA.below hbl
  have hB1 := hB.below hbl
  generalize hW0 : w.alloc (.cells #[.slice ta tl tc, .slice va vl vc, .slice ra R.length rc] 25) = w0 at *
  have hz0 : w0.heap.size = w.heap.size + 1 := by rw [← hW0]; simp
  have HR := Lib.hid hR1
  have HT := Lib.hid hT1
  have HV := Lib.hid hV1
  have HA := Lib.hid hA1
  have HB := Lib.hid hB1
  obtain ⟨ao, ac, rfl, hac, ham, _⟩ := hA
  obtain ⟨bo, bc, rfl, hbc, hbm, _⟩ := hB
  have ham' : ac ≤ 9223372036854775807 := by unfold maxLen at ham; omega
  have hbm' : bc ≤ 9223372036854775807 := by unfold maxLen at hbm; omega
  clear hR hT hV hR1 hT1 hV1 hA1 hB1
  go_enter Try.func9, Try.ntmps9
  go_wp2_with fail
  refine (talive_any w0).mono ?_
  rintro e w1 ⟨rfl, hb1⟩
  have hB1 : Below (w.heap.size + 1) w0 w1 := hb1.mono (by omega)
  have hz1 := hB1.size
  have bx1 := b0.below hB1 (by omega)
  have p0 := bx1.cell 0
  have p1 := bx1.cell 1
  have p2 := bx1.cell 2
  simp only [List.getElem?_toArray, List.getElem?_cons_zero, List.getElem?_cons_succ] at p0 p1 p2
  go_wp2_with fail
  refine (few_any w1 w.heap.size ta va ra tl tc vl vc rc R (HR.out.below (hB1.mono (by omega))) (by omega) hn ht hv).mono ?_
  rintro e w2 ⟨b, rfl, hfew, hb2⟩
  have hB2 : Below (w.heap.size + 1) w0 w2 := hB1.trans (hb2.mono (by omega))
  cases b
  · clear hfew
    go_wp2
    go_ret
    exact ⟨rfl, hbl.trans (hB2.mono (by omega))⟩
  obtain ⟨f1, f2, f3, h8⟩ := hfew rfl
  have H8 := Lib.hid h8
  clear hfew h8
  have hz2 := hB2.size
  have bx2 := b0.below hB2 (by omega)
  have q0 := bx2.cell 0
  have q1 := bx2.cell 1
  have q2 := bx2.cell 2
  simp only [List.getElem?_toArray, List.getElem?_cons_zero, List.getElem?_cons_succ] at q0 q1 q2
  by_cases g1 : A.length ≤ 60
  case neg =>
    go_wp2
    go_ret
    exact ⟨rfl, hbl.trans (hB2.mono (by omega))⟩
  by_cases g2 : B.length ≤ 60
  case neg =>
    go_wp2
    go_ret
    exact ⟨rfl, hbl.trans (hB2.mono (by omega))⟩
  go_wp2_with fail
  refine (right_full w2 w.heap.size ta va ra tl tc vl vc rc R (HR.out.below (hB2.mono (by omega))) (HT.out.below (hB2.mono (by omega))) (HV.out.below (hB2.mono (by omega))) (by omega) f3 f2 f1 H8.out).mono ?_
  rintro e w3 ⟨b, rfl, hri, hb3⟩
  have hB3 : Below (w.heap.size + 1) w0 w3 := hB2.trans (hb3.mono (by omega))
  have hz3 := hB3.size
  have bx3 := b0.below hB3 (by omega)
  have r0 := bx3.cell 0
  have r1 := bx3.cell 1
  have r2 := bx3.cell 2
  simp only [List.getElem?_toArray, List.getElem?_cons_zero, List.getElem?_cons_succ] at r0 r1 r2
  cases b
  · go_wp2
    go_ret
    exact ⟨rfl, hbl.trans (hB3.mono (by omega))⟩
  by_cases hv0 : 0 ≤ v
  case neg =>
    go_wp2
    go_ret
    exact ⟨rfl, hbl.trans (hB3.mono (by omega))⟩
  by_cases hvl : v < (vl : Int)
  case neg =>
    go_wp2
    go_ret
    exact ⟨rfl, hbl.trans (hB3.mono (by omega))⟩
  have HRI := Lib.hid (hri rfl)
  obtain ⟨TS, hTl, hTS, hTs⟩ := txt_of (cap := tc) (HT.out.below (hB2.mono (by omega))) ht HRI.out.2.2
  obtain ⟨VS, hVl, hVS, hVs⟩ := txt_of (cap := vc) (HV.out.below (hB2.mono (by omega))) hv HRI.out.2.1
  have HTX := Lib.hid (And.intro hTl (And.intro hTS hTs))
  have HVX := Lib.hid (And.intro hVl (And.intro hVS hVs))
  clear hTl hTS hTs hVl hVS hVs
  clear hri p0 p1 p2 q0 q1 q2
  have hv64 : In64 v := by unfold In64; omega
  have ho1 := of_any w3 w.heap.size ta va tl tc vl vc (.slice ra R.length rc) (.slice ao A.length ac) R v A (HR.out.below (hB3.mono (by omega))) (by omega) hv64 (HA.out.below (by rw [hz0]; exact hB3)) (by omega) H8.out
  go_wp2_with fail
  refine ho1.mono ?_
  intro e w4 hof1
  obtain ⟨px, ex, rfl, hex, hx0, hx1, hb4⟩ := of_out hof1
  have hB4 : Below (w.heap.size + 1) w0 w4 := hB3.trans (hb4.mono (by omega))
  have hz4 := hB4.size
  have bx4 := b0.below hB4 (by omega)
  have s0 := bx4.cell 0
  have s1 := bx4.cell 1
  have s2 := bx4.cell 2
  simp only [List.getElem?_toArray, List.getElem?_cons_zero, List.getElem?_cons_succ] at s0 s1 s2
  have ho2 := of_any w4 w.heap.size ta va tl tc vl vc (.slice ra R.length rc) (.slice bo B.length bc) R v B (HR.out.below (hB4.mono (by omega))) (by omega) hv64 (HB.out.below (by rw [hz0]; exact hB4)) (by omega) H8.out
  have HX0 := Lib.hid hx0
  have HX1 := Lib.hid hx1
  clear hof1 ho1 hex hx0 hx1 r0 r1 r2
  go_wp2_with fail
  refine ho2.mono ?_
  intro e w5 hof2
  obtain ⟨py, ey, rfl, hey, hy0, hy1, hb5⟩ := of_out hof2
  have hB5 : Below (w.heap.size + 1) w0 w5 := hB4.trans (hb5.mono (by omega))
  have hz5 := hB5.size
  have HY0 := Lib.hid hy0
  have HY1 := Lib.hid hy1
  clear hof2 ho2 hey hy0 hy1 s0 s1 s2
  by_cases he1 : ex = 0
  case neg =>
    have c1 : (ex != 0) = true := by simpa using he1
    go_wp2
    go_ret
    exact ⟨rfl, hbl.trans (hB5.mono (by omega))⟩
  by_cases he2 : ey = 0
  case neg =>
    have c1 : (ex != 0) = false := by simpa using he1
    have c2 : (ey != 0) = true := by simpa using he2
    go_wp2
    go_ret
    exact ⟨rfl, hbl.trans (hB5.mono (by omega))⟩
  subst he1 he2
  obtain ⟨b, rb, kb, rfl, hfb4, hbf⟩ := HX1.out rfl
  obtain ⟨c, rc', kc, rfl, hfc, hbc'⟩ := HY1.out rfl
  have hfb := hfb4.kept hb5
  have hsm := rsame_any w5 (.slice ao A.length ac) (.slice bo B.length bc) A B ((HA.out.below (by rw [hz0]; exact hB5)).word) ((HB.out.below (by rw [hz0]; exact hB5)).word) (by omega) (by omega)
  have HBF := Lib.hid hbf
  have HCF := Lib.hid hbc'
  have HFB := Lib.hid hfb
  have HFC := Lib.hid hfc
  have c1 : ((0 : Int) != 0) = false := rfl
  clear hfb4 hbf hbc' hfb hfc HX0 HX1 HY0 HY1
  go_wp2_with fail
  refine hsm.mono ?_
  rintro e w6 ⟨rfl, n6, rfl⟩
  have hb6 : Below w5.heap.size w5 (w5.drewN n6) := below_drewN (Below.refl _ _) n6
  have hB6 : Below (w.heap.size + 1) w0 (w5.drewN n6) := hB5.trans (hb6.mono (by omega))
  have hfb6 := HFB.out.kept hb6
  have hfc6 := HFC.out.kept hb6
  clear hsm
  generalize w5.drewN n6 = w7 at *
  have hz7 := hB6.size
  have HG7 := Lib.hid (b0.below hB6 (by omega))
  have hc7 : Below w7.heap.size w7 w7 := Below.refl _ _
  have h8 := H8.out
  have hrl := HRI.out.1.2
  have hsv : ∀ s ∈ [v], SymOk tl vl s := fun s hs => by
    obtain rfl : s = v := by simpa using hs
    exact ⟨hvl, by omega⟩
  have hfor1 := bf_for HBF.out hrl f3 hsv
  have hfor2 := bf_for HCF.out hrl f3 hsv
  have hsz1 := bf_size HBF.out h8
  have hsz2 := bf_size HCF.out h8
  simp only [List.length_cons, List.length_nil] at hsz1 hsz2
  have hin1 := Fo.for_mono (q := fun s r => In64 s ∧ In64 r) (fun s r h => ⟨sym_in h.1 f2 f1, h.2⟩) _ hfor1
  have hin2 := Fo.for_mono (q := fun s r => In64 s ∧ In64 r) (fun s r h => ⟨sym_in h.1 f2 f1, h.2⟩) _ hfor2
  have hkz1 : kb.size ≤ 999999 := by simp only [Fo.size] at hsz1; omega
  have hkz2 : kc.size ≤ 999999 := by simp only [Fo.size] at hsz2; omega
  have hS1 : ∀ W, Below w7.heap.size w7 W → Calls Try.prog 38 #[.pointer (some ⟨b, 0, none⟩), .pointer (some ⟨c, 0, none⟩)] W fun e w' => e = .returned (.bool (decide (A = B))) ∧ Below w7.heap.size w7 w' := fun W hb => (same_fo W b c v rb v rc' kb kc (hfb6.kept hb) (hfc6.kept hb) hkz1 hkz2).mono (fun e w' h => by
    rw [bf_same HBF.out HCF.out] at h
    obtain ⟨h1, q, rfl⟩ := h
    exact ⟨h1, below_drewN hb q⟩)
  have hS2 : ∀ W, Below w7.heap.size w7 W → Calls Try.prog 38 #[.pointer (some ⟨c, 0, none⟩), .pointer (some ⟨b, 0, none⟩)] W fun e w' => e = .returned (.bool (decide (A = B))) ∧ Below w7.heap.size w7 w' := fun W hb => (same_fo W c b v rc' v rb kc kb (hfc6.kept hb) (hfb6.kept hb) hkz2 hkz1).mono (fun e w' h => by
    rw [bf_same HCF.out HBF.out] at h
    obtain ⟨h1, q, rfl⟩ := h
    exact ⟨h1.trans (by simp only [eq_comm]), below_drewN hb q⟩)
  have hX1 : ∀ W, Below w7.heap.size w7 W → Calls Try.prog 36 #[.pointer (some ⟨b, 0, none⟩)] W fun e w' => ∃ u, e = .returned u ∧ WordAt w' u A ∧ Below W.heap.size W w' := fun W hb => (rules_fo W b _ (hfb6.kept hb) (by omega) hin1).mono (fun e w' h => by
    obtain ⟨⟨u, h1, h2⟩, h3⟩ := h
    rw [bf_rules HBF.out] at h2
    exact ⟨u, h1, word_own h2 rfl (HA.out.ins), h3⟩)
  have hX2 : ∀ W, Below w7.heap.size w7 W → Calls Try.prog 36 #[.pointer (some ⟨c, 0, none⟩)] W fun e w' => ∃ u, e = .returned u ∧ WordAt w' u B ∧ Below W.heap.size W w' := fun W hb => (rules_fo W c _ (hfc6.kept hb) (by omega) hin2).mono (fun e w' h => by
    obtain ⟨⟨u, h1, h2⟩, h3⟩ := h
    rw [bf_rules HCF.out] at h2
    exact ⟨u, h1, word_own h2 rfl (HB.out.ins), h3⟩)
  have hQ : ∀ W u1 u2, WordAt W u1 A → WordAt W u2 B → Calls Try.prog 18 #[u1, u2] W fun e w' => e = .returned (.bool (decide (A = B))) ∧ Below W.heap.size W w' := fun W u1 u2 h1 h2 => (rsame_any W u1 u2 A B h1 h2 (by omega) (by omega)).mono (fun e w' h => by
    obtain ⟨h1, q, rfl⟩ := h
    exact ⟨h1, below_drewN (Below.refl _ _) q⟩)
  have hEND : ∀ W, Below w7.heap.size w7 W → Below w.heap.size w W := fun W hb => hbl.trans ((hB6.trans (hb.mono (by omega))).mono (by omega))
  have HS1 := Lib.hid hS1
  have HS2 := Lib.hid hS2
  have HX1 := Lib.hid hX1
  have HX2 := Lib.hid hX2
  have HQ := Lib.hid hQ
  have HEND := Lib.hid hEND
  by_cases hz : A = B
  case neg =>
    rw [decide_eq_false hz] at HS1 HS2 HQ
    rw [decide_eq_false hz]
    clear hS1 hS2 hX1 hX2 hQ hEND hin1 hin2 hsz1 hsz2 hfor1 hfor2 hsv h8 hrl hfb6 hfc6 hb6 hB6 bx1 bx2 bx3 bx4 hb1 hb2 hb3 hb4 hb5 hB1 hB2 hB3 hB4 hB5 b0 hbl hz
    go_wp2
    refine wp_region_any (by kernel_rfl) ?_
    change wpAny _ _ _ _ _ _ _ (World.drew _)
    refine wpAny_take (i := 0) (v := ?_) rfl (by kernel_rfl) (by kernel_rfl) (by kernel_rfl) (fun _ _ _ h => h) (Or.inl ⟨by kernel_rfl, ?_⟩) ?_
    rotate_left
    · intro w; go_simp; with_reducible rfl
    refine wpAny_take (i := 1) (v := ?_) rfl (by kernel_rfl) (by kernel_rfl) (by kernel_rfl) (fun _ _ _ h => h) (Or.inl ⟨by kernel_rfl, ?_⟩) ?_
    rotate_left
    · intro w; go_simp; with_reducible rfl
    refine wpAny_take (i := 3) (v := ?_) rfl (by kernel_rfl) (by kernel_rfl) (by kernel_rfl) (fun _ _ _ h => h) (Or.inl ⟨by kernel_rfl, ?_⟩) ?_
    rotate_left
    · intro w; go_simp; with_reducible rfl
    refine wpAny_ready (rs := [2]) (by kernel_rfl) (by simp) ?_
    refine AllReady.cons rfl (fun K hK => ?_) AllReady.nil
    go_simp
    go_at_call 38
    refine (HS1.out _ hc7.drew).mono ?_
    rintro e w8 ⟨rfl, hc8⟩
    refine hK _ _ ?_
    clear hK K
    refine wpAny_take (i := 4) (v := ?_) rfl (by kernel_rfl) (by kernel_rfl) (by kernel_rfl) (fun _ _ _ h => h) (Or.inl ⟨by kernel_rfl, ?_⟩) ?_
    rotate_left
    · intro w; go_simp; with_reducible rfl
    refine wpAny_take (i := 5) (v := ?_) rfl (by kernel_rfl) (by kernel_rfl) (by kernel_rfl) (fun _ _ _ h => h) (Or.inl ⟨by kernel_rfl, ?_⟩) ?_
    rotate_left
    · intro w; go_simp; with_reducible rfl
    refine wpAny_take (i := 6) (v := ?_) rfl (by kernel_rfl) (by kernel_rfl) (by kernel_rfl) (fun _ _ _ h => h) (Or.inl ⟨by kernel_rfl, ?_⟩) ?_
    rotate_left
    · intro w; go_simp; with_reducible rfl
    refine wpAny_take (i := 7) (v := ?_) rfl (by kernel_rfl) (by kernel_rfl) (by kernel_rfl) (fun _ _ _ h => h) (Or.inl ⟨by kernel_rfl, ?_⟩) ?_
    rotate_left
    · intro w; go_simp; with_reducible rfl
    refine wpAny_take (i := 9) (v := ?_) rfl (by kernel_rfl) (by kernel_rfl) (by kernel_rfl) (fun _ _ _ h => h) (Or.inl ⟨by kernel_rfl, ?_⟩) ?_
    rotate_left
    · intro w; go_simp; with_reducible rfl
    refine wpAny_ready (rs := [8]) (by kernel_rfl) (by simp) ?_
    refine AllReady.cons rfl (fun K hK => ?_) AllReady.nil
    go_simp
    go_at_call 38
    refine (HS2.out _ hc8).mono ?_
    rintro e w9 ⟨rfl, hc9⟩
    refine hK _ _ ?_
    clear hK K
    refine wpAny_take (i := 10) (v := ?_) rfl (by kernel_rfl) (by kernel_rfl) (by kernel_rfl) (fun _ _ _ h => h) (Or.inl ⟨by kernel_rfl, ?_⟩) ?_
    rotate_left
    · intro w; go_simp; with_reducible rfl
    refine wpAny_take (i := 11) (v := ?_) rfl (by kernel_rfl) (by kernel_rfl) (by kernel_rfl) (fun _ _ _ h => h) (Or.inl ⟨by kernel_rfl, ?_⟩) ?_
    rotate_left
    · intro w; go_simp; with_reducible rfl
    refine wpAny_take (i := 12) (v := ?_) rfl (by kernel_rfl) (by kernel_rfl) (by kernel_rfl) (fun _ _ _ h => h) (Or.inl ⟨by kernel_rfl, ?_⟩) ?_
    rotate_left
    · intro w; go_simp; with_reducible rfl
    refine wpAny_take (i := 13) (v := ?_) rfl (by kernel_rfl) (by kernel_rfl) (by kernel_rfl) (fun _ _ _ h => h) (Or.inl ⟨by kernel_rfl, ?_⟩) ?_
    rotate_left
    · intro w; go_simp; with_reducible rfl
    refine wpAny_take (i := 15) (v := ?_) rfl (by kernel_rfl) (by kernel_rfl) (by kernel_rfl) (fun _ _ _ h => h) (Or.inl ⟨by kernel_rfl, ?_⟩) ?_
    rotate_left
    · intro w; go_simp; with_reducible rfl
    refine wpAny_take (i := 18) (v := ?_) rfl (by kernel_rfl) (by kernel_rfl) (by kernel_rfl) (fun _ _ _ h => h) (Or.inl ⟨by kernel_rfl, ?_⟩) ?_
    rotate_left
    · intro w; go_simp; with_reducible rfl
    refine wpAny_ready (rs := [14]) (by kernel_rfl) (by simp) ?_
    refine AllReady.cons rfl (fun K hK => ?_) AllReady.nil
    go_simp
    go_at_call 36
    refine (HX1.out _ hc9).mono ?_
    rintro e wa ⟨u1, rfl, hu1, hca0⟩
    have hca := hc9.trans (hca0.mono hc9.size)
    refine hK _ _ ?_
    clear hK K
    refine wpAny_ready (rs := [16]) (by kernel_rfl) (by simp) ?_
    refine AllReady.cons rfl (fun K hK => ?_) AllReady.nil
    go_simp
    go_at_call 36
    refine (HX2.out _ hca).mono ?_
    rintro e wb ⟨u2, rfl, hu2, hcb0⟩
    have hcb := hca.trans (hcb0.mono hca.size)
    refine hK _ _ ?_
    clear hK K
    refine wpAny_ready (rs := [17]) (by kernel_rfl) (by simp) ?_
    refine AllReady.cons rfl (fun K hK => ?_) AllReady.nil
    go_simp
    go_at_call 18
    refine (HQ.out _ _ _ (hu1.below hcb0) hu2).mono ?_
    rintro e wc ⟨rfl, hcc0⟩
    have hcc := hcb.trans (hcc0.mono hcb.size)
    have bxc := HG7.out.below hcc HG7.out.lt
    have xc0 := bxc.cell 0
    have xc1 := bxc.cell 1
    have xc2 := bxc.cell 2
    simp only [List.getElem?_toArray, List.getElem?_cons_zero, List.getElem?_cons_succ] at xc0 xc1 xc2
    refine hK _ _ ?_
    clear hK K
    refine wpAny_take (i := 19) (v := ?_) rfl (by kernel_rfl) (by kernel_rfl) (by kernel_rfl) (fun _ _ _ h => h) (Or.inl ⟨by kernel_rfl, ?_⟩) ?_
    rotate_left
    · intro w; go_simp; with_reducible rfl
    refine wpAny_take (i := 20) (v := ?_) rfl (by kernel_rfl) (by kernel_rfl) (by kernel_rfl) (fun _ _ _ h => h) (Or.inl ⟨by kernel_rfl, ?_⟩) ?_
    rotate_left
    · intro w; go_simp; with_reducible rfl
    refine wpAny_take (i := 21) (v := ?_) rfl (by kernel_rfl) (by kernel_rfl) (by kernel_rfl) (fun _ _ _ h => h) (Or.inl ⟨by kernel_rfl, ?_⟩) ?_
    rotate_left
    · intro w; go_simp; with_reducible rfl
    refine wpAny_take (i := 22) (v := ?_) rfl (by kernel_rfl) (by kernel_rfl) (by kernel_rfl) (fun _ _ _ h => h) (Or.inl ⟨by kernel_rfl, ?_⟩) ?_
    rotate_left
    · intro w; go_simp; with_reducible rfl
    refine wpAny_take (i := 23) (v := ?_) rfl (by kernel_rfl) (by kernel_rfl) (by kernel_rfl) (fun _ _ _ h => h) (Or.inl ⟨by kernel_rfl, ?_⟩) ?_
    rotate_left
    · intro w; go_simp; with_reducible rfl
    refine wpAny_take (i := 24) (v := ?_) rfl (by kernel_rfl) (by kernel_rfl) (by kernel_rfl) (fun _ _ _ h => h) (Or.inl ⟨by kernel_rfl, ?_⟩) ?_
    rotate_left
    · intro w; go_simp; with_reducible rfl
    refine wpAny_take (i := 25) (v := _) rfl (by kernel_rfl) (by kernel_rfl) (by kernel_rfl) (fun _ _ _ h => h) (Or.inr ⟨by kernel_rfl, rfl⟩) ?_
    refine wpAny_take (i := 26) (v := _) rfl (by kernel_rfl) (by kernel_rfl) (by kernel_rfl) (fun _ _ _ h => h) (Or.inr ⟨by kernel_rfl, rfl⟩) ?_
    refine wpAny_take (i := 27) (v := _) rfl (by kernel_rfl) (by kernel_rfl) (by kernel_rfl) (fun _ _ _ h => h) (Or.inr ⟨by kernel_rfl, rfl⟩) ?_
    refine wpAny_take (i := 28) (v := _) rfl (by kernel_rfl) (by kernel_rfl) (by kernel_rfl) (fun _ _ _ h => h) (Or.inr ⟨by kernel_rfl, rfl⟩) ?_
    refine wpAny_take (i := 29) (v := _) rfl (by kernel_rfl) (by kernel_rfl) (by kernel_rfl) (fun _ _ _ h => h) (Or.inr ⟨by kernel_rfl, rfl⟩) ?_
    refine wpAny_take (i := 30) (v := _) rfl (by kernel_rfl) (by kernel_rfl) (by kernel_rfl) (fun _ _ _ h => h) (Or.inr ⟨by kernel_rfl, rfl⟩) ?_
    refine wpAny_take (i := 31) (v := _) rfl (by kernel_rfl) (by kernel_rfl) (by kernel_rfl) (fun _ _ _ h => h) (Or.inr ⟨by kernel_rfl, rfl⟩) ?_
    refine wpAny_take (i := 32) (v := ?_) rfl (by kernel_rfl) (by kernel_rfl) (by kernel_rfl) (fun _ _ _ h => h) (Or.inl ⟨by kernel_rfl, ?_⟩) ?_
    rotate_left
    · intro w; go_simp; with_reducible rfl
    refine wpAny_take (i := 33) (v := ?_) rfl (by kernel_rfl) (by kernel_rfl) (by kernel_rfl) (fun _ _ _ h => h) (Or.inl ⟨by kernel_rfl, ?_⟩) ?_
    rotate_left
    · intro w; go_simp; with_reducible rfl
    refine wpAny_take (i := 34) (v := ?_) rfl (by kernel_rfl) (by kernel_rfl) (by kernel_rfl) (fun _ _ _ h => h) (Or.inl ⟨by kernel_rfl, ?_⟩) ?_
    rotate_left
    · intro w; go_simp; with_reducible rfl
    refine wpAny_done (by kernel_rfl) ?_ _
    simp only [Act.put, List.setIfInBounds_toArray, List.set_cons_succ, List.set_cons_zero, List.getElem_toArray, List.getElem_cons_zero, List.getElem_cons_succ]
    go_wp2
    go_ret
    exact ⟨rfl, HEND.out _ hcc⟩
  case pos =>
    subst hz
    simp only [decide_true] at HS1 HS2 HQ ⊢
    have efg := bf_one HBF.out HCF.out
    obtain ⟨hTl, hTS, hTs⟩ := HTX.out
    obtain ⟨hVl, hVS, hVs⟩ := HVX.out
    have h27 : Below w.heap.size w2 w7 := (hb3.mono (by omega)).trans ((hb4.mono (by omega)).trans ((hb5.mono (by omega)).trans (hb6.mono (by omega))))
    obtain ⟨rfl, rfl⟩ : rb = rc' ∧ kb = kc := by
      simp only [Fo.node.injEq, and_true, true_and] at efg
      exact efg
    have hforT : (Fo.node v rb kb .nil).For fun s r => In64 s ∧ symB VS TS s := Fo.for_mono (fun s r h => ⟨sym_in h.1 f2 f1, sym_b h.1 hTl hVl⟩) _ hfor1
    have hzz : w.heap.size ≤ w7.heap.size := by omega
    obtain ⟨tx, htx⟩ : ∃ tx : ByteArray, tx = ⟨(Fo.one (nmB VS TS) v kb).toArray⟩ := ⟨_, rfl⟩
    have hTx : ∀ W x, Below w7.heap.size w7 W → FoAt w7 [x] (.node v rb kb .nil) → Calls Try.prog 32 #[.pointer (some ⟨x, 0, none⟩), .agg #[.slice ta tl tc, .slice va vl vc, .slice ra R.length rc]] W fun e w' => e = .returned (.string tx) ∧ Below W.heap.size W w' := fun W x hb hx => by
      subst hTl hVl
      rw [htx]
      exact text_fo W ta va ra tc vc R.length rc VS TS v rb kb x ((hVS.below (h27.trans (hb.mono hzz))).wide (by have := hb.size; omega)) ((hTS.below (h27.trans (hb.mono hzz))).wide (by have := hb.size; omega)) hVs hTs (hx.kept hb) hforT hkz1
    have HT1 := Lib.hid (fun W hb => hTx W b hb hfb6)
    have HT2 := Lib.hid (fun W hb => hTx W c hb hfc6)
    clear hS1 hS2 hX1 hX2 hQ hEND hin1 hin2 hsz1 hsz2 hfor1 hfor2 hsv h8 hrl hfb6 hfc6 hb6 hB6 bx1 bx2 bx3 bx4 hb1 hb2 hb3 hb4 hb5 hB1 hB2 hB3 hB4 hB5 b0 hbl hTx htx hforT hTS hVS hTs hVs efg hTl hVl
    go_wp2
    refine wp_region_any (by kernel_rfl) ?_
    change wpAny _ _ _ _ _ _ _ (World.drew _)
    refine wpAny_take (i := 0) (v := ?_) rfl (by kernel_rfl) (by kernel_rfl) (by kernel_rfl) (fun _ _ _ h => h) (Or.inl ⟨by kernel_rfl, ?_⟩) ?_
    rotate_left
    · intro w; go_simp; with_reducible rfl
    refine wpAny_take (i := 1) (v := ?_) rfl (by kernel_rfl) (by kernel_rfl) (by kernel_rfl) (fun _ _ _ h => h) (Or.inl ⟨by kernel_rfl, ?_⟩) ?_
    rotate_left
    · intro w; go_simp; with_reducible rfl
    refine wpAny_take (i := 3) (v := ?_) rfl (by kernel_rfl) (by kernel_rfl) (by kernel_rfl) (fun _ _ _ h => h) (Or.inl ⟨by kernel_rfl, ?_⟩) ?_
    rotate_left
    · intro w; go_simp; with_reducible rfl
    refine wpAny_ready (rs := [2]) (by kernel_rfl) (by simp) ?_
    refine AllReady.cons rfl (fun K hK => ?_) AllReady.nil
    go_simp
    go_at_call 38
    refine (HS1.out _ hc7.drew).mono ?_
    rintro e w8 ⟨rfl, hc8⟩
    refine hK _ _ ?_
    clear hK K
    refine wpAny_take (i := 4) (v := ?_) rfl (by kernel_rfl) (by kernel_rfl) (by kernel_rfl) (fun _ _ _ h => h) (Or.inl ⟨by kernel_rfl, ?_⟩) ?_
    rotate_left
    · intro w; go_simp; with_reducible rfl
    refine wpAny_take (i := 5) (v := ?_) rfl (by kernel_rfl) (by kernel_rfl) (by kernel_rfl) (fun _ _ _ h => h) (Or.inl ⟨by kernel_rfl, ?_⟩) ?_
    rotate_left
    · intro w; go_simp; with_reducible rfl
    refine wpAny_take (i := 6) (v := ?_) rfl (by kernel_rfl) (by kernel_rfl) (by kernel_rfl) (fun _ _ _ h => h) (Or.inl ⟨by kernel_rfl, ?_⟩) ?_
    rotate_left
    · intro w; go_simp; with_reducible rfl
    refine wpAny_take (i := 7) (v := ?_) rfl (by kernel_rfl) (by kernel_rfl) (by kernel_rfl) (fun _ _ _ h => h) (Or.inl ⟨by kernel_rfl, ?_⟩) ?_
    rotate_left
    · intro w; go_simp; with_reducible rfl
    refine wpAny_take (i := 9) (v := ?_) rfl (by kernel_rfl) (by kernel_rfl) (by kernel_rfl) (fun _ _ _ h => h) (Or.inl ⟨by kernel_rfl, ?_⟩) ?_
    rotate_left
    · intro w; go_simp; with_reducible rfl
    refine wpAny_ready (rs := [8]) (by kernel_rfl) (by simp) ?_
    refine AllReady.cons rfl (fun K hK => ?_) AllReady.nil
    go_simp
    go_at_call 38
    refine (HS2.out _ hc8).mono ?_
    rintro e w9 ⟨rfl, hc9⟩
    refine hK _ _ ?_
    clear hK K
    refine wpAny_take (i := 10) (v := ?_) rfl (by kernel_rfl) (by kernel_rfl) (by kernel_rfl) (fun _ _ _ h => h) (Or.inl ⟨by kernel_rfl, ?_⟩) ?_
    rotate_left
    · intro w; go_simp; with_reducible rfl
    refine wpAny_take (i := 11) (v := ?_) rfl (by kernel_rfl) (by kernel_rfl) (by kernel_rfl) (fun _ _ _ h => h) (Or.inl ⟨by kernel_rfl, ?_⟩) ?_
    rotate_left
    · intro w; go_simp; with_reducible rfl
    refine wpAny_take (i := 12) (v := ?_) rfl (by kernel_rfl) (by kernel_rfl) (by kernel_rfl) (fun _ _ _ h => h) (Or.inl ⟨by kernel_rfl, ?_⟩) ?_
    rotate_left
    · intro w; go_simp; with_reducible rfl
    refine wpAny_take (i := 13) (v := ?_) rfl (by kernel_rfl) (by kernel_rfl) (by kernel_rfl) (fun _ _ _ h => h) (Or.inl ⟨by kernel_rfl, ?_⟩) ?_
    rotate_left
    · intro w; go_simp; with_reducible rfl
    refine wpAny_take (i := 15) (v := ?_) rfl (by kernel_rfl) (by kernel_rfl) (by kernel_rfl) (fun _ _ _ h => h) (Or.inl ⟨by kernel_rfl, ?_⟩) ?_
    rotate_left
    · intro w; go_simp; with_reducible rfl
    refine wpAny_take (i := 18) (v := ?_) rfl (by kernel_rfl) (by kernel_rfl) (by kernel_rfl) (fun _ _ _ h => h) (Or.inl ⟨by kernel_rfl, ?_⟩) ?_
    rotate_left
    · intro w; go_simp; with_reducible rfl
    refine wpAny_ready (rs := [14]) (by kernel_rfl) (by simp) ?_
    refine AllReady.cons rfl (fun K hK => ?_) AllReady.nil
    go_simp
    go_at_call 36
    refine (HX1.out _ hc9).mono ?_
    rintro e wa ⟨u1, rfl, hu1, hca0⟩
    have hca := hc9.trans (hca0.mono hc9.size)
    refine hK _ _ ?_
    clear hK K
    refine wpAny_ready (rs := [16]) (by kernel_rfl) (by simp) ?_
    refine AllReady.cons rfl (fun K hK => ?_) AllReady.nil
    go_simp
    go_at_call 36
    refine (HX2.out _ hca).mono ?_
    rintro e wb ⟨u2, rfl, hu2, hcb0⟩
    have hcb := hca.trans (hcb0.mono hca.size)
    refine hK _ _ ?_
    clear hK K
    refine wpAny_ready (rs := [17]) (by kernel_rfl) (by simp) ?_
    refine AllReady.cons rfl (fun K hK => ?_) AllReady.nil
    go_simp
    go_at_call 18
    refine (HQ.out _ _ _ (hu1.below hcb0) hu2).mono ?_
    rintro e wc ⟨rfl, hcc0⟩
    have hcc := hcb.trans (hcc0.mono hcb.size)
    have bxc := HG7.out.below hcc HG7.out.lt
    have xc0 := bxc.cell 0
    have xc1 := bxc.cell 1
    have xc2 := bxc.cell 2
    simp only [List.getElem?_toArray, List.getElem?_cons_zero, List.getElem?_cons_succ] at xc0 xc1 xc2
    refine hK _ _ ?_
    clear hK K
    refine wpAny_take (i := 19) (v := ?_) rfl (by kernel_rfl) (by kernel_rfl) (by kernel_rfl) (fun _ _ _ h => h) (Or.inl ⟨by kernel_rfl, ?_⟩) ?_
    rotate_left
    · intro w; go_simp; with_reducible rfl
    refine wpAny_take (i := 20) (v := ?_) rfl (by kernel_rfl) (by kernel_rfl) (by kernel_rfl) (fun _ _ _ h => h) (Or.inl ⟨by kernel_rfl, ?_⟩) ?_
    rotate_left
    · intro w; go_simp; with_reducible rfl
    refine wpAny_take (i := 21) (v := ?_) rfl (by kernel_rfl) (by kernel_rfl) (by kernel_rfl) (fun _ _ _ h => h) (Or.inl ⟨by kernel_rfl, ?_⟩) ?_
    rotate_left
    · intro w; go_simp; with_reducible rfl
    refine wpAny_take (i := 22) (v := ?_) rfl (by kernel_rfl) (by kernel_rfl) (by kernel_rfl) (fun _ _ _ h => h) (Or.inl ⟨by kernel_rfl, ?_⟩) ?_
    rotate_left
    · intro w; go_simp; with_reducible rfl
    refine wpAny_take (i := 23) (v := ?_) rfl (by kernel_rfl) (by kernel_rfl) (by kernel_rfl) (fun _ _ _ h => h) (Or.inl ⟨by kernel_rfl, ?_⟩) ?_
    rotate_left
    · intro w; go_simp; with_reducible rfl
    refine wpAny_take (i := 24) (v := ?_) rfl (by kernel_rfl) (by kernel_rfl) (by kernel_rfl) (fun _ _ _ h => h) (Or.inl ⟨by kernel_rfl, ?_⟩) ?_
    rotate_left
    · intro w; go_simp; with_reducible rfl
    refine wpAny_take (i := 25) (v := ?_) rfl (by kernel_rfl) (by kernel_rfl) (by kernel_rfl) (fun _ _ _ h => h) (Or.inl ⟨by kernel_rfl, ?_⟩) ?_
    rotate_left
    · intro w; go_simp; with_reducible rfl
    refine wpAny_take (i := 28) (v := ?_) rfl (by kernel_rfl) (by kernel_rfl) (by kernel_rfl) (fun _ _ _ h => h) (Or.inl ⟨by kernel_rfl, ?_⟩) ?_
    rotate_left
    · intro w; go_simp; with_reducible rfl
    refine wpAny_ready (rs := [26, 29]) (by kernel_rfl) (by simp) ?_
    refine AllReady.cons rfl (fun K hK => ?_) (AllReady.cons rfl (fun K hK => ?_) AllReady.nil)
    · go_simp
      refine hK _ _ ?_
      clear hK K
      refine wpAny_ready (rs := [27, 29]) (by kernel_rfl) (by simp) ?_
      refine AllReady.cons rfl (fun K hK => ?_) (AllReady.cons rfl (fun K hK => ?_) AllReady.nil)
      · go_simp
        go_at_call 32
        refine (HT1.out _ hcc).mono ?_
        rintro e wd ⟨rfl, hcd0⟩
        have hcd := hcc.trans (hcd0.mono hcc.size)
        have bxd := HG7.out.below hcd HG7.out.lt
        have xd0 := bxd.cell 0
        have xd1 := bxd.cell 1
        have xd2 := bxd.cell 2
        simp only [List.getElem?_toArray, List.getElem?_cons_zero, List.getElem?_cons_succ] at xd0 xd1 xd2
        refine hK _ _ ?_
        clear hK K
        refine wpAny_ready (rs := [29]) (by kernel_rfl) (by simp) ?_
        refine AllReady.cons rfl (fun K hK => ?_) AllReady.nil
        go_simp
        refine hK _ _ ?_
        clear hK K
        refine wpAny_ready (rs := [30]) (by kernel_rfl) (by simp) ?_
        refine AllReady.cons rfl (fun K hK => ?_) AllReady.nil
        go_simp
        go_at_call 32
        refine (HT2.out _ hcd).mono ?_
        rintro e we ⟨rfl, hce0⟩
        have hce := hcd.trans (hce0.mono hcd.size)
        refine hK _ _ ?_
        clear hK K
        refine wpAny_take (i := 31) (v := ?_) rfl (by kernel_rfl) (by kernel_rfl) (by kernel_rfl) (fun _ _ _ h => h) (Or.inl ⟨by kernel_rfl, ?_⟩) ?_
        rotate_left
        · intro w; go_simp; with_reducible rfl
        refine wpAny_take (i := 32) (v := ?_) rfl (by kernel_rfl) (by kernel_rfl) (by kernel_rfl) (fun _ _ _ h => h) (Or.inl ⟨by kernel_rfl, ?_⟩) ?_
        rotate_left
        · intro w; go_simp; with_reducible rfl
        refine wpAny_take (i := 33) (v := ?_) rfl (by kernel_rfl) (by kernel_rfl) (by kernel_rfl) (fun _ _ _ h => h) (Or.inl ⟨by kernel_rfl, ?_⟩) ?_
        rotate_left
        · intro w; go_simp; with_reducible rfl
        refine wpAny_take (i := 34) (v := ?_) rfl (by kernel_rfl) (by kernel_rfl) (by kernel_rfl) (fun _ _ _ h => h) (Or.inl ⟨by kernel_rfl, ?_⟩) ?_
        rotate_left
        · intro w; go_simp; with_reducible rfl
        refine wpAny_done (by kernel_rfl) ?_ _
        simp only [Act.put, List.setIfInBounds_toArray, List.set_cons_succ, List.set_cons_zero, List.getElem_toArray, List.getElem_cons_zero, List.getElem_cons_succ]
        go_wp2
        go_ret
        exact ⟨rfl, HEND.out _ hce⟩
      · go_simp
        refine hK _ _ ?_
        clear hK K
        refine wpAny_ready (rs := [27]) (by kernel_rfl) (by simp) ?_
        refine AllReady.cons rfl (fun K hK => ?_) AllReady.nil
        go_simp
        go_at_call 32
        refine (HT1.out _ hcc).mono ?_
        rintro e wd ⟨rfl, hcd0⟩
        have hcd := hcc.trans (hcd0.mono hcc.size)
        have bxd := HG7.out.below hcd HG7.out.lt
        have xd0 := bxd.cell 0
        have xd1 := bxd.cell 1
        have xd2 := bxd.cell 2
        simp only [List.getElem?_toArray, List.getElem?_cons_zero, List.getElem?_cons_succ] at xd0 xd1 xd2
        refine hK _ _ ?_
        clear hK K
        refine wpAny_ready (rs := [30]) (by kernel_rfl) (by simp) ?_
        refine AllReady.cons rfl (fun K hK => ?_) AllReady.nil
        go_simp
        go_at_call 32
        refine (HT2.out _ hcd).mono ?_
        rintro e we ⟨rfl, hce0⟩
        have hce := hcd.trans (hce0.mono hcd.size)
        refine hK _ _ ?_
        clear hK K
        refine wpAny_take (i := 31) (v := ?_) rfl (by kernel_rfl) (by kernel_rfl) (by kernel_rfl) (fun _ _ _ h => h) (Or.inl ⟨by kernel_rfl, ?_⟩) ?_
        rotate_left
        · intro w; go_simp; with_reducible rfl
        refine wpAny_take (i := 32) (v := ?_) rfl (by kernel_rfl) (by kernel_rfl) (by kernel_rfl) (fun _ _ _ h => h) (Or.inl ⟨by kernel_rfl, ?_⟩) ?_
        rotate_left
        · intro w; go_simp; with_reducible rfl
        refine wpAny_take (i := 33) (v := ?_) rfl (by kernel_rfl) (by kernel_rfl) (by kernel_rfl) (fun _ _ _ h => h) (Or.inl ⟨by kernel_rfl, ?_⟩) ?_
        rotate_left
        · intro w; go_simp; with_reducible rfl
        refine wpAny_take (i := 34) (v := ?_) rfl (by kernel_rfl) (by kernel_rfl) (by kernel_rfl) (fun _ _ _ h => h) (Or.inl ⟨by kernel_rfl, ?_⟩) ?_
        rotate_left
        · intro w; go_simp; with_reducible rfl
        refine wpAny_done (by kernel_rfl) ?_ _
        simp only [Act.put, List.setIfInBounds_toArray, List.set_cons_succ, List.set_cons_zero, List.getElem_toArray, List.getElem_cons_zero, List.getElem_cons_succ]
        go_wp2
        go_ret
        exact ⟨rfl, HEND.out _ hce⟩
    · go_simp
      refine hK _ _ ?_
      clear hK K
      refine wpAny_ready (rs := [26]) (by kernel_rfl) (by simp) ?_
      refine AllReady.cons rfl (fun K hK => ?_) AllReady.nil
      go_simp
      refine hK _ _ ?_
      clear hK K
      refine wpAny_ready (rs := [27]) (by kernel_rfl) (by simp) ?_
      refine AllReady.cons rfl (fun K hK => ?_) AllReady.nil
      go_simp
      go_at_call 32
      refine (HT1.out _ hcc).mono ?_
      rintro e wd ⟨rfl, hcd0⟩
      have hcd := hcc.trans (hcd0.mono hcc.size)
      have bxd := HG7.out.below hcd HG7.out.lt
      have xd0 := bxd.cell 0
      have xd1 := bxd.cell 1
      have xd2 := bxd.cell 2
      simp only [List.getElem?_toArray, List.getElem?_cons_zero, List.getElem?_cons_succ] at xd0 xd1 xd2
      refine hK _ _ ?_
      clear hK K
      refine wpAny_ready (rs := [30]) (by kernel_rfl) (by simp) ?_
      refine AllReady.cons rfl (fun K hK => ?_) AllReady.nil
      go_simp
      go_at_call 32
      refine (HT2.out _ hcd).mono ?_
      rintro e we ⟨rfl, hce0⟩
      have hce := hcd.trans (hce0.mono hcd.size)
      refine hK _ _ ?_
      clear hK K
      refine wpAny_take (i := 31) (v := ?_) rfl (by kernel_rfl) (by kernel_rfl) (by kernel_rfl) (fun _ _ _ h => h) (Or.inl ⟨by kernel_rfl, ?_⟩) ?_
      rotate_left
      · intro w; go_simp; with_reducible rfl
      refine wpAny_take (i := 32) (v := ?_) rfl (by kernel_rfl) (by kernel_rfl) (by kernel_rfl) (fun _ _ _ h => h) (Or.inl ⟨by kernel_rfl, ?_⟩) ?_
      rotate_left
      · intro w; go_simp; with_reducible rfl
      refine wpAny_take (i := 33) (v := ?_) rfl (by kernel_rfl) (by kernel_rfl) (by kernel_rfl) (fun _ _ _ h => h) (Or.inl ⟨by kernel_rfl, ?_⟩) ?_
      rotate_left
      · intro w; go_simp; with_reducible rfl
      refine wpAny_take (i := 34) (v := ?_) rfl (by kernel_rfl) (by kernel_rfl) (by kernel_rfl) (fun _ _ _ h => h) (Or.inl ⟨by kernel_rfl, ?_⟩) ?_
      rotate_left
      · intro w; go_simp; with_reducible rfl
      refine wpAny_done (by kernel_rfl) ?_ _
      simp only [Act.put, List.setIfInBounds_toArray, List.set_cons_succ, List.set_cons_zero, List.getElem_toArray, List.getElem_cons_zero, List.getElem_cons_succ]
      go_wp2
      go_ret
      exact ⟨rfl, HEND.out _ hce⟩
end Go.Proofs.Ytomikgkoegkofaa.dt
namespace Go.Proofs.Ytomikgkoegkofaa.dv
open Go.ChangeShapes Go.WideShapes Go.ChangeAt Go.RowKit Go.Maps Go.WideMaps Go.WideElems Go.Deep Go.Joins
set_option linter.unusedVariables false
set_option linter.unusedSimpArgs false
set_option maxRecDepth 100000 in
theorem streeSames_lifted (os : Os) (started : os.Started) (H : Type) (enc : TypeId × Value → H) :
    ReturnsInHanded {} Try.checked os 9 .any (Rows.treeSamesSpec.pre6 enc Try.prog Try.f9 Rows.treeSamesRow.domain false) (Rows.treeSamesSpec.post enc Try.prog Try.f9 false true false false) := by
  refine returnsInHanded_of_change (C := Try.checked) own started (by kernel_rfl) Try.func9
    (ChangeSpec.witness6 (enc := enc) (C := Try.checked) false ⟨#[], #[.agg #[.slice none 0 0, .slice none 0 0, .slice none 0 0], .int .i64 0, .slice none 0 0, .slice none 0 0], []⟩ 8 (by kernel_rfl) (by kernel_rfl) (by kernel_rfl) (by kernel_rfl)) ?_
  intro W base args ds gs before hval0 hW hcnd _
  have hval : ∀ (j : Nat) t v, Try.f9.params[j]? = some t → args[j]? = some v → Value.okWide Try.prog W .any base t v := hval0
  have hW' := hW
  obtain ⟨p, q, hA0, hV, rfl, hfz, hnd⟩ := hW
  have hA : DataW.TrodAll enc Try.prog W 0 (fun _ => true) true Try.f9.params.toList args.toList ds p := hA0
  rw [Try.params9] at hA hval
  obtain ⟨v0, vs0, d0, ds0, p0, q0, hargs, rfl, rfl, h0, r0⟩ := trodAll_cons hA
  obtain ⟨v1, vs1, d1, ds1, p1, q1, rfl, rfl, rfl, h1, r1⟩ := trodAll_cons r0
  obtain ⟨v2, vs2, d2, ds2, p2, q2, rfl, rfl, rfl, h2, r2⟩ := trodAll_cons r1
  obtain ⟨v3, vs3, d3, ds3, p3, q3, rfl, rfl, rfl, h3, r3⟩ := trodAll_cons r2
  obtain ⟨rfl, rfl, rfl⟩ := trodAll_nil r3
  obtain rfl : args = #[v0, v1, v2, v3] := by cases args; simp_all
  obtain ⟨rfl, rfl⟩ := trodVars_none hV
  have h0k := h0
  obtain ⟨g0, g1, g2, y0, y1, y2, n, rfl, _, _, e0, e1, e2⟩ := open_agg3 Try.underlying25 (by kernel_rfl) (by kernel_rfl) (hval 0 25 v0 rfl rfl) h0
  replace e0 : DataW.trod enc Try.prog W 0 (fun _ => true) true n 22 [g0] = some y0 := e0
  replace e1 : DataW.trod enc Try.prog W 0 (fun _ => true) true n 22 [g1] = some y1 := e1
  replace e2 : DataW.trod enc Try.prog W 0 (fun _ => true) true n 23 [g2] = some y2 := e2
  obtain ⟨ta, tl, tc, rfl, _, _, _⟩ := slice_of Try.underlying22 e0
  obtain ⟨va, vl, vc, rfl, _, _, _⟩ := slice_of Try.underlying22 e1
  obtain ⟨ra, rl, rc, rfl, hr1, hr2, _⟩ := slice_of Try.underlying23 e2
  obtain ⟨hT1, hT2⟩ := strs_of e0
  obtain ⟨hV1, hV2⟩ := strs_of e1
  obtain ⟨R, rfl, hR, hwf⟩ := rules_of e2
  obtain ⟨x1, rfl, rfl, rfl, w1⟩ := open_int Try.underlying3 (hval 1 3 v1 rfl rfl) h1
  obtain ⟨a2, len2, cap2, rfl⟩ := okWide_slice Try.underlying26 (hval 2 26 v2 rfl rfl)
  have h2k := h2
  obtain ⟨fu2, hf2⟩ := h2
  obtain ⟨L2, hL2, hF2⟩ := row_of hf2
  obtain ⟨a3, len3, cap3, rfl⟩ := okWide_slice Try.underlying26 (hval 3 26 v3 rfl rfl)
  have h3k := h3
  obtain ⟨fu3, hf3⟩ := h3
  obtain ⟨L3, hL3, hF3⟩ := row_of hf3
  clear hA0 hval0
  simp only [List.append_nil, List.nil_append] at hW'
  have hlt : ∀ x ∈ p0 ++ (p2 ++ (p3)), x.block < W.heap.size := fun x hx => by simpa using hW'.lt x (by simpa using hx)
  have hback0 : ∀ (W' : World), Below W.heap.size W W' → DataW.Trod enc Try.prog W' 0 (fun b => decide (b < W.heap.size)) true 25 (.agg #[.slice ta tl tc, .slice va vl vc, .slice ra R.length rc]) d0 p0 :=
    fun W' hn => Below.trod laidOut (by kernel_rfl) (of_decide_eq_true (by kernel_rfl)) h0k hn (fun x hx => hlt x (by simp [hx]))
  have hback2 : ∀ (W' : World), Below W.heap.size W W' → DataW.Trod enc Try.prog W' 0 (fun b => decide (b < W.heap.size)) true 26 (.slice a2 len2 cap2) d2 p2 :=
    fun W' hn => Below.trod laidOut (by kernel_rfl) (of_decide_eq_true (by kernel_rfl)) h2k hn (fun x hx => hlt x (by simp [hx]))
  have hback3 : ∀ (W' : World), Below W.heap.size W W' → DataW.Trod enc Try.prog W' 0 (fun b => decide (b < W.heap.size)) true 26 (.slice a3 len3 cap3) d3 p3 :=
    fun W' hn => Below.trod laidOut (by kernel_rfl) (of_decide_eq_true (by kernel_rfl)) h3k hn (fun x hx => hlt x (by simp [hx]))
  have hT : ∀ (W' : World), Below W.heap.size W W' → DataW.TrodAll enc Try.prog W' 0 (fun b => decide (b < W.heap.size)) true [25, 3, 26, 26] [.agg #[.slice ta tl tc, .slice va vl vc, .slice ra R.length rc], .int .i64 x1, .slice a2 len2 cap2, .slice a3 len3 cap3] [d0, .lit (.int .i64 x1), d2, d3] (p0 ++ (p2 ++ (p3))) := fun W' hn => by
    have h4 := (trodAll_cons_mk (hback0 _ hn) (trodAll_cons_mk (shut_int (H := H) (enc := enc) (P := Try.prog) (w := W') (base := 0) (spare := fun b => decide (b < W.heap.size)) (held := true) Try.underlying3 w1) (trodAll_cons_mk (hback2 _ hn) (trodAll_mk1 (hback3 _ hn)))))
    simpa using h4
  subst hL2
  subst hL3
  refine (dt.tsames_any W ta va ra tl tc vl vc rc _ _ x1 R L2 L3 hR hT1 hV1 (by omega) hT2 hV2 hF2 hF3).mono fun e W' ⟨he, hb⟩ => ?_
  subst he
  exact ⟨_, rfl, _, _, _, [], p0 ++ (p2 ++ (p3)), [], hW', trodAll_mk1 (shut_bool Try.underlying4 _), hT W' hb, rfl, hb.frame _, fun h => by cases h⟩
theorem streeSames_said : Rows.TreeSamesSaid :=
  OpenClaim.holds_of_wide 9 Try.f9 rfl rfl rfl rfl rfl rfl rfl ⟨rfl, rfl, rfl, rfl, rfl⟩ rfl rfl rfl rfl rfl (by kernel_rfl) Try.func9 (by kernel_rfl)
    (of_decide_eq_true (by kernel_rfl)) (by unfold Func.isWrapper; first | (rw [if_pos (by decide +kernel)]; kernel_rfl) | (rw [if_neg (by decide +kernel)]; exact ⟨rfl, rfl⟩))
    (fun os started H enc _ => streeSames_lifted os started H enc)
end Go.Proofs.Ytomikgkoegkofaa.dv
namespace Go.Proofs.Ytomikgkoegkofaa
theorem treeSames_holds : Rows.TreeSamesSaid := dv.streeSames_said
end Go.Proofs.Ytomikgkoegkofaa
