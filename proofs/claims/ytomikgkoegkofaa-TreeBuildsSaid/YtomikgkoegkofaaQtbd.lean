/- For any grammar, any variable and any list of choices the law TreeBuilds returns true, and what it was handed reads afterwards as it did; no condition. -/
import Derived.Test.YtomikgkoegkofaaJd
import Derived.Test.YtomikgkoegkofaaJc
import Derived.Test.YtomikgkoegkofaaDwg
namespace Go.Proofs.Ytomikgkoegkofaa.dt
open Go.ChangeShapes Go.WideShapes Go.ChangeAt Go.RowKit Go.Maps Go.WideMaps Go.WideElems Go.Shelf Go.Proofs.Ytomikgkoegkofaa.dv
set_option linter.unusedVariables false
set_option linter.unusedSimpArgs false
/-! TreeBuilds -/
theorem rules_wide {B B' : Nat} {w : World} {v : Value} {R : List Rl} (h : RulesAt B w v R) (hb : B ≤ B') : RulesAt B' w v R := by
  obtain ⟨ao, cap, e, hm, hr⟩ := h
  refine ⟨ao, cap, e, hm, fun k r hk => ?_⟩
  obtain ⟨a, e1, hab, ao2, cap2, g1, g2, g3, g4, g5, g6, g7, g8⟩ := hr k r hk
  refine ⟨a, e1, by omega, ao2, cap2, g1, g2, g3, g4, g5, g6, fun j hj => ?_, g8⟩
  obtain ⟨a2, e2, h2, hc⟩ := g7 j hj
  exact ⟨a2, e2, by omega, hc⟩
set_option maxRecDepth 100000 in
set_option maxHeartbeats 4000000 in
theorem tbuilds_any (w : World) (ta va ra : Option Addr) (tl tc vl vc rc : Nat) (av : Value) (v : Int) (R : List Rl) (A : List Int) (hR : RulesAt w.heap.size w (.slice ra R.length rc) R) (hT : StrsAt w.heap.size w ta tl) (hV : StrsAt w.heap.size w va vl) (hn : R.length ≤ maxLen) (ht : tl ≤ maxLen) (hv : vl ≤ maxLen) (hA : RowAt w av A) :
    Calls Try.prog 8 #[.agg #[.slice ta tl tc, .slice va vl vc, .slice ra R.length rc], .int .i64 v, av] w fun e w' => e = .returned (.bool true) ∧ Below w.heap.size w w' := by
  have b0 := Blk.new w 25 #[.slice ta tl tc, .slice va vl vc, .slice ra R.length rc]
  have hbl : Below w.heap.size w (w.alloc (.cells #[.slice ta tl tc, .slice va vl vc, .slice ra R.length rc] 25)) := below_lit _ _ _
  have hR1 := hR.below hbl
  have hT1 := hT.below hbl
  have hV1 := hV.below hbl
  have hA1 := hA.below hbl
  generalize hW0 : w.alloc (.cells #[.slice ta tl tc, .slice va vl vc, .slice ra R.length rc] 25) = w0 at *
  have hz0 : w0.heap.size = w.heap.size + 1 := by rw [← hW0]; simp
  have HR := Lib.hid hR1
  have HT := Lib.hid hT1
  have HV := Lib.hid hV1
  have HA := Lib.hid hA1
  obtain ⟨ao, ac, rfl, hac, ham, _⟩ := hA
  have ham' : ac ≤ 9223372036854775807 := by unfold maxLen at ham; omega
  clear hR hT hV hR1 hT1 hV1 hA1
  go_enter Try.func8, Try.ntmps8
  go_wp2_with fail
  refine (talive_any w0).mono ?_
  rintro e w1 ⟨rfl, hb1⟩
  have hB1 : Below (w.heap.size + 1) w0 w1 := hb1.mono (by omega)
  have hz1 := hB1.size
  have bx1 := b0.below hB1 (by omega)
  have p0 := bx1.cell 0
  have p1 := bx1.cell 1
  have p2 := bx1.cell 2
  simp only [List.getElem?_toArray, List.getElem?_cons_zero, List.getElem?_cons_succ] at p0 p1 p2
  go_wp2_with fail
  refine (few_any w1 w.heap.size ta va ra tl tc vl vc rc R (HR.out.below (hB1.mono (by omega))) (by omega) hn ht hv).mono ?_
  rintro e w2 ⟨b, rfl, hfew, hb2⟩
  have hB2 : Below (w.heap.size + 1) w0 w2 := hB1.trans (hb2.mono (by omega))
  cases b
  · clear hfew
    go_wp2
    go_ret
    exact ⟨rfl, hbl.trans (hB2.mono (by omega))⟩
  obtain ⟨f1, f2, f3, h8⟩ := hfew rfl
  have H8 := Lib.hid h8
  clear hfew h8
  have hz2 := hB2.size
  have bx2 := b0.below hB2 (by omega)
  have q0 := bx2.cell 0
  have q1 := bx2.cell 1
  have q2 := bx2.cell 2
  simp only [List.getElem?_toArray, List.getElem?_cons_zero, List.getElem?_cons_succ] at q0 q1 q2
  by_cases g1 : A.length ≤ 60
  case neg =>
    go_wp2
    go_ret
    exact ⟨rfl, hbl.trans (hB2.mono (by omega))⟩
  go_wp2_with fail
  refine (right_full w2 w.heap.size ta va ra tl tc vl vc rc R (HR.out.below (hB2.mono (by omega))) (HT.out.below (hB2.mono (by omega))) (HV.out.below (hB2.mono (by omega))) (by omega) f3 f2 f1 H8.out).mono ?_
  rintro e w3 ⟨b, rfl, hri, hb3⟩
  have hB3 : Below (w.heap.size + 1) w0 w3 := hB2.trans (hb3.mono (by omega))
  have hz3 := hB3.size
  have bx3 := b0.below hB3 (by omega)
  have r0 := bx3.cell 0
  have r1 := bx3.cell 1
  have r2 := bx3.cell 2
  simp only [List.getElem?_toArray, List.getElem?_cons_zero, List.getElem?_cons_succ] at r0 r1 r2
  cases b
  · go_wp2
    go_ret
    exact ⟨rfl, hbl.trans (hB3.mono (by omega))⟩
  by_cases hv0 : 0 ≤ v
  case neg =>
    go_wp2
    go_ret
    exact ⟨rfl, hbl.trans (hB3.mono (by omega))⟩
  by_cases hvl : v < (vl : Int)
  case neg =>
    go_wp2
    go_ret
    exact ⟨rfl, hbl.trans (hB3.mono (by omega))⟩
  have HRI := Lib.hid (hri rfl)
  obtain ⟨TS, hTl, hTS, hTs⟩ := txt_of (cap := tc) (HT.out.below (hB2.mono (by omega))) ht HRI.out.2.2
  obtain ⟨VS, hVl, hVS, hVs⟩ := txt_of (cap := vc) (HV.out.below (hB2.mono (by omega))) hv HRI.out.2.1
  have HTX := Lib.hid (And.intro hTl (And.intro hTS hTs))
  have HVX := Lib.hid (And.intro hVl (And.intro hVS hVs))
  clear hTl hTS hTs hVl hVS hVs
  clear hri p0 p1 p2 q0 q1 q2
  have hv64 : In64 v := by unfold In64; omega
  have ho1 := of_any w3 w.heap.size ta va tl tc vl vc (.slice ra R.length rc) (.slice ao A.length ac) R v A (HR.out.below (hB3.mono (by omega))) (by omega) hv64 (HA.out.below (by rw [hz0]; exact hB3)) (by omega) H8.out
  go_wp2_with fail
  refine ho1.mono ?_
  intro e w4 hof1
  obtain ⟨px, ex, rfl, hex, hx0, hx1, hb4⟩ := of_out hof1
  have hB4 : Below (w.heap.size + 1) w0 w4 := hB3.trans (hb4.mono (by omega))
  have hz4 := hB4.size
  have bx4 := b0.below hB4 (by omega)
  have s0 := bx4.cell 0
  have s1 := bx4.cell 1
  have s2 := bx4.cell 2
  simp only [List.getElem?_toArray, List.getElem?_cons_zero, List.getElem?_cons_succ] at s0 s1 s2
  have hry := ryield_any (w4.alloc (.cells #[.int .i64 v] 3)) w.heap.size ta va tl tc vl vc (.slice ra R.length rc) (.slice (some ⟨w4.heap.size, 0, none⟩) 1 1) (.slice ao A.length ac) R [v] A ((HR.out.below (hB4.mono (by omega))).below ((below_lit w4 _ _).mono (by omega))) (by rw [World.size_alloc]; omega) (lit_row w4 [v] 1 _ rfl rfl (fun n hn => by simp at hn; subst hn; exact hv64) (by decide)) ((HA.out.below (by rw [hz0]; exact hB4)).below (below_lit _ _ _)) (by omega) (by simp; omega) H8.out
  have HX0 := Lib.hid hx0
  have HX1 := Lib.hid hx1
  have HEX := Lib.hid hex
  unfold YieldR at hry
  rw [← hex] at hry
  clear hof1 ho1 hex hx0 hx1 r0 r1 r2
  go_wp2_with fail
  refine hry.mono ?_
  rintro e w5 ⟨u5, rfl, hu1, hu2, hb5'⟩
  have hb5 : Below w4.heap.size w4 w5 := (below_lit w4 _ _).trans (hb5'.mono (by simp))
  have hB5 : Below (w.heap.size + 1) w0 w5 := hB4.trans (hb5.mono (by omega))
  have hz5 := hB5.size
  by_cases he1 : ex = 0
  case neg =>
    have c1 : (ex != 0) = true := by simpa using he1
    have c2 : (ex != ex) = false := by simp
    obtain rfl := HX0.out he1
    clear hry hu1 hu2
    go_wp2
    go_ret
    exact ⟨rfl, hbl.trans (hB5.mono (by omega))⟩
  subst he1
  obtain ⟨b, rb, k, rfl, hfb, hbf⟩ := HX1.out rfl
  obtain ⟨_, _, nv, kbs, _, _, e1, n1, n2, n3, _⟩ := hfb.first
  cases e1
  have hown5 := hu1 rfl
  have hyw : (yieldW R [v] A).1 = (Fo.node v rb k .nil).word := by
    have h1 := yield_ok hbf
    have h2 := HEX.out.symm
    rw [h1]
    unfold yieldW at h2 ⊢
    by_cases g1 : (replW R [v] A 0).2.2 = 0
    · rw [if_pos g1] at h2 ⊢
      by_cases g2 : restW (replW R [v] A 0).1 = []
      · rw [if_pos g2]
      · rw [if_neg g2] at h2
        exact absurd h2 (by decide)
    · rw [if_neg g1] at h2
      exact absurd h2 g1
  rw [hyw] at hown5
  have hrl := HRI.out.1.2
  have h8 := H8.out
  have hsv : ∀ s ∈ [v], SymOk tl vl s := fun s hs => by
    obtain rfl : s = v := by simpa using hs
    exact ⟨hvl, by omega⟩
  have hfor1 := bf_for hbf hrl f3 hsv
  have hin := Fo.for_mono (q := fun s r => In64 s ∧ In64 r) (fun s r h => ⟨sym_in h.1 f2 f1, h.2⟩) _ hfor1
  have hall := bf_all hbf hrl hsv
  have hsz := bf_size hbf h8
  simp only [List.length_cons, List.length_nil, Fo.size] at hsz
  have hks600 : k.size ≤ 545 := by omega
  obtain ⟨hTl, hTS, hTs⟩ := HTX.out
  obtain ⟨hVl, hVS, hVs⟩ := HVX.out
  have hforT : (Fo.node v rb k .nil).For fun s r => In64 s ∧ symB VS TS s := Fo.for_mono (fun s r h => ⟨sym_in h.1 f2 f1, sym_b h.1 hTl hVl⟩) _ hfor1
  have h25 : Below w.heap.size w2 w5 := (hb3.mono (by omega)).trans ((hb4.mono (by omega)).trans (hb5.mono (by omega)))
  have hfb5 := hfb.kept hb5
  have hTx : ∀ W, Below w5.heap.size w5 W → Calls Try.prog 32 #[.pointer (some ⟨b, 0, none⟩), .agg #[.slice ta tl tc, .slice va vl vc, .slice ra R.length rc]] W fun e w' => e = .returned (.string ⟨(Fo.one (nmB VS TS) v k).toArray⟩) ∧ Below W.heap.size W w' := fun W hb => by
    subst hTl hVl
    exact text_fo W ta va ra tc vc R.length rc VS TS v rb k b ((hVS.below (h25.trans (hb.mono (by omega)))).wide (by have := hb.size; omega)) ((hTS.below (h25.trans (hb.mono (by omega)))).wide (by have := hb.size; omega)) hVs hTs (hfb5.kept hb) hforT (by omega)
  have hRT : ∀ W, Below w5.heap.size w5 W → Calls Try.prog 30 #[.agg #[.slice ta tl tc, .slice va vl vc, .slice ra R.length rc], .int .i64 v, .slice ao A.length ac] W (RTxt (nmB VS TS) v k A.length W) := fun W hb => by
    subst hTl hVl
    have hBW := hB5.trans (hb.mono (by omega))
    exact rtext_tree W ta va ra tc vc rc VS TS R ((hVS.below (h25.trans (hb.mono (by omega)))).wide (by have := hb.size; omega)) ((hTS.below (h25.trans (hb.mono (by omega)))).wide (by have := hb.size; omega)) hVs hTs (rules_wide (HR.out.below (hBW.mono (by omega))) (by have := hb.size; omega)) (k.size + 1) v rb k A [] A ao ac W (Nat.lt_succ_self _) (by simp) hbf hforT (by omega) (by omega) (Below.refl _ _) (HA.out.below (by rw [hz0]; exact hBW))
  have hRM : ∀ W, Below w5.heap.size w5 W → Calls Try.prog 31 #[.agg #[.slice ta tl tc, .slice va vl vc, .slice ra R.length rc], .int .i64 v, .slice ao A.length ac] W (RMsr k A.length W) := fun W hb => by
    have hBW := hB5.trans (hb.mono (by omega))
    exact rmeasure_tree W ta va ra tl tc vl vc rc R (rules_wide (HR.out.below (hBW.mono (by omega))) (by have := hb.size; omega)) (k.size + 1) v rb k A [] A ao ac W (Nat.lt_succ_self _) (by simp) hbf (by omega) (by omega) (Below.refl _ _) (HA.out.below (by rw [hz0]; exact hBW))
  have hGC : ∀ W, Below w5.heap.size w5 W → Blk W w.heap.size 25 #[.slice ta tl tc, .slice va vl vc, .slice ra R.length rc] := fun W hb => b0.below (hB5.trans (hb.mono (by omega))) (by omega)
  have hSz : ∀ W, Below w5.heap.size w5 W → Calls Try.prog 33 #[.pointer (some ⟨b, 0, none⟩)] W fun e w' => e = .returned (.int .i64 ((k.size : Int) + 1)) ∧ Below W.heap.size W w' := fun W hb => (size_fo W b _ (hfb5.kept hb) (by simp only [Fo.size]; omega)).mono (fun e w' h => ⟨h.1.trans (by simp [Fo.size]), h.2⟩)
  have hHt : ∀ W, Below w5.heap.size w5 W → Calls Try.prog 34 #[.pointer (some ⟨b, 0, none⟩)] W fun e w' => e = .returned (.int .i64 ((k.high : Int) + 1)) ∧ Below W.heap.size W w' := fun W hb => (height_fo W b _ (hfb5.kept hb) (by simp only [Fo.size]; omega)).mono (fun e w' h => ⟨h.1.trans (by simp [Fo.high]), h.2⟩)
  have hwi := Fo.word_in _ hin
  have hri' := Fo.rules_in _ hin
  rw [bf_rules hbf] at hri'
  have hwz := Fo.word_le (Fo.node v rb k .nil)
  simp only [Fo.size] at hwz
  have hYd : ∀ W, Below w5.heap.size w5 W → Calls Try.prog 35 #[.pointer (some ⟨b, 0, none⟩)] W fun e w' => ∃ u, e = .returned u ∧ WordAt w' u (Fo.node v rb k .nil).word ∧ Below W.heap.size W w' := fun W hb => (yield_fo W b _ (hfb5.kept hb) (by simp only [Fo.size]; omega) hin).mono (fun e w' h => by
    obtain ⟨⟨u, h1, h2⟩, h3⟩ := h
    exact ⟨u, h1, word_own h2 rfl hwi, h3⟩)
  have hRu : ∀ W, Below w5.heap.size w5 W → Calls Try.prog 36 #[.pointer (some ⟨b, 0, none⟩)] W fun e w' => ∃ u, e = .returned u ∧ WordAt w' u A ∧ Below W.heap.size W w' := fun W hb => (rules_fo W b _ (hfb5.kept hb) (by simp only [Fo.size]; omega) hin).mono (fun e w' h => by
    obtain ⟨⟨u, h1, h2⟩, h3⟩ := h
    rw [bf_rules hbf] at h2
    exact ⟨u, h1, word_own h2 rfl hri', h3⟩)
  have hVd : ∀ W, Below w5.heap.size w5 W → Calls Try.prog 37 #[.pointer (some ⟨b, 0, none⟩), .agg #[.slice ta tl tc, .slice va vl vc, .slice ra R.length rc]] W fun e w' => e = .returned (.bool true) ∧ Below W.heap.size W w' := fun W hb => by
    have hBW := hB5.trans (hb.mono (by omega))
    have := valid_fo W w.heap.size b _ ta va ra tl tc vl vc rc R (hfb5.kept hb) (by simp only [Fo.size]; omega) hin (HR.out.below (hBW.mono (by omega))) (by have := hBW.size; omega) ht
    rwa [hall] at this
  have hWA : ∀ W, Below w5.heap.size w5 W → WordAt W (.slice ao A.length ac) A := fun W hb => ((HA.out.below (by rw [hz0]; exact hB5)).below hb).word
  have hW5 : ∀ W, Below w5.heap.size w5 W → WordAt W u5 (Fo.node v rb k .nil).word := fun W hb => (word_own hown5 rfl hwi).below hb
  have hNd : ∀ W, Below w5.heap.size w5 W → W.cell? ⟨b, 0, none⟩ = some (.int .i64 v) := fun W hb => ((n1.below hb5 n1.lt).below hb (n1.below hb5 n1.lt).lt).cell 0
  have HTx := Lib.hid hTx
  have HRT := Lib.hid hRT
  have HRM := Lib.hid hRM
  have HGC := Lib.hid hGC
  have HSz := Lib.hid hSz
  have HHt := Lib.hid hHt
  have HYd := Lib.hid hYd
  have HRu := Lib.hid hRu
  have HVd := Lib.hid hVd
  have HWA := Lib.hid hWA
  have HW5 := Lib.hid hW5
  have HNd := Lib.hid hNd
  have HEND := Lib.hid (fun W (hb : Below w5.heap.size w5 W) => hbl.trans ((hB5.trans (hb.mono (by omega))).mono (by omega)))
  obtain ⟨uo5, uc5, rfl⟩ := own_len hown5
  have c1 : ((0 : Int) != 0) = false := rfl
  have bx5 := HGC.out w5 (Below.refl _ _)
  have x50 := bx5.cell 0
  have x51 := bx5.cell 1
  have x52 := bx5.cell 2
  simp only [List.getElem?_toArray, List.getElem?_cons_zero, List.getElem?_cons_succ] at x50 x51 x52
  clear hTx hRT hRM hGC hSz hHt hYd hRu hVd hWA hW5 hNd hown5 hu1 hu2 hry hyw hrl h8 hsv hfor1 hin hall hsz hTl hTS hTs hVl hVS hVs hforT h25 hfb5 hfb hbf n1 n2 n3 HX0 HX1 hwi hri' bx1 bx2 bx3 bx4 s0 s1 s2 hb1 hb2 hb3 hb4 hb5 hb5' hB1 hB2 hB3 hB4 hB5 b0 hbl HEX
  generalize (Fo.node v rb k .nil).word = wd at *
  have hc5 : Below w5.heap.size w5 w5 := Below.refl _ _
  go_wp2_with fail
  refine (HRT.out w5 hc5).mono ?_
  rintro e w6 ⟨⟨o6, rfl, ho6⟩, hb6⟩
  have hc6 := hc5.trans (hb6.mono hc5.size)
  have bx6 := HGC.out w6 hc6
  have x60 := bx6.cell 0
  have x61 := bx6.cell 1
  have x62 := bx6.cell 2
  simp only [List.getElem?_toArray, List.getElem?_cons_zero, List.getElem?_cons_succ] at x60 x61 x62
  go_wp2_with fail
  refine (HRM.out w6 hc6).mono ?_
  rintro e w7 ⟨rfl, hb7⟩
  have hc7 := hc6.trans (hb7.mono hc6.size)
  have bx7 := HGC.out w7 hc7
  have x70 := bx7.cell 0
  have x71 := bx7.cell 1
  have x72 := bx7.cell 2
  simp only [List.getElem?_toArray, List.getElem?_cons_zero, List.getElem?_cons_succ] at x70 x71 x72
  go_wp2_with fail
  refine (HTx.out w7 hc7).mono ?_
  rintro e w8 ⟨rfl, hb8⟩
  have hc8 := hc7.trans (hb8.mono hc7.size)
  have hoo : (⟨(Fo.one (nmB VS TS) v k).toArray⟩ : ByteArray) = o6 := by
    rw [← ho6]
  rw [hoo]
  clear hoo ho6 hb6 hb7 hb8 x50 x51 x52 x60 x61 x62 x70 x71 x72
  go_wp2_with fail
  refine (HSz.out w8 hc8).mono ?_
  rintro e w9 ⟨rfl, hb9⟩
  have hc9 := hc8.trans (hb9.mono hc8.size)
  clear hb9
  go_wp2_with fail
  refine (HHt.out w9 hc9).mono ?_
  rintro e wa ⟨rfl, hba⟩
  have hca := hc9.trans (hba.mono hc9.size)
  clear hba
  go_wp2_with fail
  refine (HYd.out wa hca).mono ?_
  rintro e wb ⟨ub, rfl, hub, hbb⟩
  have hcb := hca.trans (hbb.mono hca.size)
  have hs1 := rsame_any wb ub (.slice uo5 wd.length uc5) wd wd hub (HW5.out wb hcb) (by omega) (by omega)
  rw [decide_eq_true rfl] at hs1
  clear hbb
  go_wp2_with fail
  refine hs1.mono ?_
  rintro e wc ⟨rfl, nc, rfl⟩
  have hcc : Below w5.heap.size w5 (wb.drewN nc) := below_drewN hcb nc
  clear hs1 hub
  generalize wb.drewN nc = wc at *
  go_wp2_with fail
  refine (HRu.out wc hcc).mono ?_
  rintro e wd' ⟨ud, rfl, hud, hbd⟩
  have hcd := hcc.trans (hbd.mono hcc.size)
  have hs2 := rsame_any wd' ud (.slice ao A.length ac) A A hud (HWA.out wd' hcd) (by omega) (by omega)
  rw [decide_eq_true rfl] at hs2
  clear hbd
  go_wp2_with fail
  refine hs2.mono ?_
  rintro e we ⟨rfl, ne, rfl⟩
  have hce : Below w5.heap.size w5 (wd'.drewN ne) := below_drewN hcd ne
  clear hs2 hud
  generalize wd'.drewN ne = we at *
  have bxe := HGC.out we hce
  have xe0 := bxe.cell 0
  have xe1 := bxe.cell 1
  have xe2 := bxe.cell 2
  simp only [List.getElem?_toArray, List.getElem?_cons_zero, List.getElem?_cons_succ] at xe0 xe1 xe2
  go_wp2_with fail
  refine (HVd.out we hce).mono ?_
  rintro e wf ⟨rfl, hbf'⟩
  have hcf := hce.trans (hbf'.mono hce.size)
  have hnd := HNd.out wf hcf
  clear hbf'
  go_wp2
  go_ret
  exact ⟨rfl, HEND.out wf hcf⟩
end Go.Proofs.Ytomikgkoegkofaa.dt
namespace Go.Proofs.Ytomikgkoegkofaa.dv
open Go.ChangeShapes Go.WideShapes Go.ChangeAt Go.RowKit Go.Maps Go.WideMaps Go.WideElems Go.Deep Go.Joins
set_option linter.unusedVariables false
set_option linter.unusedSimpArgs false
set_option maxRecDepth 100000 in
theorem streeBuilds_lifted (os : Os) (started : os.Started) (H : Type) (enc : TypeId × Value → H) :
    ReturnsInHanded {} Try.checked os 8 .any (Rows.treeBuildsSpec.pre6 enc Try.prog Try.f8 Rows.treeBuildsRow.domain false) (Rows.treeBuildsSpec.post enc Try.prog Try.f8 false true false false) := by
  refine returnsInHanded_of_change (C := Try.checked) own started (by kernel_rfl) Try.func8
    (ChangeSpec.witness6 (enc := enc) (C := Try.checked) false ⟨#[], #[.agg #[.slice none 0 0, .slice none 0 0, .slice none 0 0], .int .i64 0, .slice none 0 0], []⟩ 8 (by kernel_rfl) (by kernel_rfl) (by kernel_rfl) (by kernel_rfl)) ?_
  intro W base args ds gs before hval0 hW hcnd _
  have hval : ∀ (j : Nat) t v, Try.f8.params[j]? = some t → args[j]? = some v → Value.okWide Try.prog W .any base t v := hval0
  have hW' := hW
  obtain ⟨p, q, hA0, hV, rfl, hfz, hnd⟩ := hW
  have hA : DataW.TrodAll enc Try.prog W 0 (fun _ => true) true Try.f8.params.toList args.toList ds p := hA0
  rw [Try.params8] at hA hval
  obtain ⟨v0, vs0, d0, ds0, p0, q0, hargs, rfl, rfl, h0, r0⟩ := trodAll_cons hA
  obtain ⟨v1, vs1, d1, ds1, p1, q1, rfl, rfl, rfl, h1, r1⟩ := trodAll_cons r0
  obtain ⟨v2, vs2, d2, ds2, p2, q2, rfl, rfl, rfl, h2, r2⟩ := trodAll_cons r1
  obtain ⟨rfl, rfl, rfl⟩ := trodAll_nil r2
  obtain rfl : args = #[v0, v1, v2] := by cases args; simp_all
  obtain ⟨rfl, rfl⟩ := trodVars_none hV
  have h0k := h0
  obtain ⟨g0, g1, g2, y0, y1, y2, n, rfl, _, _, e0, e1, e2⟩ := open_agg3 Try.underlying25 (by kernel_rfl) (by kernel_rfl) (hval 0 25 v0 rfl rfl) h0
  replace e0 : DataW.trod enc Try.prog W 0 (fun _ => true) true n 22 [g0] = some y0 := e0
  replace e1 : DataW.trod enc Try.prog W 0 (fun _ => true) true n 22 [g1] = some y1 := e1
  replace e2 : DataW.trod enc Try.prog W 0 (fun _ => true) true n 23 [g2] = some y2 := e2
  obtain ⟨ta, tl, tc, rfl, _, _, _⟩ := slice_of Try.underlying22 e0
  obtain ⟨va, vl, vc, rfl, _, _, _⟩ := slice_of Try.underlying22 e1
  obtain ⟨ra, rl, rc, rfl, hr1, hr2, _⟩ := slice_of Try.underlying23 e2
  obtain ⟨hT1, hT2⟩ := strs_of e0
  obtain ⟨hV1, hV2⟩ := strs_of e1
  obtain ⟨R, rfl, hR, hwf⟩ := rules_of e2
  obtain ⟨x1, rfl, rfl, rfl, w1⟩ := open_int Try.underlying3 (hval 1 3 v1 rfl rfl) h1
  obtain ⟨a2, len2, cap2, rfl⟩ := okWide_slice Try.underlying26 (hval 2 26 v2 rfl rfl)
  have h2k := h2
  obtain ⟨fu2, hf2⟩ := h2
  obtain ⟨L2, hL2, hF2⟩ := row_of hf2
  clear hA0 hval0
  simp only [List.append_nil, List.nil_append] at hW'
  have hlt : ∀ x ∈ p0 ++ (p2), x.block < W.heap.size := fun x hx => by simpa using hW'.lt x (by simpa using hx)
  have hback0 : ∀ (W' : World), Below W.heap.size W W' → DataW.Trod enc Try.prog W' 0 (fun b => decide (b < W.heap.size)) true 25 (.agg #[.slice ta tl tc, .slice va vl vc, .slice ra R.length rc]) d0 p0 :=
    fun W' hn => Below.trod laidOut (by kernel_rfl) (of_decide_eq_true (by kernel_rfl)) h0k hn (fun x hx => hlt x (by simp [hx]))
  have hback2 : ∀ (W' : World), Below W.heap.size W W' → DataW.Trod enc Try.prog W' 0 (fun b => decide (b < W.heap.size)) true 26 (.slice a2 len2 cap2) d2 p2 :=
    fun W' hn => Below.trod laidOut (by kernel_rfl) (of_decide_eq_true (by kernel_rfl)) h2k hn (fun x hx => hlt x (by simp [hx]))
  have hT : ∀ (W' : World), Below W.heap.size W W' → DataW.TrodAll enc Try.prog W' 0 (fun b => decide (b < W.heap.size)) true [25, 3, 26] [.agg #[.slice ta tl tc, .slice va vl vc, .slice ra R.length rc], .int .i64 x1, .slice a2 len2 cap2] [d0, .lit (.int .i64 x1), d2] (p0 ++ (p2)) := fun W' hn => by
    have h4 := (trodAll_cons_mk (hback0 _ hn) (trodAll_cons_mk (shut_int (H := H) (enc := enc) (P := Try.prog) (w := W') (base := 0) (spare := fun b => decide (b < W.heap.size)) (held := true) Try.underlying3 w1) (trodAll_mk1 (hback2 _ hn))))
    simpa using h4
  subst hL2
  refine (dt.tbuilds_any W ta va ra tl tc vl vc rc _ x1 R L2 hR hT1 hV1 (by omega) hT2 hV2 hF2).mono fun e W' ⟨he, hb⟩ => ?_
  subst he
  exact ⟨_, rfl, _, _, _, [], p0 ++ (p2), [], hW', trodAll_mk1 (shut_bool Try.underlying4 _), hT W' hb, rfl, hb.frame _, fun h => by cases h⟩
theorem streeBuilds_said : Rows.TreeBuildsSaid :=
  OpenClaim.holds_of_wide 8 Try.f8 rfl rfl rfl rfl rfl rfl rfl ⟨rfl, rfl, rfl, rfl, rfl⟩ rfl rfl rfl rfl rfl (by kernel_rfl) Try.func8 (by kernel_rfl)
    (of_decide_eq_true (by kernel_rfl)) (by unfold Func.isWrapper; first | (rw [if_pos (by decide +kernel)]; kernel_rfl) | (rw [if_neg (by decide +kernel)]; exact ⟨rfl, rfl⟩))
    (fun os started H enc _ => streeBuilds_lifted os started H enc)
end Go.Proofs.Ytomikgkoegkofaa.dv
namespace Go.Proofs.Ytomikgkoegkofaa
theorem treeBuilds_holds : Rows.TreeBuildsSaid := dv.streeBuilds_said
end Go.Proofs.Ytomikgkoegkofaa
