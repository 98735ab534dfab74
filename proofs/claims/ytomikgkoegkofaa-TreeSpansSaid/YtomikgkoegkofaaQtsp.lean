/- For any grammar, any variable and any list of choices the law TreeSpans returns true, and what it was handed reads afterwards as it did; no condition. -/
import Derived.Test.YtomikgkoegkofaaJc
namespace Go.Proofs.Ytomikgkoegkofaa.dt
open Go.ChangeShapes Go.WideShapes Go.ChangeAt Go.RowKit Go.Maps Go.WideMaps Go.WideElems Go.Shelf Go.Proofs.Ytomikgkoegkofaa.dv
set_option linter.unusedVariables false
set_option linter.unusedSimpArgs false
/-! TreeSpans -/
set_option maxRecDepth 100000 in
set_option maxHeartbeats 8000000 in
theorem tspans_any (w : World) (ta va ra : Option Addr) (tl tc vl vc rc : Nat) (av : Value) (v : Int) (R : List Rl) (A : List Int) (hR : RulesAt w.heap.size w (.slice ra R.length rc) R) (hT : StrsAt w.heap.size w ta tl) (hV : StrsAt w.heap.size w va vl) (hn : R.length ≤ maxLen) (ht : tl ≤ maxLen) (hv : vl ≤ maxLen) (hA : RowAt w av A) :
    Calls Try.prog 11 #[.agg #[.slice ta tl tc, .slice va vl vc, .slice ra R.length rc], .int .i64 v, av] w fun e w' => e = .returned (.bool true) ∧ Below w.heap.size w w' := by
  have b0 := Blk.new w 25 #[.slice ta tl tc, .slice va vl vc, .slice ra R.length rc]
  have hbl : Below w.heap.size w (w.alloc (.cells #[.slice ta tl tc, .slice va vl vc, .slice ra R.length rc] 25)) := below_lit _ _ _
  have hR1 := hR.below hbl
  have hT1 := hT.below hbl
  have hV1 := hV.below hbl
  have hA1 := hA.below hbl
  generalize hW0 : w.alloc (.cells #[.slice ta tl tc, .slice va vl vc, .slice ra R.length rc] 25) = w0 at *
  have hz0 : w0.heap.size = w.heap.size + 1 := by rw [← hW0]; simp
  have HR := Lib.hid hR1
  have HT := Lib.hid hT1
  have HV := Lib.hid hV1
  have HA := Lib.hid hA1
  obtain ⟨ao, ac, rfl, hac, ham, _⟩ := hA
  have ham' : ac ≤ 9223372036854775807 := by unfold maxLen at ham; omega
  clear hR hT hV hR1 hT1 hV1 hA1
  go_enter Try.func11, Try.ntmps11
  go_wp2_with fail
  refine (talive_any w0).mono ?_
  rintro e w1 ⟨rfl, hb1⟩
  have hB1 : Below (w.heap.size + 1) w0 w1 := hb1.mono (by omega)
  have hz1 := hB1.size
  have bx1 := b0.below hB1 (by omega)
  have p0 := bx1.cell 0
  have p1 := bx1.cell 1
  have p2 := bx1.cell 2
  simp only [List.getElem?_toArray, List.getElem?_cons_zero, List.getElem?_cons_succ] at p0 p1 p2
  go_wp2_with fail
  refine (few_any w1 w.heap.size ta va ra tl tc vl vc rc R (HR.out.below (hB1.mono (by omega))) (by omega) hn ht hv).mono ?_
  rintro e w2 ⟨b, rfl, hfew, hb2⟩
  have hB2 : Below (w.heap.size + 1) w0 w2 := hB1.trans (hb2.mono (by omega))
  cases b
  · clear hfew
    go_wp2
    go_ret
    exact ⟨rfl, hbl.trans (hB2.mono (by omega))⟩
  obtain ⟨f1, f2, f3, h8⟩ := hfew rfl
  have H8 := Lib.hid h8
  clear hfew h8
  have hz2 := hB2.size
  have bx2 := b0.below hB2 (by omega)
  have q0 := bx2.cell 0
  have q1 := bx2.cell 1
  have q2 := bx2.cell 2
  simp only [List.getElem?_toArray, List.getElem?_cons_zero, List.getElem?_cons_succ] at q0 q1 q2
  by_cases g1 : A.length ≤ 60
  case neg =>
    go_wp2
    go_ret
    exact ⟨rfl, hbl.trans (hB2.mono (by omega))⟩
  go_wp2_with fail
  refine (right_full w2 w.heap.size ta va ra tl tc vl vc rc R (HR.out.below (hB2.mono (by omega))) (HT.out.below (hB2.mono (by omega))) (HV.out.below (hB2.mono (by omega))) (by omega) f3 f2 f1 H8.out).mono ?_
  rintro e w3 ⟨b, rfl, hri, hb3⟩
  have hB3 : Below (w.heap.size + 1) w0 w3 := hB2.trans (hb3.mono (by omega))
  have hz3 := hB3.size
  have bx3 := b0.below hB3 (by omega)
  have r0 := bx3.cell 0
  have r1 := bx3.cell 1
  have r2 := bx3.cell 2
  simp only [List.getElem?_toArray, List.getElem?_cons_zero, List.getElem?_cons_succ] at r0 r1 r2
  cases b
  · go_wp2
    go_ret
    exact ⟨rfl, hbl.trans (hB3.mono (by omega))⟩
  by_cases hv0 : 0 ≤ v
  case neg =>
    go_wp2
    go_ret
    exact ⟨rfl, hbl.trans (hB3.mono (by omega))⟩
  by_cases hvl : v < (vl : Int)
  case neg =>
    go_wp2
    go_ret
    exact ⟨rfl, hbl.trans (hB3.mono (by omega))⟩
  have HRI := Lib.hid (hri rfl)
  clear hri p0 p1 p2 q0 q1 q2
  have hv64 : In64 v := by unfold In64; omega
  have ho1 := of_any w3 w.heap.size ta va tl tc vl vc (.slice ra R.length rc) (.slice ao A.length ac) R v A (HR.out.below (hB3.mono (by omega))) (by omega) hv64 (HA.out.below (by rw [hz0]; exact hB3)) (by omega) H8.out
  go_wp2_with fail
  refine ho1.mono ?_
  intro e w4 hof1
  obtain ⟨px, ex, rfl, hex, hx0, hx1, hb4⟩ := of_out hof1
  have hB4 : Below (w.heap.size + 1) w0 w4 := hB3.trans (hb4.mono (by omega))
  have hz4 := hB4.size
  have bx4 := b0.below hB4 (by omega)
  have s0 := bx4.cell 0
  have s1 := bx4.cell 1
  have s2 := bx4.cell 2
  simp only [List.getElem?_toArray, List.getElem?_cons_zero, List.getElem?_cons_succ] at s0 s1 s2
  have HX0 := Lib.hid hx0
  have HX1 := Lib.hid hx1
  clear hof1 ho1 hex hx0 hx1 r0 r1 r2
  by_cases he1 : ex = 0
  case neg =>
    have c1 : (ex != 0) = true := by simpa using he1
    obtain rfl := HX0.out he1
    go_wp2
    go_ret
    exact ⟨rfl, hbl.trans (hB4.mono (by omega))⟩
  subst he1
  obtain ⟨b, rb, k, rfl, hfb, hbf⟩ := HX1.out rfl
  obtain ⟨_, _, nv, kbs, _, _, e1, n1, n2, n3, _⟩ := hfb.first
  cases e1
  obtain ⟨ko, kcap, rfl, hrow⟩ := ptr_row n2
  have m0 := n1.cell 0
  have m1 := n1.cell 1
  have m2 := n1.cell 2
  have m1a := (n1.alloc (.cells #[] 3)).cell 1
  simp only [List.getElem?_toArray, List.getElem?_cons_zero, List.getElem?_cons_succ] at m0 m1 m2 m1a
  have hrl := HRI.out.1.2
  have h8 := H8.out
  have hsv : ∀ s ∈ [v], SymOk tl vl s := fun s hs => by
    obtain rfl : s = v := by simpa using hs
    exact ⟨hvl, by omega⟩
  have hin := Fo.for_mono (q := fun s r => In64 s ∧ In64 r) (fun s r h => ⟨sym_in h.1 f2 f1, h.2⟩) _ (bf_for hbf hrl f3 hsv)
  have hall := bf_all hbf hrl hsv
  have hsz := bf_size hbf h8
  simp only [List.length_cons, List.length_nil, Fo.size] at hsz
  have hall2 : k.all (fitB tl R) = true := by
    simp only [Fo.all, Bool.and_eq_true] at hall
    exact hall.2.1
  have HIN := Lib.hid hin
  have HALL := Lib.hid hall2
  have hks600 : k.size ≤ 545 := by omega
  have hkb600 : kbs.length ≤ 600 := by have := n3.len; have := Fo.len_size k; omega
  clear hrl h8 hsv hin hall hall2 hsz
  have c1 : ((0 : Int) != 0) = false := rfl
  have HG4 := Lib.hid bx4
  have HBF := Lib.hid hbf
  have HFB := Lib.hid hfb
  have HN1 := Lib.hid n1
  have HN3 := Lib.hid n3
  have HROW := Lib.hid hrow
  clear hbf hfb n1 n2 n3 hrow HX0 HX1
  go_wp2
  go_region
  · have hb5 : Below w4.heap.size w4 ((w4.alloc (.cells #[] 3)).alloc (.cells #[.int .i64 rb] 3)).drew := two_below_ab w4 _ _
    have hT0 := two_ab w4 rb
    generalize ((w4.alloc (.cells #[] 3)).alloc (.cells #[.int .i64 rb] 3)).drew = w5 at *
    have hB5 : Below (w.heap.size + 1) w0 w5 := hB4.trans (hb5.mono (by omega))
    have m2' := (HN1.out.below hb5 HN1.out.lt).cell 2
    simp only [List.getElem?_toArray, List.getElem?_cons_zero, List.getElem?_cons_succ] at m2'
    have HT0 := Lib.hid hT0
    have HB5 := Lib.hid hb5
    clear hT0 m0 m1 m2 m1a s0 s1 s2 bx1 bx2 bx3 bx4 hb5
    go_wp2
    go_loopw [9, 10, 11, 12, 63] (fun wv sv sz hi i wr => ∃ (j : Nat) (X Y : List Int) (S H : Nat), j ≤ kbs.length ∧ i = .int .i64 j ∧ sz = .int .i64 S ∧ hi = .int .i64 H ∧ Two w4.heap.size wr wv sv X Y ∧ X ++ (k.drop j).word = k.word ∧ Y ++ (k.drop j).rules = rb :: k.rules ∧ S + (k.drop j).size = 1 + k.size ∧ max H (k.drop j).high = k.high ∧ Below w4.heap.size w4 wr) (fun _ _ _ _ i _ => kbs.length - (intOf i).toNat)
    case atStart => exact ⟨0, [], [rb], 1, 0, Nat.zero_le _, rfl, rfl, rfl, HT0.out, by rw [Fo.drop_zero]; rfl, by rw [Fo.drop_zero]; rfl, by rw [Fo.drop_zero], by rw [Fo.drop_zero]; omega, HB5.out⟩
    case round =>
      obtain ⟨j, X, Y, S, H, hj, rfl, rfl, rfl, htw, hX, hY, hS, hH, hbr⟩ := hrel
      obtain ⟨i0, hi, hz0', hz1', hz2'⟩ := info_parts info_int
      have hds := Fo.drop_size j k
      have hdh := Fo.drop_high j k
      have hkw := Fo.word_le k
      have hkr := Fo.rules_le k
      have hkh := Fo.high_size k
      have hXl : X.length ≤ 600 := by have := congrArg List.length hX; simp only [List.length_append] at this; omega
      have hYl : Y.length ≤ 600 := by have := congrArg List.length hY; simp only [List.length_append, List.length_cons] at this; omega
      by_cases hlt : j < kbs.length
      · obtain ⟨a, rfl, hca0⟩ := HROW.out j hlt
        obtain ⟨t1, q1, k1, hdr, ht1, _⟩ := HN3.out.at_ j hlt
        have hca : wr.cell? (a.add j) = some (PtrV (kbs.getD j 0)) := (hbr.cell (p := a.add j) (cell_lt hca0)).trans hca0
        have hfd := Fo.for_drop j k HIN.out.2.1
        have had := Fo.all_drop j k HALL.out
        rw [hdr] at hX hY hS hH hfd had hds
        have hsp := Fo.size_split t1 q1 k1 (k.drop (j + 1))
        rw [Fo.word_split, ← List.append_assoc] at hX
        rw [Fo.rules_split, ← List.append_assoc] at hY
        rw [Fo.high_split] at hH
        have hfor : (Fo.node t1 q1 k1 .nil).For fun s r => In64 s ∧ In64 r := ⟨hfd.1, hfd.2.1, trivial⟩
        have hfit : (Fo.node t1 q1 k1 .nil).all (fitB tl R) = true := by
          simp only [Fo.all, Bool.and_eq_true] at had ⊢
          exact ⟨had.1, had.2.1, trivial⟩
        have hz1s : (Fo.node t1 q1 k1 .nil).size ≤ 600 := by omega
        have hhz := Fo.high_size (Fo.node t1 q1 k1 .nil)
        have hwz := Fo.word_le (Fo.node t1 q1 k1 .nil)
        have hrz := Fo.rules_le (Fo.node t1 q1 k1 .nil)
        rw [hsp] at hS
        generalize hT : Fo.node t1 q1 k1 .nil = T at *
        have hSs : S + T.size + (k.drop (j + 1)).size = 1 + k.size := by omega
        have hcY : ∀ W, Below w4.heap.size w4 W → Calls Try.prog 35 #[PtrV (kbs.getD j 0)] W fun e w' => (∃ v, e = .returned v ∧ w'.ownsRow W.heap.size 3 1 v T.word.length (IV T.word)) ∧ Below W.heap.size W w' := fun W hb => yield_fo W _ T (ht1.kept hb) (by omega) hfor
        have hcR : ∀ W, Below w4.heap.size w4 W → Calls Try.prog 36 #[PtrV (kbs.getD j 0)] W fun e w' => (∃ v, e = .returned v ∧ w'.ownsRow W.heap.size 3 1 v T.rules.length (IV T.rules)) ∧ Below W.heap.size W w' := fun W hb => rules_fo W _ T (ht1.kept hb) (by omega) hfor
        have hcS : ∀ W, Below w4.heap.size w4 W → Calls Try.prog 33 #[PtrV (kbs.getD j 0)] W fun e w' => e = .returned (.int .i64 (T.size : Int)) ∧ Below W.heap.size W w' := fun W hb => size_fo W _ T (ht1.kept hb) (by omega)
        have hcH : ∀ W, Below w4.heap.size w4 W → Calls Try.prog 34 #[PtrV (kbs.getD j 0)] W fun e w' => e = .returned (.int .i64 (T.high : Int)) ∧ Below W.heap.size W w' := fun W hb => height_fo W _ T (ht1.kept hb) (by omega)
        have hcV : ∀ W, Below w4.heap.size w4 W → Calls Try.prog 37 #[PtrV (kbs.getD j 0), .agg #[.slice ta tl tc, .slice va vl vc, .slice ra R.length rc]] W fun e w' => e = .returned (.bool true) ∧ Below W.heap.size W w' := fun W hb => by
          have := valid_fo W w.heap.size _ T ta va ra tl tc vl vc rc R (ht1.kept hb) (by omega) hfor (HR.out.below ((hB4.trans (hb.mono (by omega))).mono (by omega))) (by have := hb.size; omega) ht
          rwa [hfit] at this
        generalize kbs.getD j 0 = kj at *
        unfold PtrV at *
        have HCY := Lib.hid hcY
        have HCR := Lib.hid hcR
        have HCS := Lib.hid hcS
        have HCH := Lib.hid hcH
        have HCV := Lib.hid hcV
        have HX := Lib.hid hX
        have HY := Lib.hid hY
        have HSS := Lib.hid hSs
        have HHH := Lib.hid hH
        have HTW := Lib.hid htw
        have HBR := Lib.hid hbr
        clear hcY hcR hcS hcH hcV hX hY hSs hH htw hbr hS hfd had hds hsp hfor hfit hT ht1 hdr hdh hca0 m2'
        have hzz4 := HBR.out.size
        have hSb : S ≤ 600 := by have := HSS.out; omega
        have hHb : H ≤ 600 := by have := HHH.out; omega
        have hTh : T.high ≤ 600 := by omega
        go_wp2_with fail
        refine (HCY.out wr HBR.out).mono ?_
        rintro e wa ⟨⟨ua, rfl, oa⟩, hba⟩
        obtain ⟨uo, uc, rfl, hun, huc⟩ := own_src oa
        have hTa := HTW.out.kept hba
        have hBa := HBR.out.trans (hba.mono hzz4)
        have hza := hBa.size
        go_wp2_with (at_builtin; go_must (refine wpList_append_src_at rfl _ _ 26 rfl w4.heap.size 3 i0 (.int .i64 0) 1 8 Try.underlying26 hi hz0' hz1' hz2' rfl (by decide) _ _ _ rfl hTa.fst uo T.word.length uc (IV T.word) rfl (iv_len _) hun huc (iv_one _) (by unfold maxLen; omega) (by omega) hza ?_); intro v' w' hown' hgrow hat)
        have hT1 := hTa.grow hown' hgrow hat
        have hB1 : Below w4.heap.size w4 w' := hBa.grown hgrow hza (fun r e => (hTa.fst.lt r e).1)
        have hzb := hB1.size
        refine (HCR.out w' hB1).mono ?_
        rintro e wb ⟨⟨ub, rfl, ob⟩, hbb⟩
        obtain ⟨xo, xc, rfl, hxn, hxc⟩ := own_src ob
        have hTb := (hT1.kept hbb).swap
        have hBb := hB1.trans (hbb.mono hzb)
        have hzc := hBb.size
        clear hTa hBa hza hown' hgrow hat hT1 hB1 hzb hba hbb oa hun huc
        go_wp2_with (at_builtin; go_must (refine wpList_append_src_at rfl _ _ 26 rfl w4.heap.size 3 i0 (.int .i64 0) 1 8 Try.underlying26 hi hz0' hz1' hz2' rfl (by decide) _ _ _ rfl hTb.fst xo T.rules.length xc (IV T.rules) rfl (iv_len _) hxn hxc (iv_one _) (by unfold maxLen; omega) (by omega) hzc ?_); intro v'' w'' hown' hgrow hat)
        have hT2 := (hTb.grow hown' hgrow hat).swap
        have hB2 : Below w4.heap.size w4 w'' := hBb.grown hgrow hzc (fun r e => (hTb.fst.lt r e).1)
        have hz2 := hB2.size
        refine (HCS.out w'' hB2).mono ?_
        rintro e wc ⟨rfl, hbc⟩
        have hT3 := hT2.kept hbc
        have hB3 := hB2.trans (hbc.mono hz2)
        have hz3 := hB3.size
        clear hTb hBb hzc hown' hgrow hat hT2 hB2 hz2 hbc ob hxn hxc
        go_wp2_with fail
        refine (HCH.out wc hB3).mono ?_
        rintro e wd ⟨rfl, hbd⟩
        have hT4 := hT3.kept hbd
        have hB4' := hB3.trans (hbd.mono hz3)
        have hz4' := hB4'.size
        have hxg := ((HG4.out.below (hB4'.mono (Nat.le_refl _)) HG4.out.lt))
        have y0 := hxg.cell 0
        have y1 := hxg.cell 1
        have y2 := hxg.cell 2
        simp only [List.getElem?_toArray, List.getElem?_cons_zero, List.getElem?_cons_succ] at y0 y1 y2
        have HT4 := Lib.hid hT4
        have HB4 := Lib.hid hB4'
        clear hT3 hB3 hz3 hbd hT4 hB4' hxg
        go_wp2_with fail
        refine (HCV.out wd HB4.out).mono ?_
        rintro e we ⟨rfl, hbe⟩
        have hT5 := HT4.out.kept hbe
        have hB5' := HB4.out.trans (hbe.mono hz4')
        have HT5 := Lib.hid hT5
        have HB5' := Lib.hid hB5'
        clear hT5 hB5' hbe y0 y1 y2
        go_wp2
        exact ⟨⟨j + 1, X ++ T.word, Y ++ T.rules, S + T.size, max H T.high, hlt, congrArg (Value.int .i64) (by omega), congrArg (Value.int .i64) (by omega), congrArg (Value.int .i64) (by omega), HT5.out, HX.out, HY.out, HSS.out, by have := HHH.out; omega, HB5'.out⟩, by simp only [intOf]; omega⟩
      · have hjk : j = kbs.length := by omega
        subst hjk
        have hkl := HN3.out.len
        have hnil : k.drop kbs.length = .nil := by rw [hkl]; exact Fo.drop_all k
        rw [hnil] at hX hY hS hH
        simp only [Fo.word, Fo.rules, Fo.size, Fo.high, List.append_nil] at hX hY hS hH
        subst hX hY
        obtain rfl : S = 1 + k.size := by omega
        obtain rfl : H = k.high := by omega
        have hFw : (Fo.node v rb k .nil).word = k.word := by
          have : ¬ v < 0 := by omega
          simp [Fo.word, this]
        have hFr : (Fo.node v rb k .nil).rules = rb :: k.rules := by simp [Fo.rules, hv0]
        have hFs : (Fo.node v rb k .nil).size = 1 + k.size := by simp only [Fo.size]; omega
        have hFh : ((Fo.node v rb k .nil).high : Int) = (k.high : Int) + 1 := by simp only [Fo.high]; omega
        have hwi := Fo.word_in _ HIN.out
        have hri := Fo.rules_in _ HIN.out
        rw [hFw] at hwi
        rw [hFr] at hri
        have hzz4 := hbr.size
        have h1 := yield_fo wr b _ (HFB.out.kept hbr) (by rw [hFs]; omega) HIN.out
        rw [hFw] at h1
        unfold PtrV at h1
        have HTW := Lib.hid htw
        have HBR := Lib.hid hbr
        clear hds hdh htw hbr hnil hkl hS hH hj m2'
        go_wp2_with fail
        refine h1.mono ?_
        rintro e wa ⟨⟨ua, rfl, oa⟩, hba⟩
        have hTa := HTW.out.kept hba
        have hBa := HBR.out.trans (hba.mono hzz4)
        have hsm1 := rsame_any wa u9 ua k.word k.word (word_own hTa.fst rfl hwi) (word_own oa rfl hwi) (by omega) (by omega)
        rw [decide_eq_true rfl] at hsm1
        clear h1
        go_wp2_with fail
        refine hsm1.mono ?_
        rintro e wb ⟨rfl, nb, rfl⟩
        have hbb : Below wa.heap.size wa (wa.drewN nb) := below_drewN (Below.refl _ _) nb
        have hTb := hTa.kept hbb
        have hBb := hBa.trans (hbb.mono hBa.size)
        have h2 := rules_fo (wa.drewN nb) b _ (HFB.out.kept hBb) (by rw [hFs]; omega) HIN.out
        rw [hFr] at h2
        unfold PtrV at h2
        clear hTa hBa hba oa hsm1 hbb
        generalize wa.drewN nb = wb at *
        go_wp2_with fail
        refine h2.mono ?_
        rintro e wc ⟨⟨uc, rfl, oc⟩, hbc⟩
        have hTc := hTb.kept hbc
        have hBc := hBb.trans (hbc.mono hBb.size)
        have hsm2 := rsame_any wc u10 uc (rb :: k.rules) (rb :: k.rules) (word_own hTc.snd rfl hri) (word_own oc rfl hri) (by simp only [List.length_cons]; omega) (by simp only [List.length_cons]; omega)
        rw [decide_eq_true rfl] at hsm2
        clear h2 hTb hBb hbc
        go_wp2_with fail
        refine hsm2.mono ?_
        rintro e wd ⟨rfl, nd, rfl⟩
        have hbd : Below wc.heap.size wc (wc.drewN nd) := below_drewN (Below.refl _ _) nd
        have hBd := hBc.trans (hbd.mono hBc.size)
        have h3 := size_fo (wc.drewN nd) b _ (HFB.out.kept hBd) (by rw [hFs]; omega)
        rw [hFs] at h3
        unfold PtrV at h3
        clear hTc hBc oc hsm2 hbd
        generalize wc.drewN nd = wd at *
        go_wp2_with fail
        refine h3.mono ?_
        rintro e we ⟨rfl, hbe⟩
        have hBe := hBd.trans (hbe.mono hBd.size)
        have h4 := height_fo we b _ (HFB.out.kept hBe) (by rw [hFs]; omega)
        rw [hFh] at h4
        unfold PtrV at h4
        clear h3 hBd hbe
        go_wp2_with fail
        refine h4.mono ?_
        rintro e wf ⟨rfl, hbf⟩
        have hBf := hBe.trans (hbf.mono hBe.size)
        have HEND := Lib.hid (hbl.trans ((hB4.trans (hBf.mono (by omega))).mono (by omega)))
        clear h4 hBe hbf hBf
        go_wp2
        go_ret
        exact ⟨rfl, HEND.out⟩
  · have hb5 : Below w4.heap.size w4 ((w4.alloc (.cells #[.int .i64 rb] 3)).alloc (.cells #[] 3)).drew := two_below_ab w4 _ _
    have hT0 := two_ba w4 rb
    generalize ((w4.alloc (.cells #[.int .i64 rb] 3)).alloc (.cells #[] 3)).drew = w5 at *
    have hB5 : Below (w.heap.size + 1) w0 w5 := hB4.trans (hb5.mono (by omega))
    have m2' := (HN1.out.below hb5 HN1.out.lt).cell 2
    simp only [List.getElem?_toArray, List.getElem?_cons_zero, List.getElem?_cons_succ] at m2'
    have HT0 := Lib.hid hT0
    have HB5 := Lib.hid hb5
    clear hT0 m0 m1 m2 m1a s0 s1 s2 bx1 bx2 bx3 bx4 hb5
    go_wp2
    go_loopw [9, 10, 11, 12, 63] (fun wv sv sz hi i wr => ∃ (j : Nat) (X Y : List Int) (S H : Nat), j ≤ kbs.length ∧ i = .int .i64 j ∧ sz = .int .i64 S ∧ hi = .int .i64 H ∧ Two w4.heap.size wr wv sv X Y ∧ X ++ (k.drop j).word = k.word ∧ Y ++ (k.drop j).rules = rb :: k.rules ∧ S + (k.drop j).size = 1 + k.size ∧ max H (k.drop j).high = k.high ∧ Below w4.heap.size w4 wr) (fun _ _ _ _ i _ => kbs.length - (intOf i).toNat)
    case atStart => exact ⟨0, [], [rb], 1, 0, Nat.zero_le _, rfl, rfl, rfl, HT0.out, by rw [Fo.drop_zero]; rfl, by rw [Fo.drop_zero]; rfl, by rw [Fo.drop_zero], by rw [Fo.drop_zero]; omega, HB5.out⟩
    case round =>
      obtain ⟨j, X, Y, S, H, hj, rfl, rfl, rfl, htw, hX, hY, hS, hH, hbr⟩ := hrel
      obtain ⟨i0, hi, hz0', hz1', hz2'⟩ := info_parts info_int
      have hds := Fo.drop_size j k
      have hdh := Fo.drop_high j k
      have hkw := Fo.word_le k
      have hkr := Fo.rules_le k
      have hkh := Fo.high_size k
      have hXl : X.length ≤ 600 := by have := congrArg List.length hX; simp only [List.length_append] at this; omega
      have hYl : Y.length ≤ 600 := by have := congrArg List.length hY; simp only [List.length_append, List.length_cons] at this; omega
      by_cases hlt : j < kbs.length
      · obtain ⟨a, rfl, hca0⟩ := HROW.out j hlt
        obtain ⟨t1, q1, k1, hdr, ht1, _⟩ := HN3.out.at_ j hlt
        have hca : wr.cell? (a.add j) = some (PtrV (kbs.getD j 0)) := (hbr.cell (p := a.add j) (cell_lt hca0)).trans hca0
        have hfd := Fo.for_drop j k HIN.out.2.1
        have had := Fo.all_drop j k HALL.out
        rw [hdr] at hX hY hS hH hfd had hds
        have hsp := Fo.size_split t1 q1 k1 (k.drop (j + 1))
        rw [Fo.word_split, ← List.append_assoc] at hX
        rw [Fo.rules_split, ← List.append_assoc] at hY
        rw [Fo.high_split] at hH
        have hfor : (Fo.node t1 q1 k1 .nil).For fun s r => In64 s ∧ In64 r := ⟨hfd.1, hfd.2.1, trivial⟩
        have hfit : (Fo.node t1 q1 k1 .nil).all (fitB tl R) = true := by
          simp only [Fo.all, Bool.and_eq_true] at had ⊢
          exact ⟨had.1, had.2.1, trivial⟩
        have hz1s : (Fo.node t1 q1 k1 .nil).size ≤ 600 := by omega
        have hhz := Fo.high_size (Fo.node t1 q1 k1 .nil)
        have hwz := Fo.word_le (Fo.node t1 q1 k1 .nil)
        have hrz := Fo.rules_le (Fo.node t1 q1 k1 .nil)
        rw [hsp] at hS
        generalize hT : Fo.node t1 q1 k1 .nil = T at *
        have hSs : S + T.size + (k.drop (j + 1)).size = 1 + k.size := by omega
        have hcY : ∀ W, Below w4.heap.size w4 W → Calls Try.prog 35 #[PtrV (kbs.getD j 0)] W fun e w' => (∃ v, e = .returned v ∧ w'.ownsRow W.heap.size 3 1 v T.word.length (IV T.word)) ∧ Below W.heap.size W w' := fun W hb => yield_fo W _ T (ht1.kept hb) (by omega) hfor
        have hcR : ∀ W, Below w4.heap.size w4 W → Calls Try.prog 36 #[PtrV (kbs.getD j 0)] W fun e w' => (∃ v, e = .returned v ∧ w'.ownsRow W.heap.size 3 1 v T.rules.length (IV T.rules)) ∧ Below W.heap.size W w' := fun W hb => rules_fo W _ T (ht1.kept hb) (by omega) hfor
        have hcS : ∀ W, Below w4.heap.size w4 W → Calls Try.prog 33 #[PtrV (kbs.getD j 0)] W fun e w' => e = .returned (.int .i64 (T.size : Int)) ∧ Below W.heap.size W w' := fun W hb => size_fo W _ T (ht1.kept hb) (by omega)
        have hcH : ∀ W, Below w4.heap.size w4 W → Calls Try.prog 34 #[PtrV (kbs.getD j 0)] W fun e w' => e = .returned (.int .i64 (T.high : Int)) ∧ Below W.heap.size W w' := fun W hb => height_fo W _ T (ht1.kept hb) (by omega)
        have hcV : ∀ W, Below w4.heap.size w4 W → Calls Try.prog 37 #[PtrV (kbs.getD j 0), .agg #[.slice ta tl tc, .slice va vl vc, .slice ra R.length rc]] W fun e w' => e = .returned (.bool true) ∧ Below W.heap.size W w' := fun W hb => by
          have := valid_fo W w.heap.size _ T ta va ra tl tc vl vc rc R (ht1.kept hb) (by omega) hfor (HR.out.below ((hB4.trans (hb.mono (by omega))).mono (by omega))) (by have := hb.size; omega) ht
          rwa [hfit] at this
        generalize kbs.getD j 0 = kj at *
        unfold PtrV at *
        have HCY := Lib.hid hcY
        have HCR := Lib.hid hcR
        have HCS := Lib.hid hcS
        have HCH := Lib.hid hcH
        have HCV := Lib.hid hcV
        have HX := Lib.hid hX
        have HY := Lib.hid hY
        have HSS := Lib.hid hSs
        have HHH := Lib.hid hH
        have HTW := Lib.hid htw
        have HBR := Lib.hid hbr
        clear hcY hcR hcS hcH hcV hX hY hSs hH htw hbr hS hfd had hds hsp hfor hfit hT ht1 hdr hdh hca0 m2'
        have hzz4 := HBR.out.size
        have hSb : S ≤ 600 := by have := HSS.out; omega
        have hHb : H ≤ 600 := by have := HHH.out; omega
        have hTh : T.high ≤ 600 := by omega
        go_wp2_with fail
        refine (HCY.out wr HBR.out).mono ?_
        rintro e wa ⟨⟨ua, rfl, oa⟩, hba⟩
        obtain ⟨uo, uc, rfl, hun, huc⟩ := own_src oa
        have hTa := HTW.out.kept hba
        have hBa := HBR.out.trans (hba.mono hzz4)
        have hza := hBa.size
        go_wp2_with (at_builtin; go_must (refine wpList_append_src_at rfl _ _ 26 rfl w4.heap.size 3 i0 (.int .i64 0) 1 8 Try.underlying26 hi hz0' hz1' hz2' rfl (by decide) _ _ _ rfl hTa.fst uo T.word.length uc (IV T.word) rfl (iv_len _) hun huc (iv_one _) (by unfold maxLen; omega) (by omega) hza ?_); intro v' w' hown' hgrow hat)
        have hT1 := hTa.grow hown' hgrow hat
        have hB1 : Below w4.heap.size w4 w' := hBa.grown hgrow hza (fun r e => (hTa.fst.lt r e).1)
        have hzb := hB1.size
        refine (HCR.out w' hB1).mono ?_
        rintro e wb ⟨⟨ub, rfl, ob⟩, hbb⟩
        obtain ⟨xo, xc, rfl, hxn, hxc⟩ := own_src ob
        have hTb := (hT1.kept hbb).swap
        have hBb := hB1.trans (hbb.mono hzb)
        have hzc := hBb.size
        clear hTa hBa hza hown' hgrow hat hT1 hB1 hzb hba hbb oa hun huc
        go_wp2_with (at_builtin; go_must (refine wpList_append_src_at rfl _ _ 26 rfl w4.heap.size 3 i0 (.int .i64 0) 1 8 Try.underlying26 hi hz0' hz1' hz2' rfl (by decide) _ _ _ rfl hTb.fst xo T.rules.length xc (IV T.rules) rfl (iv_len _) hxn hxc (iv_one _) (by unfold maxLen; omega) (by omega) hzc ?_); intro v'' w'' hown' hgrow hat)
        have hT2 := (hTb.grow hown' hgrow hat).swap
        have hB2 : Below w4.heap.size w4 w'' := hBb.grown hgrow hzc (fun r e => (hTb.fst.lt r e).1)
        have hz2 := hB2.size
        refine (HCS.out w'' hB2).mono ?_
        rintro e wc ⟨rfl, hbc⟩
        have hT3 := hT2.kept hbc
        have hB3 := hB2.trans (hbc.mono hz2)
        have hz3 := hB3.size
        clear hTb hBb hzc hown' hgrow hat hT2 hB2 hz2 hbc ob hxn hxc
        go_wp2_with fail
        refine (HCH.out wc hB3).mono ?_
        rintro e wd ⟨rfl, hbd⟩
        have hT4 := hT3.kept hbd
        have hB4' := hB3.trans (hbd.mono hz3)
        have hz4' := hB4'.size
        have hxg := ((HG4.out.below (hB4'.mono (Nat.le_refl _)) HG4.out.lt))
        have y0 := hxg.cell 0
        have y1 := hxg.cell 1
        have y2 := hxg.cell 2
        simp only [List.getElem?_toArray, List.getElem?_cons_zero, List.getElem?_cons_succ] at y0 y1 y2
        have HT4 := Lib.hid hT4
        have HB4 := Lib.hid hB4'
        clear hT3 hB3 hz3 hbd hT4 hB4' hxg
        go_wp2_with fail
        refine (HCV.out wd HB4.out).mono ?_
        rintro e we ⟨rfl, hbe⟩
        have hT5 := HT4.out.kept hbe
        have hB5' := HB4.out.trans (hbe.mono hz4')
        have HT5 := Lib.hid hT5
        have HB5' := Lib.hid hB5'
        clear hT5 hB5' hbe y0 y1 y2
        go_wp2
        exact ⟨⟨j + 1, X ++ T.word, Y ++ T.rules, S + T.size, max H T.high, hlt, congrArg (Value.int .i64) (by omega), congrArg (Value.int .i64) (by omega), congrArg (Value.int .i64) (by omega), HT5.out, HX.out, HY.out, HSS.out, by have := HHH.out; omega, HB5'.out⟩, by simp only [intOf]; omega⟩
      · have hjk : j = kbs.length := by omega
        subst hjk
        have hkl := HN3.out.len
        have hnil : k.drop kbs.length = .nil := by rw [hkl]; exact Fo.drop_all k
        rw [hnil] at hX hY hS hH
        simp only [Fo.word, Fo.rules, Fo.size, Fo.high, List.append_nil] at hX hY hS hH
        subst hX hY
        obtain rfl : S = 1 + k.size := by omega
        obtain rfl : H = k.high := by omega
        have hFw : (Fo.node v rb k .nil).word = k.word := by
          have : ¬ v < 0 := by omega
          simp [Fo.word, this]
        have hFr : (Fo.node v rb k .nil).rules = rb :: k.rules := by simp [Fo.rules, hv0]
        have hFs : (Fo.node v rb k .nil).size = 1 + k.size := by simp only [Fo.size]; omega
        have hFh : ((Fo.node v rb k .nil).high : Int) = (k.high : Int) + 1 := by simp only [Fo.high]; omega
        have hwi := Fo.word_in _ HIN.out
        have hri := Fo.rules_in _ HIN.out
        rw [hFw] at hwi
        rw [hFr] at hri
        have hzz4 := hbr.size
        have h1 := yield_fo wr b _ (HFB.out.kept hbr) (by rw [hFs]; omega) HIN.out
        rw [hFw] at h1
        unfold PtrV at h1
        have HTW := Lib.hid htw
        have HBR := Lib.hid hbr
        clear hds hdh htw hbr hnil hkl hS hH hj m2'
        go_wp2_with fail
        refine h1.mono ?_
        rintro e wa ⟨⟨ua, rfl, oa⟩, hba⟩
        have hTa := HTW.out.kept hba
        have hBa := HBR.out.trans (hba.mono hzz4)
        have hsm1 := rsame_any wa u9 ua k.word k.word (word_own hTa.fst rfl hwi) (word_own oa rfl hwi) (by omega) (by omega)
        rw [decide_eq_true rfl] at hsm1
        clear h1
        go_wp2_with fail
        refine hsm1.mono ?_
        rintro e wb ⟨rfl, nb, rfl⟩
        have hbb : Below wa.heap.size wa (wa.drewN nb) := below_drewN (Below.refl _ _) nb
        have hTb := hTa.kept hbb
        have hBb := hBa.trans (hbb.mono hBa.size)
        have h2 := rules_fo (wa.drewN nb) b _ (HFB.out.kept hBb) (by rw [hFs]; omega) HIN.out
        rw [hFr] at h2
        unfold PtrV at h2
        clear hTa hBa hba oa hsm1 hbb
        generalize wa.drewN nb = wb at *
        go_wp2_with fail
        refine h2.mono ?_
        rintro e wc ⟨⟨uc, rfl, oc⟩, hbc⟩
        have hTc := hTb.kept hbc
        have hBc := hBb.trans (hbc.mono hBb.size)
        have hsm2 := rsame_any wc u10 uc (rb :: k.rules) (rb :: k.rules) (word_own hTc.snd rfl hri) (word_own oc rfl hri) (by simp only [List.length_cons]; omega) (by simp only [List.length_cons]; omega)
        rw [decide_eq_true rfl] at hsm2
        clear h2 hTb hBb hbc
        go_wp2_with fail
        refine hsm2.mono ?_
        rintro e wd ⟨rfl, nd, rfl⟩
        have hbd : Below wc.heap.size wc (wc.drewN nd) := below_drewN (Below.refl _ _) nd
        have hBd := hBc.trans (hbd.mono hBc.size)
        have h3 := size_fo (wc.drewN nd) b _ (HFB.out.kept hBd) (by rw [hFs]; omega)
        rw [hFs] at h3
        unfold PtrV at h3
        clear hTc hBc oc hsm2 hbd
        generalize wc.drewN nd = wd at *
        go_wp2_with fail
        refine h3.mono ?_
        rintro e we ⟨rfl, hbe⟩
        have hBe := hBd.trans (hbe.mono hBd.size)
        have h4 := height_fo we b _ (HFB.out.kept hBe) (by rw [hFs]; omega)
        rw [hFh] at h4
        unfold PtrV at h4
        clear h3 hBd hbe
        go_wp2_with fail
        refine h4.mono ?_
        rintro e wf ⟨rfl, hbf⟩
        have hBf := hBe.trans (hbf.mono hBe.size)
        have HEND := Lib.hid (hbl.trans ((hB4.trans (hBf.mono (by omega))).mono (by omega)))
        clear h4 hBe hbf hBf
        go_wp2
        go_ret
        exact ⟨rfl, HEND.out⟩
end Go.Proofs.Ytomikgkoegkofaa.dt
namespace Go.Proofs.Ytomikgkoegkofaa.dv
open Go.ChangeShapes Go.WideShapes Go.ChangeAt Go.RowKit Go.Maps Go.WideMaps Go.WideElems Go.Deep Go.Joins
set_option linter.unusedVariables false
set_option linter.unusedSimpArgs false
set_option maxRecDepth 100000 in
theorem streeSpans_lifted (os : Os) (started : os.Started) (H : Type) (enc : TypeId × Value → H) :
    ReturnsInHanded {} Try.checked os 11 .any (Rows.treeSpansSpec.pre6 enc Try.prog Try.f11 Rows.treeSpansRow.domain false) (Rows.treeSpansSpec.post enc Try.prog Try.f11 false true false false) := by
  refine returnsInHanded_of_change (C := Try.checked) own started (by kernel_rfl) Try.func11
    (ChangeSpec.witness6 (enc := enc) (C := Try.checked) false ⟨#[], #[.agg #[.slice none 0 0, .slice none 0 0, .slice none 0 0], .int .i64 0, .slice none 0 0], []⟩ 8 (by kernel_rfl) (by kernel_rfl) (by kernel_rfl) (by kernel_rfl)) ?_
  intro W base args ds gs before hval0 hW hcnd _
  have hval : ∀ (j : Nat) t v, Try.f11.params[j]? = some t → args[j]? = some v → Value.okWide Try.prog W .any base t v := hval0
  have hW' := hW
  obtain ⟨p, q, hA0, hV, rfl, hfz, hnd⟩ := hW
  have hA : DataW.TrodAll enc Try.prog W 0 (fun _ => true) true Try.f11.params.toList args.toList ds p := hA0
  rw [Try.params11] at hA hval
  obtain ⟨v0, vs0, d0, ds0, p0, q0, hargs, rfl, rfl, h0, r0⟩ := trodAll_cons hA
  obtain ⟨v1, vs1, d1, ds1, p1, q1, rfl, rfl, rfl, h1, r1⟩ := trodAll_cons r0
  obtain ⟨v2, vs2, d2, ds2, p2, q2, rfl, rfl, rfl, h2, r2⟩ := trodAll_cons r1
  obtain ⟨rfl, rfl, rfl⟩ := trodAll_nil r2
  obtain rfl : args = #[v0, v1, v2] := by cases args; simp_all
  obtain ⟨rfl, rfl⟩ := trodVars_none hV
  have h0k := h0
  obtain ⟨g0, g1, g2, y0, y1, y2, n, rfl, _, _, e0, e1, e2⟩ := open_agg3 Try.underlying25 (by kernel_rfl) (by kernel_rfl) (hval 0 25 v0 rfl rfl) h0
  replace e0 : DataW.trod enc Try.prog W 0 (fun _ => true) true n 22 [g0] = some y0 := e0
  replace e1 : DataW.trod enc Try.prog W 0 (fun _ => true) true n 22 [g1] = some y1 := e1
  replace e2 : DataW.trod enc Try.prog W 0 (fun _ => true) true n 23 [g2] = some y2 := e2
  obtain ⟨ta, tl, tc, rfl, _, _, _⟩ := slice_of Try.underlying22 e0
  obtain ⟨va, vl, vc, rfl, _, _, _⟩ := slice_of Try.underlying22 e1
  obtain ⟨ra, rl, rc, rfl, hr1, hr2, _⟩ := slice_of Try.underlying23 e2
  obtain ⟨hT1, hT2⟩ := strs_of e0
  obtain ⟨hV1, hV2⟩ := strs_of e1
  obtain ⟨R, rfl, hR, hwf⟩ := rules_of e2
  obtain ⟨x1, rfl, rfl, rfl, w1⟩ := open_int Try.underlying3 (hval 1 3 v1 rfl rfl) h1
  obtain ⟨a2, len2, cap2, rfl⟩ := okWide_slice Try.underlying26 (hval 2 26 v2 rfl rfl)
  have h2k := h2
  obtain ⟨fu2, hf2⟩ := h2
  obtain ⟨L2, hL2, hF2⟩ := row_of hf2
  clear hA0 hval0
  simp only [List.append_nil, List.nil_append] at hW'
  have hlt : ∀ x ∈ p0 ++ (p2), x.block < W.heap.size := fun x hx => by simpa using hW'.lt x (by simpa using hx)
  have hback0 : ∀ (W' : World), Below W.heap.size W W' → DataW.Trod enc Try.prog W' 0 (fun b => decide (b < W.heap.size)) true 25 (.agg #[.slice ta tl tc, .slice va vl vc, .slice ra R.length rc]) d0 p0 :=
    fun W' hn => Below.trod laidOut (by kernel_rfl) (of_decide_eq_true (by kernel_rfl)) h0k hn (fun x hx => hlt x (by simp [hx]))
  have hback2 : ∀ (W' : World), Below W.heap.size W W' → DataW.Trod enc Try.prog W' 0 (fun b => decide (b < W.heap.size)) true 26 (.slice a2 len2 cap2) d2 p2 :=
    fun W' hn => Below.trod laidOut (by kernel_rfl) (of_decide_eq_true (by kernel_rfl)) h2k hn (fun x hx => hlt x (by simp [hx]))
  have hT : ∀ (W' : World), Below W.heap.size W W' → DataW.TrodAll enc Try.prog W' 0 (fun b => decide (b < W.heap.size)) true [25, 3, 26] [.agg #[.slice ta tl tc, .slice va vl vc, .slice ra R.length rc], .int .i64 x1, .slice a2 len2 cap2] [d0, .lit (.int .i64 x1), d2] (p0 ++ (p2)) := fun W' hn => by
    have h4 := (trodAll_cons_mk (hback0 _ hn) (trodAll_cons_mk (shut_int (H := H) (enc := enc) (P := Try.prog) (w := W') (base := 0) (spare := fun b => decide (b < W.heap.size)) (held := true) Try.underlying3 w1) (trodAll_mk1 (hback2 _ hn))))
    simpa using h4
  subst hL2
  refine (dt.tspans_any W ta va ra tl tc vl vc rc _ x1 R L2 hR hT1 hV1 (by omega) hT2 hV2 hF2).mono fun e W' ⟨he, hb⟩ => ?_
  subst he
  exact ⟨_, rfl, _, _, _, [], p0 ++ (p2), [], hW', trodAll_mk1 (shut_bool Try.underlying4 _), hT W' hb, rfl, hb.frame _, fun h => by cases h⟩
theorem streeSpans_said : Rows.TreeSpansSaid :=
  OpenClaim.holds_of_wide 11 Try.f11 rfl rfl rfl rfl rfl rfl rfl ⟨rfl, rfl, rfl, rfl, rfl⟩ rfl rfl rfl rfl rfl (by kernel_rfl) Try.func11 (by kernel_rfl)
    (of_decide_eq_true (by kernel_rfl)) (by unfold Func.isWrapper; first | (rw [if_pos (by decide +kernel)]; kernel_rfl) | (rw [if_neg (by decide +kernel)]; exact ⟨rfl, rfl⟩))
    (fun os started H enc _ => streeSpans_lifted os started H enc)
end Go.Proofs.Ytomikgkoegkofaa.dv
namespace Go.Proofs.Ytomikgkoegkofaa
theorem treeSpans_holds : Rows.TreeSpansSaid := dv.streeSpans_said
end Go.Proofs.Ytomikgkoegkofaa
