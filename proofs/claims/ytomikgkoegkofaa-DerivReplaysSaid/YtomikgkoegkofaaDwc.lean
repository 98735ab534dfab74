import Derived.Test.YtomikgkoegkofaaDwb
import Derived.Test.YtomikgkoegkofaaDwa
namespace Go.Proofs.Ytomikgkoegkofaa.dv
open Go.ChangeShapes Go.WideShapes Go.ChangeAt Go.RowKit Go.Maps Go.WideMaps Go.WideElems
set_option linter.unusedVariables false
set_option linter.unusedSimpArgs false
/-! DerivParts -/
theorem bv_and (x y : Int) : (BitVec.ofInt 64 x &&& BitVec.ofInt 64 y).toNat = (x % 18446744073709551616).toNat &&& (y % 18446744073709551616).toNat := by
  rw [BitVec.toNat_and, BitVec.toNat_ofInt, BitVec.toNat_ofInt]; rfl
theorem and_nat (x : Int) (m j : Nat) (hm : m = 2 ^ j - 1) (hj : m < 4611686018427387904) (hd : (18446744073709551616 : Nat) % 2 ^ j = 0) : bits .and .i64 x (m : Int) = x % ((2 ^ j : Nat) : Int) := by
  have hp : 0 < 2 ^ j := Nat.two_pow_pos j
  show IntKind.i64.wrap ((BitVec.ofInt 64 x &&& BitVec.ofInt 64 (m : Int)).toNat : Int) = _
  rw [bv_and, Int.emod_eq_of_lt (show (0 : Int) ≤ (m : Int) by omega) (by omega), Int.toNat_natCast, hm, Nat.and_two_pow_sub_one_eq_mod]
  have hlt := Nat.mod_lt (x % 18446744073709551616).toNat hp
  rw [IntWalk.i64_in _ (by omega)]
  generalize hP : 2 ^ j = P at *
  obtain ⟨q, hq⟩ := Nat.dvd_of_mod_eq_zero hd
  have h0 := Int.emod_nonneg x (show (18446744073709551616 : Int) ≠ 0 by decide)
  have e : (((x % 18446744073709551616).toNat % P : Nat) : Int) = (x % 18446744073709551616) % (P : Int) := by
    rw [Int.natCast_emod, Int.toNat_of_nonneg h0]
  rw [e]
  exact Int.emod_emod_of_dvd x ⟨(q : Int), (congrArg (fun m : Nat => (m : Int)) hq).trans (Int.natCast_mul P q)⟩
theorem and255 (x : Int) : bits .and .i64 x 255 = x % 256 := and_nat x 255 8 (by decide) (by decide) (by decide)
theorem repl_at (R : List Rl) : ∀ (ks F : List Int) (i : Nat), (replW R F ks i).2.1 ≤ i + ks.length
  | [], F, i => Nat.zero_le _
  | k :: ks, F, i => by
    rw [repl_cons]
    by_cases hE : refW R (fvW F) k = 0
    · rw [if_pos hE]
      have := repl_at R ks (stepL R F k) (i + 1)
      simp
      omega
    · rw [if_neg hE]
      simp
theorem neg_in {l : List Int} (h : ∀ n ∈ l, In64 n) : ∀ n ∈ l.map (fun x => -1 - x), In64 n := fun n hn => by
  obtain ⟨x, hx, rfl⟩ := List.mem_map.1 hn
  have := h x hx
  unfold In64 at *
  omega
theorem lead_sub {F : List Int} (h : ∀ n ∈ F, In64 n) : ∀ n ∈ leadW F, In64 n := fun n hn => h n (by rw [← lead_rest F]; exact List.mem_append_left _ hn)
theorem lead_le (F : List Int) : (leadW F).length ≤ F.length := by
  have := congrArg List.length (lead_rest F)
  simp at this
  omega
set_option maxRecDepth 100000 in
set_option maxHeartbeats 4000000 in
theorem parts_any (w : World) (ta va ra : Option Addr) (tl tc vl vc rc : Nat) (fv kv : Value) (cut : Int) (R : List Rl) (F ks : List Int) (hR : RulesAt w.heap.size w (.slice ra R.length rc) R) (hT : StrsAt w.heap.size w ta tl) (hV : StrsAt w.heap.size w va vl) (hn : R.length ≤ maxLen) (ht : tl ≤ maxLen) (hv : vl ≤ maxLen) (hF : RowAt w fv F) (hK : RowAt w kv ks) :
    Calls Try.prog 5 #[.agg #[.slice ta tl tc, .slice va vl vc, .slice ra R.length rc], fv, kv, .int .i64 cut] w fun e w' => e = .returned (.bool true) ∧ Below w.heap.size w w' := by
  have b0 := Blk.new w 25 #[.slice ta tl tc, .slice va vl vc, .slice ra R.length rc]
  have hbl : Below w.heap.size w (w.alloc (.cells #[.slice ta tl tc, .slice va vl vc, .slice ra R.length rc] 25)) := below_lit _ _ _
  have hR1 := hR.below hbl
  have hT1 := hT.below hbl
  have hV1 := hV.below hbl
  have hF1 := hF.below hbl
  have hK1 := hK.below hbl
  generalize hW0 : w.alloc (.cells #[.slice ta tl tc, .slice va vl vc, .slice ra R.length rc] 25) = w0 at *
  have hz0 : w0.heap.size = w.heap.size + 1 := by rw [← hW0]; simp
  have HR := Lib.hid hR1
  have HT := Lib.hid hT1
  have HV := Lib.hid hV1
  have HF := Lib.hid hF1
  have HK := Lib.hid hK1
  have hin := hF.ins
  have HIN := Lib.hid hin
  obtain ⟨fo, fc, rfl, hfc, hfm, _⟩ := hF
  obtain ⟨ko, kc, rfl, hkc, hkm, _⟩ := hK
  have hfm' : fc ≤ 9223372036854775807 := by unfold maxLen at hfm; omega
  have hkm' : kc ≤ 9223372036854775807 := by unfold maxLen at hkm; omega
  have hand := and255 cut
  have hc0 := Int.emod_nonneg cut (show (256 : Int) ≠ 0 by decide)
  have hc1 := Int.emod_lt_of_pos cut (show (0 : Int) < 256 by decide)
  obtain ⟨cn, hcn⟩ : ∃ cn : Nat, cut % 256 = cn := ⟨(cut % 256).toNat, by omega⟩
  rw [hcn] at hand hc0 hc1
  clear hcn
  clear hR hT hV hR1 hT1 hV1 hF1 hK1 hin
  go_enter Try.func5, Try.ntmps5
  go_wp2_with fail
  refine (alive_any w0).mono ?_
  rintro e w1 ⟨rfl, hb1⟩
  have hB1 : Below (w.heap.size + 1) w0 w1 := hb1.mono (by omega)
  have hz1 := hB1.size
  have bx1 := b0.below hB1 (by omega)
  have p0 := bx1.cell 0
  have p1 := bx1.cell 1
  have p2 := bx1.cell 2
  simp only [List.getElem?_toArray, List.getElem?_cons_zero, List.getElem?_cons_succ] at p0 p1 p2
  go_wp2_with fail
  refine (few_any w1 w.heap.size ta va ra tl tc vl vc rc R (HR.out.below (hB1.mono (by omega))) (by omega) hn ht hv).mono ?_
  rintro e w2 ⟨b, rfl, hfew, hb2⟩
  have hB2 : Below (w.heap.size + 1) w0 w2 := hB1.trans (hb2.mono (by omega))
  cases b
  · clear hfew
    go_wp2
    go_ret
    exact ⟨rfl, hbl.trans (hB2.mono (by omega))⟩
  · obtain ⟨f1, f2, f3, h8⟩ := hfew rfl
    have H8 := Lib.hid h8
    clear hfew h8
    have hz2 := hB2.size
    have bx2 := b0.below hB2 (by omega)
    have q0 := bx2.cell 0
    have q1 := bx2.cell 1
    have q2 := bx2.cell 2
    simp only [List.getElem?_toArray, List.getElem?_cons_zero, List.getElem?_cons_succ] at q0 q1 q2
    by_cases g1 : F.length ≤ 40
    · by_cases g2 : ks.length ≤ 60
      · go_wp2_with fail
        refine (right_any w2 w.heap.size ta va ra tl tc vl vc rc R (HR.out.below (hB2.mono (by omega))) (HT.out.below (hB2.mono (by omega))) (HV.out.below (hB2.mono (by omega))) (by omega) f3 f2 f1 H8.out).mono ?_
        rintro e w3 ⟨b, rfl, hb3⟩
        have hB3 : Below (w.heap.size + 1) w0 w3 := hB2.trans (hb3.mono (by omega))
        have hz3 := hB3.size
        cases b
        · go_wp2
          go_ret
          exact ⟨rfl, hbl.trans (hB3.mono (by omega))⟩
        · clear p0 p1 p2 q0 q1 q2 bx1 bx2 hb1 hb2 hb3 hB1 hB2 hz1 hz2
          have hRin := rules_in HR.out H8.out
          have HRI := Lib.hid hRin
          have hBw3 : w.heap.size ≤ w3.heap.size := by omega
          have bx3 := b0.below hB3 (by omega)
          have p0 := bx3.cell 0
          have p1 := bx3.cell 1
          have p2 := bx3.cell 2
          simp only [List.getElem?_toArray, List.getElem?_cons_zero, List.getElem?_cons_succ] at p0 p1 p2
          have hw1 : IntKind.i64.wrap ((ks.length : Int) + 1) = (ks.length : Int) + 1 := by rw [IntKind.wrap_i64]; omega
          obtain ⟨c, hc⟩ : ∃ c, c = cn % (ks.length + 1) := ⟨_, rfl⟩
          have hcl : c ≤ ks.length := by have := Nat.mod_lt cn (show 0 < ks.length + 1 by omega); omega
          have hrem : ((cn : Int).tmod ((ks.length : Int) + 1)) = (c : Int) := by rw [hc]; rfl
          have hrw : IntKind.i64.wrap (c : Int) = (c : Int) := by rw [IntKind.wrap_i64]; omega
          have hnz : ((ks.length : Int) + 1 = 0) = False := by simp; omega
          have hA0 : (0 : Int) ≤ (c : Int) := by omega
          have hA1 : (c : Int) ≤ (kc : Int) := by omega
          have hA2 : (c : Int) ≤ (ks.length : Int) := by omega
          clear hc
          have hF3 : RowAt w3 (.slice fo F.length fc) F := HF.out.below (by rw [hz0]; exact hB3)
          have hK3 : RowAt w3 (.slice ko ks.length kc) ks := HK.out.below (by rw [hz0]; exact hB3)
          have hR3 : RulesAt w.heap.size w3 (.slice ra R.length rc) R := HR.out.below (hB3.mono (by omega))
          have hrep1 := replay_any w3 w.heap.size ta va tl tc vl vc (.slice ra R.length rc) _ _ R F ks hR3 hBw3 hF3 hK3 (by omega) (by omega) H8.out
          unfold ReplR at hrep1
          have hIA := repl_in HRI.out ks F 0 HIN.out
          have hAt := repl_at R ks F 0
          have hEr := repl_err R ks F 0
          have HP1 := Lib.hid (repl_parts R F ks c hcl)
          have HP2 := Lib.hid (repl_part_err R F ks c)
          have HIA := Lib.hid hIA.1
          have hla := hIA.2
          have HLA := Lib.hid (fun h => repl_lead R ks F 0 h)
          clear hIA hF3 hK3 hR3
          go_wp2_with fail
          refine hrep1.mono ?_
          rintro e w4 ⟨u4, rfl, hu1, hu2, hb4⟩
          have hB4 : Below (w.heap.size + 1) w0 w4 := hB3.trans (hb4.mono (by omega))
          have hz4 := hB4.size
          have bx4 := b0.below hB4 (by omega)
          have r0 := bx4.cell 0
          have r1 := bx4.cell 1
          have r2 := bx4.cell 2
          simp only [List.getElem?_toArray, List.getElem?_cons_zero, List.getElem?_cons_succ] at r0 r1 r2
          have hd4 : Below w4.heap.size w4 w4.drew := (Below.refl _ w4).drew
          have hK4 : RowAt w4.drew (.slice ko c kc) (ks.take c) := ((HK.out.below (by rw [hz0]; exact hB4)).take c hcl).below hd4
          have hF4 : RowAt w4.drew (.slice fo F.length fc) F := (HF.out.below (by rw [hz0]; exact hB4)).below hd4
          have hR4 : RulesAt w.heap.size w4.drew (.slice ra R.length rc) R := (HR.out.below (hB4.mono (by omega))).below (Below.refl _ w4).drew
          have hrep2 := replay_any w4.drew w.heap.size ta va tl tc vl vc (.slice ra R.length rc) _ _ R F (ks.take c) hR4 (by show w.heap.size ≤ w4.heap.size; omega) hF4 hK4 (by simp; omega) (by simp; omega) H8.out
          unfold ReplR at hrep2
          have hIS := repl_in HRI.out (ks.take c) F 0 HIN.out
          have HIS := Lib.hid hIS.1
          have hls := hIS.2
          clear hK4 hF4 hR4 hd4 hIS p0 p1 p2 bx3 bx4 hrep1
          generalize replW R F (ks.take c) 0 = S at *
          obtain ⟨SL, sn, se⟩ := S
          generalize replW R F ks 0 = A at *
          obtain ⟨AL, an, ae⟩ := A
          dsimp only at *
          have hls2 : SL.length ≤ F.length + 8 * c := by
            have : (ks.take c).length = c := by simp; omega
            rwa [this] at hls
          clear hls
          go_wp2
          go_region_law (first
            | (go_simp; go_at_call 21; refine hrep2.mono ?_; rintro e w5 ⟨u5, rfl, hv1, hv2, hb5⟩))
          all_goals
            have hb45 : Below w4.heap.size w4 w5 := ((Below.refl _ w4).drew).trans hb5
            have hB5 : Below (w.heap.size + 1) w0 w5 := hB4.trans (hb45.mono (by omega))
            clear hrep2
            by_cases hs : se = 0
            · subst hs
              obtain ⟨hP1, hP2, hP3⟩ := HP1.out rfl
              have ho5 := hv1 rfl
              have HO5 := Lib.hid ho5
              have HLD := Lib.hid (repl_lead R (ks.drop c) SL 0)
              have hdl : (ks.drop c).length ≤ 60 := by simp; omega
              have hTa := repl_at R (ks.drop c) SL 0
              have hz5 := hB5.size
              have bx5 := b0.below hB5 (by omega)
              have d0 := bx5.cell 0
              have d1 := bx5.cell 1
              have d2 := bx5.cell 2
              simp only [List.getElem?_toArray, List.getElem?_cons_zero, List.getElem?_cons_succ] at d0 d1 d2
              have hS5 : RowAt w5.drew u5 SL := (row_own ho5 rfl HIS.out).below (Below.refl _ w5).drew
              have hK5 : RowAt w5.drew (.slice ko ks.length kc) ks := (HK.out.below (by rw [hz0]; exact hB5)).below (Below.refl _ w5).drew
              have hR5 : RulesAt w.heap.size w5.drew (.slice ra R.length rc) R := (HR.out.below (hB5.mono (by omega))).below (Below.refl _ w5).drew
              have hrep3 : ∀ kv, RowAt w5.drew kv (ks.drop c) → Calls Try.prog 21 #[.agg #[.slice ta tl tc, .slice va vl vc, .slice ra R.length rc], u5, kv] w5.drew (ReplR R SL (ks.drop c) w5.drew) := fun kv hk => replay_any w5.drew w.heap.size ta va tl tc vl vc (.slice ra R.length rc) _ _ R SL (ks.drop c) hR5 (by show w.heap.size ≤ w5.heap.size; omega) hS5 hk (by omega) (by omega) H8.out
              unfold ReplR at hrep3
              generalize replW R SL (ks.drop c) 0 = T at *
              obtain ⟨TL, tn, te⟩ := T
              dsimp only at hP1 hP2 hP3 hTa hrep3
              subst hP1 hP2
              have HREP := Lib.hid hrep3
              have HP3 := Lib.hid hP3
              clear hR5 hS5 hrep3 hP3 hv1 hv2 r0 r1 r2
              obtain ⟨so, sc, rfl⟩ := own_len ho5
              clear ho5
              have hsl : ∃ kv, RowAt w5.drew kv (ks.drop c) ∧ ((ko = none ∧ c = 0 ∧ kc = 0 ∧ kv = .slice none 0 0) ∨ (∃ ka, ko = some ka ∧ kc = c ∧ kv = .slice (some ka) (ks.length - c) 0) ∨ (∃ ka, ko = some ka ∧ ¬ kc = c ∧ kv = .slice (some (ka.add c)) (ks.length - c) (kc - c))) := by
                obtain ⟨ko', kc', e, g1, g2, g3, g4, g5⟩ := id hK5
                cases e
                cases ko with
                | none =>
                  have hk0 := g3 rfl
                  subst hk0
                  have hk1 : ks.length = 0 := by omega
                  have hc0 : c = 0 := by omega
                  subst hc0
                  refine ⟨.slice none 0 0, ?_, .inl ⟨rfl, rfl, rfl, rfl⟩⟩
                  rw [hk1] at hK5
                  exact hK5
                | some ka =>
                  have hd := hK5.drop c hcl ka rfl
                  by_cases h1 : kc = c
                  · refine ⟨_, ?_, .inr (.inl ⟨ka, rfl, h1, rfl⟩)⟩
                    have hdn : ks.drop c = [] := List.drop_eq_nil_of_le (by omega)
                    rw [hdn, show ks.length - c = 0 by omega]
                    exact ⟨some ka, 0, rfl, Nat.le_refl _, Nat.zero_le _, fun _ => rfl, by simp, fun i hi => absurd hi (Nat.not_lt_zero _)⟩
                  · exact ⟨_, hd, .inr (.inr ⟨ka, rfl, h1, rfl⟩)⟩
              clear hK5
              obtain ⟨kv, hkv, hcase⟩ := hsl
              have hcall := HREP.out kv hkv
              clear hkv
              rcases hcase with ⟨rfl, rfl, rfl, rfl⟩ | ⟨ka, rfl, hkc, rfl⟩ | ⟨ka, rfl, hkc, rfl⟩
              all_goals go_wp2
              all_goals
                go_region_law (first
                  | (go_simp; go_at_call 21; refine hcall.mono ?_; rintro e w6 ⟨u6, rfl, hx1, hx2, hb6⟩))
              all_goals
                have hb56 : Below w5.heap.size w5 w6 := ((Below.refl _ w5).drew).trans hb6
                have hb46 : Below w4.heap.size w4 w6 := hb45.trans (hb56.mono hb45.size)
                have hB6 : Below (w.heap.size + 1) w0 w6 := hB5.trans (hb56.mono (by omega))
                have hz6 := hB6.size
                clear hcall d0 d1 d2 bx5
                by_cases hte : ae = 0
                · subst hte
                  have hx := hx1 rfl
                  have hu := hu1 rfl
                  have hwu := (word_own hu rfl HIA.out).below hb46
                  have hwx := word_own hx rfl HIA.out
                  have hsm := rsame_self w6 _ _ _ hwu hwx (by omega)
                  have HU := Lib.hid hu
                  obtain ⟨eo, ec, rfl⟩ := own_len hu
                  obtain ⟨xo, xc, rfl⟩ := own_len hx
                  have HLX := HLD.out rfl
                  obtain ⟨X, hX⟩ := HLX
                  try dsimp only at hX
                  clear hx hu hx1 hx2 hu1 hu2 hwu hwx
                  go_wp2_with fail
                  refine hsm.mono ?_
                  rintro e w7 ⟨rfl, hb7⟩
                  have hB7 : Below (w.heap.size + 1) w0 w7 := hB6.trans (hb7.mono (by omega))
                  have hb57 : Below w5.heap.size w5 w7 := hb56.trans (hb7.mono hb56.size)
                  have hrS := (row_own HO5.out rfl HIS.out).below hb57
                  have hl1 := lead_any w7 _ SL hrS (by omega)
                  clear hrS hsm
                  go_wp2_with fail
                  refine hl1.mono ?_
                  rintro e w8 ⟨u8, rfl, ho8, hb8⟩
                  have hz7 := hB7.size
                  have hB8 : Below (w.heap.size + 1) w0 w8 := hB7.trans (hb8.mono (by omega))
                  have hz8 := hB8.size
                  have hb48 : Below w4.heap.size w4 w8 := (hb46.trans (hb7.mono hb46.size)).trans (hb8.mono (by have := hb46.size; have := hb7.size; omega))
                  have hrA := (row_own HU.out rfl HIA.out).below hb48
                  have hl2 := lead_any w8 _ AL hrA (by omega)
                  have HO8 := Lib.hid ho8
                  obtain ⟨y8, c8, rfl⟩ := own_len ho8
                  clear hrA hl1 ho8
                  go_wp2_with fail
                  refine hl2.mono ?_
                  rintro e w9 ⟨u9, rfl, ho9, hb9⟩
                  have hB9 : Below (w.heap.size + 1) w0 w9 := hB8.trans (hb9.mono (by omega))
                  obtain ⟨y9, c9, rfl⟩ := own_len ho9
                  have hnS := neg_in (lead_sub HIS.out)
                  have hnA := neg_in (lead_sub HIA.out)
                  have hls1 := lead_le SL
                  have hw8 : WordAt w9 (.slice y8 (leadW SL).length c8) ((leadW SL).map fun x => -1 - x) := (word_own HO8.out (by simp) hnS).below hb9
                  have hr9 : RowAt w9 (.slice y9 (leadW AL).length c9) ((leadW AL).map fun x => -1 - x) := row_own ho9 (by simp) hnA
                  have hle : (leadW SL).length ≤ (leadW AL).length := by rw [hX]; simp
                  have hw9 : WordAt w9 (.slice y9 (leadW SL).length c9) ((leadW SL).map fun x => -1 - x) := by
                    have hl : ((leadW AL).map fun x => -1 - x).length = (leadW AL).length := by simp
                    rw [← hl] at hr9
                    have h1 := (hr9.take (leadW SL).length (by rw [hl]; exact hle)).word
                    have h2 : ((leadW AL).map fun x => -1 - x).take (leadW SL).length = (leadW SL).map fun x => -1 - x := by
                      rw [hX, List.map_append, List.take_left' (by simp)]
                    rwa [h2] at h1
                  have hsm2 := rsame_self w9 _ _ _ hw8 hw9 (by simp; omega)
                  have hc9 : (leadW AL).length ≤ c9 := by
                    obtain ⟨_, _, e9, h9, _⟩ := hr9
                    injection e9 with _ _ e9
                    rw [e9]
                    simpa using h9
                  have hm9 : c9 ≤ 9223372036854775807 := by
                    obtain ⟨_, _, e9, _, h9, _⟩ := hr9
                    injection e9 with _ _ e9
                    rw [e9]
                    unfold maxLen at h9
                    exact h9
                  have hg1 : (((leadW SL).length : Int) ≤ ((leadW AL).length : Int)) := by omega
                  have hg2 : (((leadW SL).length : Int) ≤ (c9 : Int)) := by omega
                  clear hr9 hw8 hw9 hnS hnA hX ho9 hl2
                  generalize leadW SL = LS at *
                  generalize leadW AL = LA at *
                  go_wp2_with fail
                  refine hsm2.mono ?_
                  rintro e wx ⟨rfl, hbx⟩
                  go_wp2
                  go_ret
                  exact ⟨rfl, hbl.trans ((hB9.trans (hbx.mono (by have := hB9.size; omega))).mono (by omega))⟩
                · obtain rfl := hx2 hte
                  obtain rfl := hu2 hte
                  have hnil : WordAt w6 (.slice none 0 0) [] := ⟨none, 0, rfl, by simp, fun i hi => absurd hi (Nat.not_lt_zero _)⟩
                  have hsm := rsame_self w6 _ _ _ hnil hnil (by simp)
                  have hne2 : (ae != 0) = true := by simpa using hte
                  have hat := HP3.out hte
                  first
                    | have hwa : IntKind.i64.wrap ((c : Int) + (tn : Int)) = (an : Int) := by rw [IntKind.wrap_i64]; omega
                    | (have hwa : IntKind.i64.wrap (0 + (tn : Int)) = (an : Int) := by rw [IntKind.wrap_i64]; omega
                       have hwb : IntKind.i64.wrap (tn : Int) = (an : Int) := by rw [IntKind.wrap_i64]; omega)
                  clear hx1 hx2 hu1 hu2 hnil
                  go_wp2_with fail
                  refine hsm.mono ?_
                  rintro e w7 ⟨rfl, hb7⟩
                  have hB7 : Below (w.heap.size + 1) w0 w7 := hB6.trans (hb7.mono (by omega))
                  go_wp2
                  go_ret
                  exact ⟨rfl, hbl.trans (hB7.mono (by omega))⟩
            · obtain rfl := hv2 hs
              have hA := HP2.out hs
              simp only [Prod.mk.injEq] at hA
              obtain ⟨hA1, hA2, hA3⟩ := hA
              subst hA1 hA2 hA3
              obtain rfl := hu2 hs
              have hne2 : (ae != 0) = true := by simpa using hs
              clear hu1 hu2 hv1 hv2
              go_wp2
              go_ret
              exact ⟨rfl, hbl.trans (hB5.mono (by omega))⟩
      · go_wp2
        go_ret
        exact ⟨rfl, hbl.trans (hB2.mono (by omega))⟩
    · go_wp2
      go_ret
      exact ⟨rfl, hbl.trans (hB2.mono (by omega))⟩
end Go.Proofs.Ytomikgkoegkofaa.dv
