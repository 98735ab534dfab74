import Derived.Test.YtldamieigigncaaGreatDoorVcay
namespace Go.Proofs.YtldamieigigncaaGreatDoor.lx
open Go.ChangeShapes Go.WideShapes Go.ChangeAt Go.RowKit
set_option linter.unusedVariables false
attribute [local go_sem] run_store_float
def ruleB (vn tn L : Nat) (xs : List Int) (b : Bool) : Bool := symOk vn tn L && (decide (xs.length ≤ 24) && (b && !xs.any (fun s => !symOk vn tn s)))
def WtTell (w : World) (F : Nat) (b : Bool) : Prop := ∀ W, Below w.heap.size w W → Calls Tryz.prog 101 #[.float .f64 F] W fun e W' => e = .returned (.bool b) ∧ Below W.heap.size W W'
theorem WtTell.below {w w' : World} {F : Nat} {b : Bool} (h : WtTell w F b) (hb : Below w.heap.size w w') : WtTell w' F b := fun W hW => h W (hb.trans (hW.mono hb.size))
set_option maxRecDepth 100000 in
set_option maxHeartbeats 4000000 in
theorem rightRule_any (w : World) (A : Nat → Prop) (tbo vo ro : Option Addr) (tn tc vn vc rn rc L F : Nat) (ao : Option Addr) (c : Nat) (xs : List Int) (h : IntsAt w A (.slice ao xs.length c) xs) (hx : ∀ x ∈ xs, In64x x) (hL : L < 9223372036854775808) (b : Bool) (hwt : WtTell w F b) : Calls Tryz.prog 77 #[.agg #[.slice tbo tn tc, .slice vo vn vc, .slice ro rn rc], .agg #[.int .i64 L, .slice ao xs.length c, .float .f64 F]] w fun e w' => e = .returned (.bool (ruleB vn tn L xs b)) ∧ Below w.heap.size w w' := by
  have hb1 : Below w.heap.size w ((w.alloc (.cells #[.slice tbo tn tc, .slice vo vn vc, .slice ro rn rc] 26)).alloc (.cells #[.int .i64 L, .slice ao xs.length c, .float .f64 F] 41)) := ((Below.refl _ _).alloc (Nat.le_refl _) _).alloc (by simp) _
  have b1 := (Blk.new w 26 #[.slice tbo tn tc, .slice vo vn vc, .slice ro rn rc]).alloc (.cells #[.int .i64 L, .slice ao xs.length c, .float .f64 F] 41)
  have b2 := Blk.new (w.alloc (.cells #[.slice tbo tn tc, .slice vo vn vc, .slice ro rn rc] 26)) 41 #[.int .i64 L, .slice ao xs.length c, .float .f64 F]
  rw [World.size_alloc] at b2
  have hl := h.1
  unfold maxLen at hl
  have H := Lib.hid h
  have HX := Lib.hid hx
  have HWT := Lib.hid hwt
  have HB1 := Lib.hid hb1
  have hiv : ∀ w, Calls Tryz.prog 20 #[.int .i64 L] w fun e w' => e = .returned (.bool true) ∧ w' = w := fun w => by have := isVar_any L w; rwa [decide_eq_true (by omega)] at this
  have hL64 : In64x L := ⟨by omega, by omega⟩
  generalize hR : ruleB vn tn L xs b = R at *
  have HR := Lib.hid hR
  unfold ruleB at hR
  generalize hn : xs.length = n at *
  have HN := Lib.hid hn
  clear h hx hwt hb1 hn
  go_enter Tryz.func77, Tryz.ntmps77
  go_upto_region 1 with fail
  generalize (w.alloc (.cells #[.slice tbo tn tc, .slice vo vn vc, .slice ro rn rc] 26)).alloc (.cells #[.int .i64 L, .slice ao n c, .float .f64 F] 41) = w1 at *
  have c0 : w1.cell? ⟨w.heap.size + 1, 0, none⟩ = some (.int .i64 L) := b2.cell 0
  have c1 : w1.cell? ⟨w.heap.size + 1, 1, none⟩ = some (.slice ao n c) := b2.cell 1
  have c2 : w1.cell? ⟨w.heap.size + 1, 2, none⟩ = some (.float .f64 F) := b2.cell 2
  have g0 : w1.cell? ⟨w.heap.size, 0, none⟩ = some (.slice tbo tn tc) := b1.cell 0
  have g1 : w1.cell? ⟨w.heap.size, 1, none⟩ = some (.slice vo vn vc) := b1.cell 1
  have g2 : w1.cell? ⟨w.heap.size, 2, none⟩ = some (.slice ro rn rc) := b1.cell 2
  have l1 := b1.lt
  have l2 := b2.lt
  have HK1 := Lib.hid b1
  have HK2 := Lib.hid b2
  have hsy := isSymbol_any w1 tbo vo ro tn tc vn vc rn rc L hL64
  clear b1 b2
  cases hD : symOk vn tn L
  · rw [hD] at hsy hR
    clear hD
    have hR2 : R = false := by rw [← hR]; rfl
    subst hR2
    clear hR
    go_wp2_with fail
    refine (hiv _).mono ?_
    rintro e w2 ⟨rfl, rfl⟩
    go_wp2_with fail
    refine hsy.mono ?_
    rintro e w2 ⟨rfl, hb2⟩
    clear hsy hiv c0 c1 c2 g0 g1 g2 l1 l2
    go_wp2_with fail
    go_ret
    exact ⟨rfl, HB1.out.trans (hb2.mono HB1.out.size)⟩
  · rw [hD, Bool.true_and] at hR
    rw [hD] at hsy
    clear hD
    go_wp2_with fail
    refine (hiv _).mono ?_
    rintro e w2 ⟨rfl, rfl⟩
    go_wp2_with fail
    refine hsy.mono ?_
    rintro e w2 ⟨rfl, hb2⟩
    have k1 := HK1.out.below hb2 l1
    have k2 := HK2.out.below hb2 l2
    have HB2 := Lib.hid (HB1.out.trans (hb2.mono HB1.out.size))
    clear hsy hiv c0 c1 c2 g0 g1 g2 l1 l2 hb2
    have c1 : w2.cell? ⟨w.heap.size + 1, 1, none⟩ = some (.slice ao n c) := k2.cell 1
    have c2 : w2.cell? ⟨w.heap.size + 1, 2, none⟩ = some (.float .f64 F) := k2.cell 2
    have l2 := k2.lt
    have HK1 := Lib.hid k1
    have HK2 := Lib.hid k2
    clear k1 k2
    by_cases h24 : n ≤ 24
    · have hd : decide ((24 : Int) < (n : Int)) = false := decide_eq_false (by omega)
      rw [decide_eq_true h24, Bool.true_and] at hR
      have hwt2 := HWT.out w2 HB2.out
      clear h24
      cases hb : b
      · rw [hb] at hwt2 hR
        clear hb
        have hR2 : R = false := by rw [← hR]; rfl
        subst hR2
        clear hR
        go_wp2_with fail
        refine hwt2.mono ?_
        rintro e w3 ⟨rfl, hb3⟩
        clear hwt2 c1 c2 l2
        go_wp2_with fail
        go_ret
        exact ⟨rfl, HB2.out.trans (hb3.mono HB2.out.size)⟩
      · rw [hb] at hwt2
        rw [hb, Bool.true_and] at hR
        clear hb
        go_wp2_with fail
        refine hwt2.mono ?_
        rintro e w3 ⟨rfl, hb3⟩
        have k1 := HK1.out.below hb3 HK1.out.lt
        have k2 := HK2.out.below hb3 HK2.out.lt
        have HB3 := Lib.hid (HB2.out.trans (hb3.mono HB2.out.size))
        clear hwt2 c1 c2 l2 hb3
        have c1 : w3.cell? ⟨w.heap.size + 1, 1, none⟩ = some (.slice ao n c) := k2.cell 1
        have l2 := k2.lt
        have hct := containsFI_any w3 A (.slice ao n c) xs 103 #[.pointer (some ⟨w.heap.size, 0, none⟩)] (fun s => !symOk vn tn s) In64x goes_rightRule (fun x W hx hW => rightRule1_any W w.heap.size tbo vo ro tn tc vn vc rn rc x hx (k1.below hW k1.lt)) (H.out.keep keepsInt (fun g hg hA => ⟨hA, HB3.out.block g hg⟩) HB3.out.size) HX.out
        clear k1 k2
        generalize (xs.any fun s => !symOk vn tn s) = D at *
        go_wp2_with fail
        refine hct.mono ?_
        rintro e w4 ⟨rfl, hb4⟩
        clear hct c1 l2
        go_wp2_with fail
        go_ret
        exact ⟨by rw [← hR]; rfl, HB3.out.trans (hb4.mono HB3.out.size)⟩
    · have hd : decide ((24 : Int) < (n : Int)) = true := decide_eq_true (by omega)
      rw [decide_eq_false h24] at hR
      have hR2 : R = false := by rw [← hR]; rfl
      subst hR2
      clear hR h24
      go_wp2_with fail
      go_ret
      exact ⟨rfl, HB2.out⟩
def RulesOk (vn tn : Nat) (wb : Nat → Bool) (rs : List Rl) : Prop := SortedL rs ∧ (∀ v, v < vn → ∃ r ∈ rs, r.1 = v) ∧ ∀ (k : Nat) (r : Rl), rs[k]? = some r → ruleB vn tn r.1 r.2.1 (wb r.2.2) = true ∧ ((rs.take k).any fun q => q.1 == r.1 && q.2.1 == r.2.1) = false
def RulesIn64 (rs : List Rl) : Prop := ∀ r ∈ rs, r.1 < 9223372036854775808 ∧ ∀ x ∈ r.2.1, In64x x
set_option maxRecDepth 100000 in
set_option maxHeartbeats 8000000 in
theorem rightRules_any (w : World) (A : Nat → Prop) (tbo vo ro : Option Addr) (tn tc vn vc rc : Nat) (rs : List Rl) (wb : Nat → Bool) (h : ListOf 3 ERul w A (.slice ro rs.length rc) rs) (hc : rs.length ≤ rc) (hin : RulesIn64 rs) (hvn : vn ≤ 64) (hrn : rs.length ≤ 256) (hwt : ∀ r ∈ rs, WtTell w r.2.2 (wb r.2.2)) : Calls Tryz.prog 47 #[.agg #[.slice tbo tn tc, .slice vo vn vc, .slice ro rs.length rc]] w fun e w' => TellB (RulesOk vn tn wb rs) e ∧ Below w.heap.size w w' := by
  have hb1 : Below w.heap.size w (w.alloc (.cells #[.slice tbo tn tc, .slice vo vn vc, .slice ro rs.length rc] 26)) := (Below.refl _ _).alloc (Nat.le_refl _) _
  have b1 := Blk.new w 26 #[.slice tbo tn tc, .slice vo vn vc, .slice ro rs.length rc]
  have H := Lib.hid h
  have HIN := Lib.hid hin
  have HWT := Lib.hid hwt
  have HB1 := Lib.hid hb1
  have hso := sortedR_any (w.alloc (.cells #[.slice tbo tn tc, .slice vo vn vc, .slice ro rs.length rc] 26)) A (.slice ro rs.length rc) rs (h.keep keepsRul (fun g hg hA => ⟨hA, hb1.block g hg⟩) hb1.size)
  generalize hn : rs.length = n at *
  have HN := Lib.hid hn
  clear h hin hwt hb1 hn
  go_enter Tryz.func47, Tryz.ntmps47
  go_upto_region 1 with fail
  generalize w.alloc (.cells #[.slice tbo tn tc, .slice vo vn vc, .slice ro n rc] 26) = w1 at *
  have g2 : w1.cell? ⟨w.heap.size, 2, none⟩ = some (.slice ro n rc) := b1.cell 2
  have l1 := b1.lt
  have HK1 := Lib.hid b1
  clear b1
  go_wp2_with fail
  refine hso.mono ?_
  rintro e w2 ⟨⟨bs, rfl, hbs⟩, hb2⟩
  have HBS := Lib.hid hbs
  have HB2 := Lib.hid (HB1.out.trans (hb2.mono HB1.out.size))
  have k1 := HK1.out.below hb2 l1
  clear hso g2 l1 hbs hb2 HB1 HK1
  cases bs with
  | false =>
    clear k1
    go_wp2_with fail
    go_ret
    exact ⟨TellB.no (fun hh => by have := HBS.out.2 hh.1; cases this), HB2.out⟩
  | true =>
    have HS := Lib.hid (HBS.out.1 rfl)
    clear HBS
    have g1 : w2.cell? ⟨w.heap.size, 1, none⟩ = some (.slice vo vn vc) := k1.cell 1
    have l1 := k1.lt
    have HK1 := Lib.hid k1
    clear k1
    go_wp2_with fail
    clear g1 l1
    go_loopw [15] (fun q wr => ∃ v : Nat, q = .int .i64 v ∧ v ≤ vn ∧ (∀ u, u < v → ∃ r ∈ rs, r.1 = u) ∧ Below w.heap.size w wr ∧ Blk wr w.heap.size 26 #[.slice tbo tn tc, .slice vo vn vc, .slice ro n rc]) (fun q _ => vn - (intOf q).toNat)
    case atStart => exact ⟨0, rfl, Nat.zero_le _, fun u h => by omega, HB2.out, HK1.out⟩
    case round =>
      clear HB2 HK1
      obtain ⟨v, rfl, hv, hno, hbr, hkr⟩ := hrel
      have HNO := Lib.hid hno
      have HBR := Lib.hid hbr
      have HKR := Lib.hid hkr
      by_cases hlt : v < vn
      · have hru := rules_any wr A tbo vo ro tn tc vn vc rc rs v (by rw [HN.out]; exact H.out.keep keepsRul (fun g hg hA => ⟨hA, hbr.block g hg⟩) hbr.size) HS.out (by rw [HN.out]; omega)
        rw [HN.out] at hru
        have g0 : wr.cell? ⟨w.heap.size, 0, none⟩ = some (.slice tbo tn tc) := hkr.cell 0
        have g1 : wr.cell? ⟨w.heap.size, 1, none⟩ = some (.slice vo vn vc) := hkr.cell 1
        have g2 : wr.cell? ⟨w.heap.size, 2, none⟩ = some (.slice ro n rc) := hkr.cell 2
        have l1 := hkr.lt
        have hsm := rules_same rs v
        generalize fromR rs v = fr at *
        generalize toR rs v = to_ at *
        have HSM := Lib.hid hsm
        clear hno hbr hkr hsm
        by_cases hft : fr = to_
        · have hd : ((fr : Int) == (to_ : Int)) = true := by rw [beq_iff_eq]; omega
          have HF := Lib.hid hft
          clear hft
          go_wp2_with fail
          refine hru.mono ?_
          rintro e w3 ⟨rfl, hb3⟩
          clear hru g0 g1 g2 l1
          go_wp2_with fail
          go_ret
          exact ⟨TellB.no (fun hh => by
            obtain ⟨r, hr, e⟩ := hh.2.1 v hlt
            exact HSM.out.1 HF.out r hr (by omega)), HBR.out.trans (hb3.mono HBR.out.size)⟩
        · have hd : ((fr : Int) == (to_ : Int)) = false := by rw [beq_eq_false_iff_ne]; omega
          have HF := Lib.hid hft
          clear hft
          go_wp2_with fail
          refine hru.mono ?_
          rintro e w3 ⟨rfl, hb3⟩
          have HB3 := Lib.hid hb3
          clear hru g0 g1 g2 l1 hb3
          go_wp2_with fail
          refine ⟨⟨v + 1, by go_num, hlt, fun u hu => ?_, HBR.out.trans (HB3.out.mono HBR.out.size), HKR.out.below HB3.out HKR.out.lt⟩, by simp only [intOf]; omega⟩
          by_cases huv : u < v
          · exact HNO.out u huv
          · obtain rfl : u = v := by omega
            have hex : ¬ ∀ r ∈ rs, (r.1 : Int) ≠ (u : Int) := fun hh => HF.out (HSM.out.2 hh)
            rw [Classical.not_forall] at hex
            obtain ⟨r, hr⟩ := hex
            rw [Classical.not_imp] at hr
            exact ⟨r, hr.1, by have := hr.2; omega⟩
      · obtain rfl : v = vn := by omega
        have g2 : wr.cell? ⟨w.heap.size, 2, none⟩ = some (.slice ro n rc) := hkr.cell 2
        have l1 := hkr.lt
        clear hno hbr hkr
        go_wp2_with fail
        clear g2 l1
        obtain ⟨wo, hwo⟩ : ∃ wo : World, wo = wr := ⟨_, rfl⟩
        go_loopw [31] (fun q w3 => ∃ k : Nat, q = .int .i64 k ∧ k ≤ n ∧ (∀ (j : Nat) (r : Rl), j < k → rs[j]? = some r → ruleB v tn r.1 r.2.1 (wb r.2.2) = true ∧ ((rs.take j).any fun q => q.1 == r.1 && q.2.1 == r.2.1) = false) ∧ Below w.heap.size w w3 ∧ Blk w3 w.heap.size 26 #[.slice tbo tn tc, .slice vo v vc, .slice ro n rc]) (fun q _ => n - (intOf q).toNat)
        case atStart => exact ⟨0, rfl, Nat.zero_le _, fun j r h => by omega, HBR.out, HKR.out⟩
        case round =>
          clear HBR HKR hwo
          obtain ⟨k, rfl, hk, hok, hbr, hkr⟩ := hrel
          have HOK := Lib.hid hok
          have HBR := Lib.hid hbr
          have HKR := Lib.hid hkr
          by_cases hltk : k < n
          · obtain ⟨r, hr⟩ : ∃ r, rs[k]? = some r := ⟨_, List.getElem?_eq_getElem (by rw [HN.out]; exact hltk)⟩
            have hlk := H.out.keep (w' := wr) (A' := A) keepsRul (fun g hg hA => ⟨hA, hbr.block g hg⟩) hbr.size
            obtain ⟨g, cap', u, e, hg1, hc0, hc1, hc2, hu⟩ := ERul.at hlk hr
            injection e with e3 h5 h6
            subst e3
            clear h5 h6
            obtain ⟨uo, uc, rfl⟩ := ListOf.form hu
            have HR := Lib.hid hr
            have HLK := Lib.hid hlk
            have HU := Lib.hid hu
            obtain ⟨q1, q2⟩ := HIN.out r (List.mem_of_getElem? hr)
            have HWR := Lib.hid ((HWT.out r (List.mem_of_getElem? hr)).below hbr)
            have HQ2 := Lib.hid q2
            clear hok hlk hu hr q2
            obtain ⟨r1, r2, r3⟩ := r
            simp only at hc0 hc1 hc2 q1 HWR HQ2 HU
            generalize hr2 : r2.length = rl at *
            have HRL := Lib.hid hr2
            clear hr2 hbr
            go_upto_region 13 with fail
            have b4 := Blk.new wr 41 #[.int .i64 r1, .slice uo rl uc, .float .f64 r3]
            have hb4 : Below wr.heap.size wr (wr.alloc (.cells #[.int .i64 r1, .slice uo rl uc, .float .f64 r3] 41)) := (Below.refl _ _).alloc (Nat.le_refl _) _
            have hk4 := hkr.below hb4 hkr.lt
            have hlt4 := Nat.lt_of_lt_of_le hkr.lt hb4.size
            clear hc0 hc1 hc2 hg1 hkr
            generalize wr.alloc (.cells #[.int .i64 r1, .slice uo rl uc, .float .f64 r3] 41) = w4 at *
            generalize hzb : wr.heap.size = zb at *
            have HZB := Lib.hid hzb
            have hb4b : Below wr.heap.size wr w4 := by rw [HZB.out]; exact hb4
            have HB4 := Lib.hid (HBR.out.trans (hb4b.mono HBR.out.size))
            have HLK4 := Lib.hid (HLK.out.keep (w' := w4) (A' := A) keepsRul (fun g hg hA => ⟨hA, hb4b.block g hg⟩) hb4b.size)
            have HU4 := Lib.hid (HU.out.keep (w' := w4) (A' := A) keepsInt (fun g hg hA => ⟨hA, hb4b.block g hg⟩) hb4b.size)
            have HWR4 := Lib.hid (HWR.out.below hb4b)
            have HK4 := Lib.hid hk4
            have HQ4 := Lib.hid b4
            have g0 : w4.cell? ⟨w.heap.size, 0, none⟩ = some (.slice tbo tn tc) := hk4.cell 0
            have g1 : w4.cell? ⟨w.heap.size, 1, none⟩ = some (.slice vo v vc) := hk4.cell 1
            have g2 : w4.cell? ⟨w.heap.size, 2, none⟩ = some (.slice (some ⟨g, 0, none⟩) n rc) := hk4.cell 2
            have d0 : w4.cell? ⟨zb, 0, none⟩ = some (.int .i64 r1) := b4.cell 0
            have d1 : w4.cell? ⟨zb, 1, none⟩ = some (.slice uo rl uc) := b4.cell 1
            have d2 : w4.cell? ⟨zb, 2, none⟩ = some (.float .f64 r3) := b4.cell 2
            have lg := hk4.lt
            have ld := b4.lt
            clear b4 hb4 hb4b hk4 hzb HZB HLK HU HWR HBR HKR
            have hkc : k ≤ rc := by omega
            refine wp_region_E (fun W => Below w4.heap.size w4 W) [] (by kernel_rfl) ?_
            change anyE _ _ _ _ _ _ _ _ _ (World.drew _)
            have HS : Below w4.heap.size w4 (World.drew w4) := (Below.refl _ _).drew
            refine anyE_take (i := 0) (v := ?_) rfl (by kernel_rfl) (by kernel_rfl) (by kernel_rfl) (by kernel_rfl) (by kernel_rfl) (fun _ _ _ h => h) (Or.inl ⟨by kernel_rfl, ?_⟩) HS ?_
            rotate_left
            focus (intro wq hw; have h0 := (hw.cell (p := ⟨w.heap.size, 0, none⟩) lg).trans g0; have h1 := (hw.cell (p := ⟨w.heap.size, 1, none⟩) lg).trans g1; have h2 := (hw.cell (p := ⟨w.heap.size, 2, none⟩) lg).trans g2; go_simp; with_reducible rfl)
            refine anyE_take (i := 1) (v := ?_) rfl (by kernel_rfl) (by kernel_rfl) (by kernel_rfl) (by kernel_rfl) (by kernel_rfl) (fun _ _ _ h => h) (Or.inl ⟨by kernel_rfl, ?_⟩) HS ?_
            rotate_left
            focus (intro wq hw; have h0 := (hw.cell (p := ⟨zb, 0, none⟩) ld).trans d0; have h1 := (hw.cell (p := ⟨zb, 1, none⟩) ld).trans d1; have h2 := (hw.cell (p := ⟨zb, 2, none⟩) ld).trans d2; go_simp; with_reducible rfl)
            simp only [Act.put, List.setIfInBounds_toArray, List.set_cons_succ, List.set_cons_zero, List.getElem_toArray, List.getElem_cons_succ, List.getElem_cons_zero]
            have hrr := fun (W : World) (hW : Below w4.heap.size w4 W) => rightRule_any W A tbo vo (some ⟨g, 0, none⟩) tn tc v vc n rc r1 r3 uo uc r2 (by rw [HRL.out]; exact HU4.out.keep keepsInt (fun g hg hA => ⟨hA, hW.block g hg⟩) hW.size) HQ2.out q1 (wb r3) (HWR4.out.below hW)
            rw [HRL.out] at hrr
            cases hq : ruleB v tn r1 r2 (wb r3)
            · rw [hq] at hrr
              have HQ := Lib.hid hq
              have HRR := Lib.hid hrr
              clear hq hrr
              refine anyE_ready (rs := [2]) (by kernel_rfl) (by simp) ?_
              refine ReadyE.cons rfl (by kernel_rfl) (fun K hK => ?_) ReadyE.nil
              go_simp
              refine (HRR.out _ HS).mono ?_
              rintro e w5 ⟨rfl, hb5⟩
              have HS5 := HS.trans (hb5.mono HS.size)
              refine hK.out _ _ (fun _ => HS5) ?_
              clear hK K
              clear hb5
              refine anyE_take (i := 3) (v := ?_) rfl (by kernel_rfl) (by kernel_rfl) (by kernel_rfl) (by kernel_rfl) (by kernel_rfl) (fun _ _ _ h => h) (Or.inl ⟨by kernel_rfl, ?_⟩) HS5 ?_
              rotate_left
              focus (intro wq _; go_simp; first | with_reducible rfl | (rw [if_pos (by omega)]; first | done | with_reducible rfl) | (rw [if_neg (by omega)]; first | done | with_reducible rfl))
              refine anyE_take (i := 4) (v := ?_) rfl (by kernel_rfl) (by kernel_rfl) (by kernel_rfl) (by kernel_rfl) (by kernel_rfl) (fun _ _ _ h => h) (Or.inl ⟨by kernel_rfl, ?_⟩) HS5 ?_
              rotate_left
              focus (intro wq _; go_simp; first | with_reducible rfl | (rw [if_pos (by omega)]; first | done | with_reducible rfl) | (rw [if_neg (by omega)]; first | done | with_reducible rfl))
              refine anyE_take (i := 5) (v := undef) rfl (by kernel_rfl) (by kernel_rfl) (by kernel_rfl) (by kernel_rfl) (by kernel_rfl) (fun _ _ _ h => h) (Or.inr ⟨by kernel_rfl, rfl⟩) HS5 ?_
              refine anyE_take (i := 6) (v := undef) rfl (by kernel_rfl) (by kernel_rfl) (by kernel_rfl) (by kernel_rfl) (by kernel_rfl) (fun _ _ _ h => h) (Or.inr ⟨by kernel_rfl, rfl⟩) HS5 ?_
              refine anyE_take (i := 7) (v := undef) rfl (by kernel_rfl) (by kernel_rfl) (by kernel_rfl) (by kernel_rfl) (by kernel_rfl) (fun _ _ _ h => h) (Or.inr ⟨by kernel_rfl, rfl⟩) HS5 ?_
              refine anyE_take (i := 8) (v := undef) rfl (by kernel_rfl) (by kernel_rfl) (by kernel_rfl) (by kernel_rfl) (by kernel_rfl) (fun _ _ _ h => h) (Or.inr ⟨by kernel_rfl, rfl⟩) HS5 ?_
              refine anyE_take (i := 9) (v := undef) rfl (by kernel_rfl) (by kernel_rfl) (by kernel_rfl) (by kernel_rfl) (by kernel_rfl) (fun _ _ _ h => h) (Or.inr ⟨by kernel_rfl, rfl⟩) HS5 ?_
              refine anyE_take (i := 10) (v := undef) rfl (by kernel_rfl) (by kernel_rfl) (by kernel_rfl) (by kernel_rfl) (by kernel_rfl) (fun _ _ _ h => h) (Or.inr ⟨by kernel_rfl, rfl⟩) HS5 ?_
              refine anyE_take (i := 11) (v := undef) rfl (by kernel_rfl) (by kernel_rfl) (by kernel_rfl) (by kernel_rfl) (by kernel_rfl) (fun _ _ _ h => h) (Or.inr ⟨by kernel_rfl, rfl⟩) HS5 ?_
              refine anyE_take (i := 12) (v := undef) rfl (by kernel_rfl) (by kernel_rfl) (by kernel_rfl) (by kernel_rfl) (by kernel_rfl) (fun _ _ _ h => h) (Or.inr ⟨by kernel_rfl, rfl⟩) HS5 ?_
              refine anyE_take (i := 13) (v := undef) rfl (by kernel_rfl) (by kernel_rfl) (by kernel_rfl) (by kernel_rfl) (by kernel_rfl) (fun _ _ _ h => h) (Or.inr ⟨by kernel_rfl, rfl⟩) HS5 ?_
              refine anyE_take (i := 14) (v := ?_) rfl (by kernel_rfl) (by kernel_rfl) (by kernel_rfl) (by kernel_rfl) (by kernel_rfl) (fun _ _ _ h => h) (Or.inl ⟨by kernel_rfl, ?_⟩) HS5 ?_
              rotate_left
              focus (intro wq _; go_simp; first | with_reducible rfl | (rw [if_pos (by omega)]; first | done | with_reducible rfl) | (rw [if_neg (by omega)]; first | done | with_reducible rfl))
              refine anyE_done (by kernel_rfl) ?_ _
              simp only [Act.put, List.setIfInBounds_toArray, List.set_cons_succ, List.set_cons_zero, List.getElem_toArray, List.getElem_cons_succ, List.getElem_cons_zero]
              have HZ := Lib.hid (HB4.out.trans (HS5.mono HB4.out.size))
              clear g0 g1 g2 d0 d1 d2 lg ld HS HS5
              go_wp2_with fail
              go_ret
              exact ⟨TellB.no (fun hh => by
                have := (hh.2.2 k (r1, r2, r3) HR.out).1
                rw [HQ.out] at this
                cases this), HZ.out⟩
            · rw [hq] at hrr
              have HQ := Lib.hid hq
              have HRR := Lib.hid hrr
              clear hq hrr
              refine anyE_ready (rs := [2]) (by kernel_rfl) (by simp) ?_
              refine ReadyE.cons rfl (by kernel_rfl) (fun K hK => ?_) ReadyE.nil
              go_simp
              refine (HRR.out _ HS).mono ?_
              rintro e w5 ⟨rfl, hb5⟩
              have HS5 := HS.trans (hb5.mono HS.size)
              refine hK.out _ _ (fun _ => HS5) ?_
              clear hK K
              clear hb5
              refine anyE_take (i := 3) (v := ?_) rfl (by kernel_rfl) (by kernel_rfl) (by kernel_rfl) (by kernel_rfl) (by kernel_rfl) (fun _ _ _ h => h) (Or.inl ⟨by kernel_rfl, ?_⟩) HS5 ?_
              rotate_left
              focus (intro wq _; go_simp; first | with_reducible rfl | (rw [if_pos (by omega)]; first | done | with_reducible rfl) | (rw [if_neg (by omega)]; first | done | with_reducible rfl))
              refine anyE_take (i := 4) (v := ?_) rfl (by kernel_rfl) (by kernel_rfl) (by kernel_rfl) (by kernel_rfl) (by kernel_rfl) (fun _ _ _ h => h) (Or.inl ⟨by kernel_rfl, ?_⟩) HS5 ?_
              rotate_left
              focus (intro wq _; go_simp; first | with_reducible rfl | (rw [if_pos (by omega)]; first | done | with_reducible rfl) | (rw [if_neg (by omega)]; first | done | with_reducible rfl))
              simp only [Act.put, List.setIfInBounds_toArray, List.set_cons_succ, List.set_cons_zero, List.getElem_toArray, List.getElem_cons_succ, List.getElem_cons_zero]
              refine anyE_take (i := 5) (v := ?_) rfl (by kernel_rfl) (by kernel_rfl) (by kernel_rfl) (by kernel_rfl) (by kernel_rfl) (fun _ _ _ h => h) (Or.inl ⟨by kernel_rfl, ?_⟩) HS5 ?_
              rotate_left
              focus (intro wq _; go_simp; first | with_reducible rfl | (rw [if_pos (by omega)]; first | done | with_reducible rfl) | (rw [if_neg (by omega)]; first | done | with_reducible rfl))
              refine anyE_take (i := 6) (v := ?_) rfl (by kernel_rfl) (by kernel_rfl) (by kernel_rfl) (by kernel_rfl) (by kernel_rfl) (fun _ _ _ h => h) (Or.inl ⟨by kernel_rfl, ?_⟩) HS5 ?_
              rotate_left
              focus (intro wq hw; have hw := (hw.cell (p := ⟨w.heap.size, 2, none⟩) lg).trans g2; go_simp; with_reducible rfl)
              refine anyE_take (i := 7) (v := ?_) rfl (by kernel_rfl) (by kernel_rfl) (by kernel_rfl) (by kernel_rfl) (by kernel_rfl) (fun _ _ _ h => h) (Or.inl ⟨by kernel_rfl, ?_⟩) HS5 ?_
              rotate_left
              focus (intro wq _; go_simp; first | with_reducible rfl | (rw [if_pos (by omega)]; first | done | with_reducible rfl) | (rw [if_neg (by omega)]; first | done | with_reducible rfl))
              refine anyE_take (i := 8) (v := ?_) rfl (by kernel_rfl) (by kernel_rfl) (by kernel_rfl) (by kernel_rfl) (by kernel_rfl) (fun _ _ _ h => h) (Or.inl ⟨by kernel_rfl, ?_⟩) HS5 ?_
              rotate_left
              focus (intro wq _; go_simp; first | with_reducible rfl | (rw [if_pos (by omega)]; first | done | with_reducible rfl) | (rw [if_neg (by omega)]; first | done | with_reducible rfl))
              refine anyE_take (i := 9) (v := ?_) rfl (by kernel_rfl) (by kernel_rfl) (by kernel_rfl) (by kernel_rfl) (by kernel_rfl) (fun _ _ _ h => h) (Or.inl ⟨by kernel_rfl, ?_⟩) HS5 ?_
              rotate_left
              focus (intro wq _; go_simp; first | with_reducible rfl | (rw [if_pos (by omega)]; first | done | with_reducible rfl) | (rw [if_neg (by omega)]; first | done | with_reducible rfl))
              refine anyE_take (i := 10) (v := ?_) rfl (by kernel_rfl) (by kernel_rfl) (by kernel_rfl) (by kernel_rfl) (by kernel_rfl) (fun _ _ _ h => h) (Or.inl ⟨by kernel_rfl, ?_⟩) HS5 ?_
              rotate_left
              focus (intro wq hw; have hw := (hw.cell (p := ⟨zb, 0, none⟩) ld).trans d0; go_simp; with_reducible rfl)
              refine anyE_take (i := 11) (v := ?_) rfl (by kernel_rfl) (by kernel_rfl) (by kernel_rfl) (by kernel_rfl) (by kernel_rfl) (fun _ _ _ h => h) (Or.inl ⟨by kernel_rfl, ?_⟩) HS5 ?_
              rotate_left
              focus (intro wq _; go_simp; first | with_reducible rfl | (rw [if_pos (by omega)]; first | done | with_reducible rfl) | (rw [if_neg (by omega)]; first | done | with_reducible rfl))
              refine anyE_take (i := 12) (v := ?_) rfl (by kernel_rfl) (by kernel_rfl) (by kernel_rfl) (by kernel_rfl) (by kernel_rfl) (fun _ _ _ h => h) (Or.inl ⟨by kernel_rfl, ?_⟩) HS5 ?_
              rotate_left
              focus (intro wq hw; have hw := (hw.cell (p := ⟨zb, 1, none⟩) ld).trans d1; go_simp; with_reducible rfl)
              simp only [Act.put, List.setIfInBounds_toArray, List.set_cons_succ, List.set_cons_zero, List.getElem_toArray, List.getElem_cons_succ, List.getElem_cons_zero]
              have hhr := fun (W : World) (hW : Below w4.heap.size w4 W) => hasRule_any W A A (.slice (some ⟨g, 0, none⟩) k rc) (rs.take k) r1 uo r2 uc (ListOf.cut (by rw [HN.out]; exact HLK4.out.keep keepsRul (fun g hg hA => ⟨hA, hW.block g hg⟩) hW.size) k (by rw [HN.out]; omega)) (by rw [HRL.out]; exact HU4.out.keep keepsInt (fun g hg hA => ⟨hA, hW.block g hg⟩) hW.size)
              rw [HRL.out] at hhr
              generalize hD : ((rs.take k).any fun q => q.1 == r1 && q.2.1 == r2) = D at *
              have HD := Lib.hid hD
              have HHR := Lib.hid hhr
              clear hD hhr
              refine anyE_ready (rs := [13]) (by kernel_rfl) (by simp) ?_
              refine ReadyE.cons rfl (by kernel_rfl) (fun K hK => ?_) ReadyE.nil
              go_simp
              refine (HHR.out _ HS5).mono ?_
              rintro e w6 ⟨rfl, hb6⟩
              have HS6 := HS5.trans (hb6.mono HS5.size)
              refine hK.out _ _ (fun _ => HS6) ?_
              clear hK K
              clear hb6
              refine anyE_take (i := 14) (v := ?_) rfl (by kernel_rfl) (by kernel_rfl) (by kernel_rfl) (by kernel_rfl) (by kernel_rfl) (fun _ _ _ h => h) (Or.inl ⟨by kernel_rfl, ?_⟩) HS6 ?_
              rotate_left
              focus (intro wq _; go_simp; first | with_reducible rfl | (rw [if_pos (by omega)]; first | done | with_reducible rfl) | (rw [if_neg (by omega)]; first | done | with_reducible rfl))
              refine anyE_done (by kernel_rfl) ?_ _
              simp only [Act.put, List.setIfInBounds_toArray, List.set_cons_succ, List.set_cons_zero, List.getElem_toArray, List.getElem_cons_succ, List.getElem_cons_zero]
              have HZ := Lib.hid (HB4.out.trans (HS6.mono HB4.out.size))
              have HKZ := Lib.hid (HK4.out.below HS6 HK4.out.lt)
              clear g0 g1 g2 d0 d1 d2 lg ld HS HS5 HS6
              cases D with
              | true =>
                go_wp2_with fail
                go_ret
                exact ⟨TellB.no (fun hh => by
                  have := (hh.2.2 k (r1, r2, r3) HR.out).2
                  rw [show ((rs.take k).any fun q => q.1 == r1 && q.2.1 == r2) = true from HD.out] at this
                  cases this), HZ.out⟩
              | false =>
                go_wp2_with fail
                refine ⟨⟨k + 1, by go_num, hltk, fun j r hj hrj => ?_, HZ.out, HKZ.out⟩, by simp only [intOf]; omega⟩
                by_cases hjk : j < k
                · exact HOK.out j r hjk hrj
                · obtain rfl : j = k := by omega
                  have e := Option.some.inj (hrj.symm.trans HR.out)
                  subst e
                  exact ⟨HQ.out, HD.out⟩
          · obtain rfl : k = n := by omega
            clear hok hbr hkr
            go_wp2_with fail
            go_ret
            exact ⟨TellB.yes ⟨HS.out, HNO.out, fun j r hj => HOK.out j r (by have := (List.getElem?_eq_some_iff.1 hj).1; have := HN.out; omega) hj⟩, HBR.out⟩
end Go.Proofs.YtldamieigigncaaGreatDoor.lx

