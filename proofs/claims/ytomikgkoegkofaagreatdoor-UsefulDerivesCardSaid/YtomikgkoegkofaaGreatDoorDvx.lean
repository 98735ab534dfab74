import Derived.Test.YtomikgkoegkofaaGreatDoorDvu
import Derived.Test.YtomikgkoegkofaaGreatDoorDvw
import Derived.Test.YtomikgkoegkofaaGreatDoorDvy
namespace Go.Proofs.YtomikgkoegkofaaGreatDoor.dv
open Go.ChangeShapes Go.WideShapes Go.ChangeAt Go.RowKit Go.Maps Go.WideMaps Go.WideElems
set_option linter.unusedVariables false
set_option linter.unusedSimpArgs false
/-! whether a grammar is right: it is answered -/
set_option maxRecDepth 100000 in
set_option maxHeartbeats 2000000 in
theorem right_yes (w : World) (B : Nat) (ta va ra : Option Addr) (tl tc vl vc rc : Nat) (R : List Rl) (hR : RulesAt B w (.slice ra R.length rc) R) (hT : StrsAt B w ta tl) (hV : StrsAt B w va vl) (hB : B ≤ w.heap.size) (hn : R.length ≤ 24) (ht : tl ≤ 6) (hv : vl ≤ 8) (h8 : ∀ r ∈ R, r.right.length ≤ 8) :
    Calls Tryz.prog 8 #[.agg #[.slice ta tl tc, .slice va vl vc, .slice ra R.length rc]] w (AnsIf (1 ≤ vl ∧ ∀ r ∈ R, RlOk tl vl r) w) := by
  have b0 := Blk.new w 25 #[.slice ta tl tc, .slice va vl vc, .slice ra R.length rc]
  have hbl : Below w.heap.size w (w.alloc (.cells #[.slice ta tl tc, .slice va vl vc, .slice ra R.length rc] 25)) := below_lit _ _ _
  have hR1 := hR.below (hbl.mono hB)
  have hT1 := hT.below (hbl.mono hB)
  have hV1 := hV.below (hbl.mono hB)
  generalize hW0 : w.alloc (.cells #[.slice ta tl tc, .slice va vl vc, .slice ra R.length rc] 25) = w0 at *
  have hz0 : w0.heap.size = w.heap.size + 1 := by rw [← hW0]; simp
  have d0 := b0.cell 0
  have d1 := b0.cell 1
  have d2 := b0.cell 2
  simp only [List.getElem?_toArray, List.getElem?_cons_zero, List.getElem?_cons_succ] at d0 d1 d2
  have HR := Lib.hid hR1
  have HT := Lib.hid hT1
  have HV := Lib.hid hV1
  have H8 := Lib.hid h8
  clear hR hT hV hR1 hT1 hV1 h8
  by_cases hv1 : 1 ≤ vl
  · go_enter Tryz.func8, Tryz.ntmps8
    go_wp2
    go_loopw [3] (fun i wr => ∃ k : Nat, k ≤ vl ∧ i = .int .i64 k ∧ Qt w0 wr) (fun i _ => vl - (intOf i).toNat)
    case atStart => exact ⟨0, Nat.zero_le _, rfl, 0, rfl⟩
    case round =>
      obtain ⟨k, hk, rfl, hqt⟩ := hrel
      have f0 := (hqt.cell _).trans d0
      have f1 := (hqt.cell _).trans d1
      have f2 := (hqt.cell _).trans d2
      have hbw : Below w.heap.size w wr := hbl.trans (hqt.below.mono (by omega))
      by_cases hlt : k < vl
      · obtain ⟨a, s, rfl, hab, hc0, hs⟩ := HV.out k hlt
        have hc := (hqt.cell _).trans hc0
        obtain ⟨b, hb⟩ := isName_det s hs
        obtain ⟨x, hx⟩ := place_det w0 B (some a) vl vc s hs hv HV.out
        have HBN := Lib.hid hb
        have HX2 : ∀ n, Calls Tryz.prog 26 #[.slice (some a) vl vc, .string s] (wr.drewN n) fun e w' => e = .returned (.int .i64 x) ∧ w' = wr.drewN n := fun n => by
          obtain ⟨m, rfl⟩ := hqt
          rw [drewN_add]
          exact hx (m + n)
        have HX := Lib.hid HX2
        have HQ := Lib.hid hqt
        clear hb hx HX2 hqt hc0
        cases b
        · go_wp2
          go_quiet ((go_at_call 25; exact Calls.quiet_of_same ((HBN.out _).mono fun _ _ h => ⟨h.1, h.2⟩)))
          go_wp2
          go_ret
          exact ⟨_, rfl, (fun h => by cases h), below_drewN hbw _⟩
        · go_wp2
          go_quiet ((first | (go_at_call 25; exact Calls.quiet_of_same ((HBN.out _).mono fun _ _ h => ⟨h.1, h.2⟩)) | (go_at_call 26; exact Calls.quiet_of_same (HX.out _))))
          by_cases hxk : x = k
          · subst hxk
            go_wp2
            exact ⟨⟨k + 1, hlt, congrArg (Value.int .i64) (by omega), HQ.out.drewN _⟩, by simp only [intOf]; omega⟩
          · go_wp2
            go_ret
            exact ⟨_, rfl, (fun h => by cases h), below_drewN hbw _⟩
      · obtain rfl : vl = k := by omega
        go_wp2
        go_loopw [4] (fun i wr => ∃ k : Nat, k ≤ tl ∧ i = .int .i64 k ∧ Qt w0 wr) (fun i _ => tl - (intOf i).toNat)
        case atStart => exact ⟨0, Nat.zero_le _, rfl, hqt⟩
        case round =>
          clear f0 f1 f2 hbw hqt
          obtain ⟨j, hj, rfl, hqt⟩ := hrel
          have f0 := (hqt.cell _).trans d0
          have f1 := (hqt.cell _).trans d1
          have f2 := (hqt.cell _).trans d2
          have hbw : Below w.heap.size w wr := hbl.trans (hqt.below.mono (by omega))
          by_cases hlt : j < tl
          · obtain ⟨a, s, rfl, hab, hc0, hs⟩ := HT.out j hlt
            have hc := (hqt.cell _).trans hc0
            obtain ⟨b, hb⟩ := isQuote_det s hs
            have HBN := Lib.hid hb
            have HQ := Lib.hid hqt
            clear hb hc0
            cases b
            · clear hqt
              go_wp2
              go_quiet ((go_at_call 27; exact Calls.quiet_of_same ((HBN.out _).mono fun _ _ h => ⟨h.1, h.2⟩)))
              go_wp2
              go_ret
              exact ⟨_, rfl, (fun h => by cases h), below_drewN hbw _⟩
            · by_cases h0 : 0 < j
              · obtain ⟨p, hp⟩ : ∃ p, j = p + 1 := ⟨j - 1, by omega⟩
                obtain ⟨a', s', ea, _, hc0', hs'⟩ := HT.out p (by omega)
                cases ea
                have hc' := (hqt.cell _).trans hc0'
                have e1 : (j : Int) - 1 = (p : Int) := by omega
                have e2 : IntKind.i64.wrap ((j : Int) - 1) = (p : Int) := by rw [IntKind.wrap_i64]; omega
                have c3' : decide ((0 : Int) < (j : Int)) = true := decide_eq_true (by omega)
                have hpl : p < tl := by omega
                have hpi : (p : Int) < (tl : Int) := by omega
                clear hc0' hqt hp
                go_wp2
                go_quiet ((go_at_call 27; exact Calls.quiet_of_same ((HBN.out _).mono fun _ _ h => ⟨h.1, h.2⟩)))
                go_wp2
                all_goals first
                  | (go_ret; exact ⟨_, rfl, (fun h => by cases h), below_drewN hbw _⟩)
                  | exact ⟨⟨j + 1, hlt, congrArg (Value.int .i64) (by omega), HQ.out.drewN _⟩, by simp only [intOf]; omega⟩
              · have c3' : decide ((0 : Int) < (j : Int)) = false := decide_eq_false (by omega)
                clear hqt
                go_wp2
                go_quiet ((go_at_call 27; exact Calls.quiet_of_same ((HBN.out _).mono fun _ _ h => ⟨h.1, h.2⟩)))
                go_wp2
                exact ⟨⟨j + 1, hlt, congrArg (Value.int .i64) (by omega), HQ.out.drewN _⟩, by simp only [intOf]; omega⟩
          · obtain rfl : tl = j := by omega
            go_wp2
            go_loopw [5] (fun i wr => ∃ q : Nat, q ≤ R.length ∧ i = .int .i64 q ∧ (∀ i r', i < q → R[i]? = some r' → RlOk tl vl r') ∧ Below (w.heap.size + 1) w0 wr) (fun i _ => R.length - (intOf i).toNat)
            case atStart => exact ⟨0, Nat.zero_le _, rfl, fun i r' hi => absurd hi (Nat.not_lt_zero _), hqt.below.mono (by omega)⟩
            case round =>
              clear f0 f1 f2 hbw hqt
              obtain ⟨q, hq, rfl, hal, hbr⟩ := hrel
              have HAL := Lib.hid hal
              clear hal
              have hzr := hbr.size
              have bx := b0.below hbr (by omega)
              have f0 := bx.cell 0
              have f1 := bx.cell 1
              have f2 := bx.cell 2
              simp only [List.getElem?_toArray, List.getElem?_cons_zero, List.getElem?_cons_succ] at f0 f1 f2
              by_cases hlt : q < R.length
              · have hru := rule_any wr B ta va ra tl tc vl vc rc R q hlt (HR.out.below (hbr.mono (by omega))) (by omega) hn ht hv H8.out
                go_wp2_with fail
                refine hru.mono ?_
                rintro e w2 ⟨b1, rfl, hok, hb2⟩
                have HOK := Lib.hid hok
                clear hok
                have hb2' : Below (w.heap.size + 1) w0 w2 := hbr.trans (hb2.mono (by omega))
                cases b1
                · go_wp2
                  go_ret
                  exact ⟨_, rfl, (fun h => by cases h), hbl.trans (hb2'.mono (by omega))⟩
                · go_wp2
                  exact ⟨⟨q + 1, hlt, congrArg (Value.int .i64) (by omega), (fun i r' hi hr => by
                    rcases Nat.lt_or_ge i q with h1 | h1
                    · exact HAL.out i r' h1 hr
                    · obtain rfl : i = q := by omega
                      exact HOK.out (by simp) r' hr), hb2'⟩, by simp only [intOf]; omega⟩
              · have hqR : q = R.length := by omega
                subst hqR
                have hfin : 1 ≤ vl ∧ ∀ r ∈ R, RlOk tl vl r := ⟨hv1, fun r hr => by
                  obtain ⟨i, hi, rfl⟩ := List.mem_iff_getElem.1 hr
                  exact HAL.out i _ hi (List.getElem?_eq_getElem hi)⟩
                have HFIN := Lib.hid hfin
                clear hfin
                go_wp2
                go_loopw [6] (fun i wr => ∃ q : Nat, q ≤ vl ∧ i = .int .i64 q ∧ Below (w.heap.size + 1) w0 wr) (fun i _ => vl - (intOf i).toNat)
                case atStart => exact ⟨0, Nat.zero_le _, rfl, hbr⟩
                case round =>
                  clear f0 f1 f2 bx hzr hbr
                  obtain ⟨q, hq, rfl, hbr⟩ := hrel
                  have hzr := hbr.size
                  have bx := b0.below hbr (by omega)
                  have f0 := bx.cell 0
                  have f1 := bx.cell 1
                  have f2 := bx.cell 2
                  simp only [List.getElem?_toArray, List.getElem?_cons_zero, List.getElem?_cons_succ] at f0 f1 f2
                  by_cases hlt : q < vl
                  · have hru := count_any wr B ta va ra tl tc vl vc rc R (q : Int) (HR.out.below (hbr.mono (by omega))) (by omega) hn
                    go_wp2_with fail
                    refine hru.mono ?_
                    rintro e w2 ⟨x1, rfl, hb2⟩
                    have hb2' : Below (w.heap.size + 1) w0 w2 := hbr.trans (hb2.mono (by omega))
                    go_wp2
                    · go_ret
                      exact ⟨_, rfl, (fun h => by cases h), hbl.trans (hb2'.mono (by omega))⟩
                    · exact ⟨⟨q + 1, hlt, congrArg (Value.int .i64) (by omega), hb2'⟩, by simp only [intOf]; omega⟩
                  · obtain rfl : vl = q := by omega
                    go_wp2
                    go_loopw [7] (fun i wr => ∃ q : Nat, q ≤ tl ∧ i = .int .i64 q ∧ Below (w.heap.size + 1) w0 wr) (fun i _ => tl - (intOf i).toNat)
                    case atStart => exact ⟨0, Nat.zero_le _, rfl, hbr⟩
                    case round =>
                      clear f0 f1 f2 bx hzr hbr
                      obtain ⟨q, hq, rfl, hbr⟩ := hrel
                      have hzr := hbr.size
                      have bx := b0.below hbr (by omega)
                      have f0 := bx.cell 0
                      have f1 := bx.cell 1
                      have f2 := bx.cell 2
                      simp only [List.getElem?_toArray, List.getElem?_cons_zero, List.getElem?_cons_succ] at f0 f1 f2
                      by_cases hlt : q < tl
                      · have hru : ∀ z, Calls Tryz.prog 30 _ wr _ := fun z => uses_any wr B ta va ra tl tc vl vc rc R z (HR.out.below (hbr.mono (by omega))) (by omega) hn H8.out
                        go_wp2_with fail
                        refine (hru _).mono ?_
                        rintro e w2 ⟨b1, rfl, hb2⟩
                        have hb2' : Below (w.heap.size + 1) w0 w2 := hbr.trans (hb2.mono (by omega))
                        cases b1
                        · go_wp2
                          go_ret
                          exact ⟨_, rfl, (fun h => by cases h), hbl.trans (hb2'.mono (by omega))⟩
                        · go_wp2
                          exact ⟨⟨q + 1, hlt, congrArg (Value.int .i64) (by omega), hb2'⟩, by simp only [intOf]; omega⟩
                      · obtain rfl : tl = q := by omega
                        go_wp2
                        go_ret
                        exact ⟨_, rfl, (fun _ => HFIN.out), hbl.trans (hbr.mono (by omega))⟩
  · go_enter Tryz.func8, Tryz.ntmps8
    go_wp2
    go_ret
    exact ⟨_, rfl, (fun h => by cases h), hbl⟩
theorem right_any (w : World) (B : Nat) (ta va ra : Option Addr) (tl tc vl vc rc : Nat) (R : List Rl) (hR : RulesAt B w (.slice ra R.length rc) R) (hT : StrsAt B w ta tl) (hV : StrsAt B w va vl) (hB : B ≤ w.heap.size) (hn : R.length ≤ 24) (ht : tl ≤ 6) (hv : vl ≤ 8) (h8 : ∀ r ∈ R, r.right.length ≤ 8) :
    Calls Tryz.prog 8 #[.agg #[.slice ta tl tc, .slice va vl vc, .slice ra R.length rc]] w (Ans w) := (right_yes w B ta va ra tl tc vl vc rc R hR hT hV hB hn ht hv h8).mono fun _ _ h => ans_of h
end Go.Proofs.YtomikgkoegkofaaGreatDoor.dv
