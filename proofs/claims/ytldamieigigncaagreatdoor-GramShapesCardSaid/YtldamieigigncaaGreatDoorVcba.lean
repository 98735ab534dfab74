import Derived.Test.YtldamieigigncaaGreatDoorVcaz
import Derived.Shelf.Strings.BuilderK
namespace Go.Proofs.YtldamieigigncaaGreatDoor.lx
open Go.ChangeShapes Go.WideShapes Go.ChangeAt Go.RowKit
set_option linter.unusedVariables false
set_option linter.unusedSimpArgs false
attribute [local go_sem] run_store_float
def idxN (l : List Int) (x : Int) : Int := if x ∈ l then (l.idxOf x : Int) else -1
theorem idxN_at {l : List Int} {x : Int} {k : Nat} (hk : l[k]? = some x) (hno : ∀ (j : Nat) (y : Int), j < k → l[j]? = some y → y ≠ x) : idxN l x = k := by
  have hm := List.mem_of_getElem? hk
  obtain ⟨hl, he⟩ := List.getElem?_eq_some_iff.1 hk
  unfold idxN
  rw [if_pos hm]
  have h1 : l.idxOf x ≤ k := by
    rcases Nat.lt_or_ge k (l.idxOf x) with h | h
    · have := List.not_of_lt_findIdx (p := fun y => y == x) (xs := l) h
      simp [he] at this
    · exact h
  have h2 : ¬ l.idxOf x < k := fun h => by
    have hlt := List.idxOf_lt_length_of_mem hm
    exact hno _ _ h (List.getElem?_eq_getElem hlt) (List.getElem_idxOf hlt)
  omega
theorem idxN_no {l : List Int} {x : Int} (hno : ∀ (j : Nat) (y : Int), l[j]? = some y → y ≠ x) : idxN l x = -1 := by
  unfold idxN
  rw [if_neg]
  intro hm
  obtain ⟨j, hj, he⟩ := List.getElem_of_mem hm
  exact hno j _ (List.getElem?_eq_getElem hj) he
set_option maxRecDepth 100000 in
theorem indexI_any (w : World) (A : Nat → Prop) (v : Value) (l : List Int) (x : Int) (h : IntsAt w A v l) : Calls Tryz.prog 106 #[v, .int .i64 x] w fun e w' => e = .returned (.int .i64 (idxN l x)) ∧ w = w' := by
  obtain ⟨ao, cap, rfl⟩ := ListOf.form h
  have hl := h.1
  unfold maxLen at hl
  have H := Lib.hid h
  generalize hn : l.length = n at *
  have HN := Lib.hid hn
  clear h hn
  go_enter Tryz.func106, Tryz.ntmps106
  go_wp2_with fail
  go_loopw [8] (fun i wr => ∃ k : Nat, i = .int .i64 k ∧ k ≤ n ∧ w = wr ∧ ∀ (j : Nat) (y : Int), j < k → l[j]? = some y → y ≠ x) (fun i _ => n - (intOf i).toNat)
  case atStart => exact ⟨0, rfl, Nat.zero_le _, rfl, fun j y h => by omega⟩
  case round =>
    obtain ⟨k, rfl, hk, rfl, hno⟩ := hrel
    have HNO := Lib.hid hno
    clear hno
    by_cases hlt : k < n
    · obtain ⟨y, hy⟩ : ∃ y, l[k]? = some y := ⟨_, List.getElem?_eq_getElem (by rw [HN.out]; exact hlt)⟩
      obtain ⟨g, cap', e, hg, hc⟩ := IntsAt.cell H.out hy
      rw [HN.out] at e
      cases e
      have HY := Lib.hid hy
      clear hy
      by_cases hxy : x = y
      · have he : (x == y) = true := by rw [beq_iff_eq]; exact hxy
        have HXY := Lib.hid hxy
        clear hxy
        go_wp2_with fail
        go_ret
        refine ⟨?_, rfl⟩
        rw [idxN_at (by rw [HY.out, HXY.out]) HNO.out]
        rfl
      · have he : (x == y) = false := by rw [beq_eq_false_iff_ne]; exact hxy
        have HXY := Lib.hid hxy
        clear hxy
        go_wp2_with fail
        refine ⟨⟨k + 1, by go_num, hlt, by first | exact rfl | trivial, fun j z hj hz => ?_⟩, by simp only [intOf]; omega⟩
        by_cases hjk : j < k
        · exact HNO.out j z hjk hz
        · obtain rfl : j = k := by omega
          have : z = y := Option.some.inj (hz.symm.trans HY.out)
          rw [this]
          exact fun e => HXY.out e.symm
    · obtain rfl : k = n := by omega
      go_wp2_with fail
      go_ret
      refine ⟨?_, rfl⟩
      rw [idxN_no (fun j y hj => HNO.out j y (by have := (List.getElem?_eq_some_iff.1 hj).1; have := HN.out; omega) hj)]
      rfl
theorem idxN_ge (l : List Int) (x : Int) : decide ((0 : Int) ≤ idxN l x) = decide (x ∈ l) := by
  unfold idxN
  by_cases h : x ∈ l
  · rw [if_pos h]; simp [h]
  · rw [if_neg h]; simp [h]
set_option maxRecDepth 100000 in
theorem containsI_any (w : World) (A : Nat → Prop) (v : Value) (l : List Int) (x : Int) (h : IntsAt w A v l) : Calls Tryz.prog 81 #[v, .int .i64 x] w fun e w' => e = .returned (.bool (decide (x ∈ l))) ∧ w = w' := by
  have hi := indexI_any w A v l x h
  have HG := Lib.hid (idxN_ge l x)
  generalize idxN l x = z at *
  obtain ⟨ao, cap, rfl⟩ := ListOf.form h
  clear h
  go_enter Tryz.func81, Tryz.ntmps81
  go_wp2_with fail
  refine hi.mono ?_
  rintro e w' ⟨rfl, rfl⟩
  clear hi
  go_wp2_with fail
  go_ret
  refine ⟨?_, rfl⟩
  rw [← HG.out]
  rfl
theorem goes_stand : GoesG 80 := fun args w => enters_of Tryz.func80 (by kernel_rfl) rfl args w
set_option maxRecDepth 100000 in
set_option maxHeartbeats 1000000 in
theorem stand1_any (W : World) (bt : Nat) (t : Nat) (ht : t ≤ 64) (L F : Nat) (ao : Option Addr) (c : Nat) (xs : List Int) (A : Nat → Prop) (hb : Blk W bt 3 #[.int .i64 t]) (h : IntsAt W A (.slice ao xs.length c) xs) : Calls Tryz.prog 80 #[.agg #[.int .i64 L, .slice ao xs.length c, .float .f64 F], .pointer (some ⟨bt, 0, none⟩)] W fun e w' => e = .returned (.bool (decide (-(t : Int) - 1 ∈ xs))) ∧ Below W.heap.size W w' := by
  have hb1 : Below W.heap.size W (W.alloc (.cells #[.int .i64 L, .slice ao xs.length c, .float .f64 F] 41)) := (Below.refl _ _).alloc (Nat.le_refl _) _
  have b1 := Blk.new W 41 #[.int .i64 L, .slice ao xs.length c, .float .f64 F]
  have hct := containsI_any (W.alloc (.cells #[.int .i64 L, .slice ao xs.length c, .float .f64 F] 41)) A (.slice ao xs.length c) xs (-(t : Int) - 1) (h.keep keepsInt (fun g hg hA => ⟨hA, hb1.block g hg⟩) hb1.size)
  have hv := hb.below hb1 hb.lt
  have hx := xorI (t : Int) (by omega) (by omega)
  have HB1 := Lib.hid hb1
  generalize decide (-(t : Int) - 1 ∈ xs) = D at *
  generalize xs.length = n at *
  clear h hb hb1
  go_enter Tryz.func80, Tryz.ntmps80
  go_upto_region 1 with fail
  generalize W.alloc (.cells #[.int .i64 L, .slice ao n c, .float .f64 F] 41) = w1 at *
  have c1 : w1.cell? ⟨W.heap.size, 1, none⟩ = some (.slice ao n c) := b1.cell 1
  have d0 : w1.cell? ⟨bt, 0, none⟩ = some (.int .i64 t) := hv.cell 0
  have l0 := b1.lt
  have l1 := hv.lt
  clear b1 hv
  go_wp2_with fail
  refine hct.mono ?_
  rintro e w2 ⟨rfl, rfl⟩
  clear hct c1 d0 l0 l1
  go_wp2_with fail
  go_ret
  exact ⟨rfl, HB1.out⟩
def StandOk (tn : Nat) (rs : List Rl) : Prop := ∀ t, t < tn → (rs.any fun r => decide (-(t : Int) - 1 ∈ r.2.1)) = true
set_option maxRecDepth 100000 in
set_option maxHeartbeats 4000000 in
theorem allStand_any (w : World) (A : Nat → Prop) (tbo vo ro : Option Addr) (tn tc vn vc rc : Nat) (rs : List Rl) (h : ListOf 3 ERul w A (.slice ro rs.length rc) rs) (htn : tn ≤ 64) : Calls Tryz.prog 48 #[.agg #[.slice tbo tn tc, .slice vo vn vc, .slice ro rs.length rc]] w fun e w' => TellB (StandOk tn rs) e ∧ Below w.heap.size w w' := by
  have hb1 : Below w.heap.size w (w.alloc (.cells #[.slice tbo tn tc, .slice vo vn vc, .slice ro rs.length rc] 26)) := (Below.refl _ _).alloc (Nat.le_refl _) _
  have b1 := Blk.new w 26 #[.slice tbo tn tc, .slice vo vn vc, .slice ro rs.length rc]
  have H := Lib.hid h
  have HB1 := Lib.hid hb1
  generalize hn : rs.length = n at *
  have HN := Lib.hid hn
  clear h hb1 hn
  go_enter Tryz.func48, Tryz.ntmps48
  go_upto_region 1 with fail
  generalize w.alloc (.cells #[.slice tbo tn tc, .slice vo vn vc, .slice ro n rc] 26) = w1 at *
  have g0 : w1.cell? ⟨w.heap.size, 0, none⟩ = some (.slice tbo tn tc) := b1.cell 0
  have l1 := b1.lt
  have HK1 := Lib.hid b1
  clear b1
  go_wp2_with fail
  clear g0 l1
  go_loopw [7] (fun q wr => ∃ t : Nat, q = .int .i64 t ∧ t ≤ tn ∧ (∀ u, u < t → (rs.any fun r => decide (-(u : Int) - 1 ∈ r.2.1)) = true) ∧ Below w.heap.size w wr ∧ Blk wr w.heap.size 26 #[.slice tbo tn tc, .slice vo vn vc, .slice ro n rc]) (fun q _ => tn - (intOf q).toNat)
  case atStart => exact ⟨0, rfl, Nat.zero_le _, fun u h => by omega, HB1.out, HK1.out⟩
  case round =>
    clear HB1 HK1
    obtain ⟨t, rfl, ht, hno, hbr, hkr⟩ := hrel
    have HNO := Lib.hid hno
    have HBR := Lib.hid hbr
    by_cases hlt : t < tn
    · have hb4 : Below wr.heap.size wr (wr.alloc (.cells #[.int .i64 t] 3)) := (Below.refl _ _).alloc (Nat.le_refl _) _
      have b4 := Blk.new wr 3 #[.int .i64 t]
      have hk4 := hkr.below hb4 hkr.lt
      have hct := containsR_any (wr.alloc (.cells #[.int .i64 t] 3)) A (.slice ro n rc) rs 80 #[.pointer (some ⟨wr.heap.size, 0, none⟩)] (fun r => decide (-(t : Int) - 1 ∈ r.2.1)) goes_stand (fun r ao c W hW hr => stand1_any W wr.heap.size t (by omega) r.1 r.2.2 ao c r.2.1 (fun _ => True) (b4.below hW b4.lt) hr) (H.out.keep keepsRul (fun g hg hA => ⟨hA, (hbr.trans (hb4.mono hbr.size)).block g hg⟩) (Nat.le_trans hbr.size hb4.size))
      have HB4 := Lib.hid (hbr.trans (hb4.mono hbr.size))
      have HK4 := Lib.hid hk4
      generalize hD : (rs.any fun r => decide (-(t : Int) - 1 ∈ r.2.1)) = D at *
      have HD := Lib.hid hD
      clear hno hbr hkr hb4 b4 hD
      go_upto_region 4 with fail
      generalize wr.alloc (.cells #[.int .i64 t] 3) = w4 at *
      have g2 : w4.cell? ⟨w.heap.size, 2, none⟩ = some (.slice ro n rc) := hk4.cell 2
      have l1 := hk4.lt
      clear hk4
      cases D with
      | false =>
        go_wp2_with fail
        refine hct.mono ?_
        rintro e w5 ⟨rfl, hb5⟩
        clear hct g2 l1
        go_wp2_with fail
        go_ret
        exact ⟨TellB.no (fun hh => by have := hh t hlt; rw [HD.out] at this; cases this), HB4.out.trans (hb5.mono HB4.out.size)⟩
      | true =>
        go_wp2_with fail
        refine hct.mono ?_
        rintro e w5 ⟨rfl, hb5⟩
        have HB5 := Lib.hid (HB4.out.trans (hb5.mono HB4.out.size))
        have HK5 := Lib.hid (HK4.out.below hb5 HK4.out.lt)
        clear hct g2 l1 hb5
        go_wp2_with fail
        refine ⟨⟨t + 1, by go_num, hlt, fun u hu => ?_, HB5.out, HK5.out⟩, by simp only [intOf]; omega⟩
        by_cases hut : u < t
        · exact HNO.out u hut
        · obtain rfl : u = t := by omega
          exact HD.out
    · obtain rfl : t = tn := by omega
      clear hno hbr hkr
      go_wp2_with fail
      go_ret
      exact ⟨TellB.yes (fun u hu => HNO.out u hu), HBR.out⟩
structure RightOk (wb : Nat → Bool) (g : Gra) : Prop where
  v1 : 1 ≤ g.vars.length
  v64 : g.vars.length ≤ 64
  t64 : g.terms.length ≤ 64
  r256 : g.rules.length ≤ 256
  vars : VarsOk g.vars
  terms : TermsOk g.terms
  rules : RulesOk g.vars.length g.terms.length wb g.rules
  stand : StandOk g.terms.length g.rules
set_option maxRecDepth 100000 in
set_option maxHeartbeats 8000000 in
theorem right_any (w : World) (A : Nat → Prop) (tbo vo ro : Option Addr) (tc vc rc : Nat) (g : Gra) (wb : Nat → Bool) (h : GrAt w A (.slice tbo g.terms.length tc) (.slice vo g.vars.length vc) (.slice ro g.rules.length rc) g) (hvc : g.vars.length ≤ vc) (hrc : g.rules.length ≤ rc) (hin : RulesIn64 g.rules) (hvx : ∀ x ∈ g.vars, x.length ≤ maxLen) (htx : ∀ x ∈ g.terms, x.length ≤ maxLen) (hwt : ∀ r ∈ g.rules, WtTell w r.2.2 (wb r.2.2)) : Calls Tryz.prog 16 #[.agg #[.slice tbo g.terms.length tc, .slice vo g.vars.length vc, .slice ro g.rules.length rc]] w fun e w' => TellB (RightOk wb g) e ∧ Below w.heap.size w w' := by
  have hb1 : Below w.heap.size w (w.alloc (.cells #[.slice tbo g.terms.length tc, .slice vo g.vars.length vc, .slice ro g.rules.length rc] 26)) := (Below.refl _ _).alloc (Nat.le_refl _) _
  have b1 := Blk.new w 26 #[.slice tbo g.terms.length tc, .slice vo g.vars.length vc, .slice ro g.rules.length rc]
  have h1 := h.below hb1
  have hl1 := h.ts.1
  have hl2 := h.vs.1
  have hl3 := h.rs.1
  unfold maxLen at hl1 hl2 hl3
  have H1 := Lib.hid h1
  have HIN := Lib.hid hin
  have HVX := Lib.hid hvx
  have HTX := Lib.hid htx
  have HWT := Lib.hid (fun r hr => (hwt r hr).below hb1)
  have HB1 := Lib.hid hb1
  have HRC := Lib.hid hrc
  have HVC := Lib.hid hvc
  have hV := rightVars_any (w.alloc (.cells #[.slice tbo g.terms.length tc, .slice vo g.vars.length vc, .slice ro g.rules.length rc] 26)) A vo vc g.vars h1.vs hvc hvx
  have hT := rightTerms_any (w.alloc (.cells #[.slice tbo g.terms.length tc, .slice vo g.vars.length vc, .slice ro g.rules.length rc] 26)) A tbo tc g.terms h1.ts htx
  generalize htn : g.terms.length = tn at *
  generalize hvn : g.vars.length = vn at *
  generalize hrn : g.rules.length = rn at *
  have HTN := Lib.hid htn
  have HVN := Lib.hid hvn
  have HRN := Lib.hid hrn
  clear h h1 hvc hrc hin hvx htx hwt hb1 htn hvn hrn
  have hlen : ∀ P : Prop, (P → RightOk wb g → False) → P → TellB (RightOk wb g) (.returned (.bool false)) := fun P h hp => TellB.no (h hp)
  have HL := Lib.hid hlen
  clear hlen
  go_enter Tryz.func16, Tryz.ntmps16
  go_upto_region 1 with fail
  generalize w.alloc (.cells #[.slice tbo tn tc, .slice vo vn vc, .slice ro rn rc] 26) = w1 at *
  have g0 : w1.cell? ⟨w.heap.size, 0, none⟩ = some (.slice tbo tn tc) := b1.cell 0
  have g1 : w1.cell? ⟨w.heap.size, 1, none⟩ = some (.slice vo vn vc) := b1.cell 1
  have g2 : w1.cell? ⟨w.heap.size, 2, none⟩ = some (.slice ro rn rc) := b1.cell 2
  have l1 := b1.lt
  have HK1 := Lib.hid b1
  clear b1
  by_cases c1 : 1 ≤ vn
  case neg =>
    have d1 : decide ((1 : Int) ≤ (vn : Int)) = false := decide_eq_false (by omega)
    have HC := Lib.hid c1
    clear c1 hV hT
    go_wp2_with fail
    go_ret
    exact ⟨TellB.no (fun hh => HC.out (by have := hh.v1; rwa [HVN.out] at this)), HB1.out⟩
  have d1 : decide ((1 : Int) ≤ (vn : Int)) = true := decide_eq_true (by omega)
  by_cases c2 : vn ≤ 64
  case neg =>
    have d2 : decide ((vn : Int) ≤ 64) = false := decide_eq_false (by omega)
    have HC := Lib.hid c2
    clear c1 c2 hV hT
    go_wp2_with fail
    go_ret
    exact ⟨TellB.no (fun hh => HC.out (by have := hh.v64; rwa [HVN.out] at this)), HB1.out⟩
  have d2 : decide ((vn : Int) ≤ 64) = true := decide_eq_true (by omega)
  by_cases c3 : tn ≤ 64
  case neg =>
    have d3 : decide ((tn : Int) ≤ 64) = false := decide_eq_false (by omega)
    have HC := Lib.hid c3
    clear c1 c2 c3 hV hT
    go_wp2_with fail
    go_ret
    exact ⟨TellB.no (fun hh => HC.out (by have := hh.t64; rwa [HTN.out] at this)), HB1.out⟩
  have d3 : decide ((tn : Int) ≤ 64) = true := decide_eq_true (by omega)
  by_cases c4 : rn ≤ 256
  case neg =>
    have d4 : decide ((rn : Int) ≤ 256) = false := decide_eq_false (by omega)
    have HC := Lib.hid c4
    clear c1 c2 c3 c4 hV hT
    go_wp2_with fail
    go_ret
    exact ⟨TellB.no (fun hh => HC.out (by have := hh.r256; rwa [HRN.out] at this)), HB1.out⟩
  have d4 : decide ((rn : Int) ≤ 256) = true := decide_eq_true (by omega)
  have HCC := Lib.hid (And.intro c1 (And.intro c2 (And.intro c3 c4)))
  clear c1 c2 c3 c4
  go_wp2_with fail
  refine hV.mono ?_
  rintro e w2 ⟨⟨bv, rfl, hbv⟩, rfl⟩
  have HBV := Lib.hid hbv
  clear hV hbv
  cases bv with
  | false =>
    clear hT
    go_wp2_with fail
    go_ret
    exact ⟨TellB.no (fun hh => by have := HBV.out.2 hh.vars; cases this), HB1.out⟩
  | true =>
    go_wp2_with fail
    refine hT.mono ?_
    rintro e w2 ⟨⟨bt, rfl, hbt⟩, rfl⟩
    have HBT := Lib.hid hbt
    clear hT hbt
    cases bt with
    | false =>
      go_wp2_with fail
      go_ret
      exact ⟨TellB.no (fun hh => by have := HBT.out.2 hh.terms; cases this), HB1.out⟩
    | true =>
      have hR := rightRules_any w1 A tbo vo ro tn tc vn vc rc g.rules wb (by rw [HRN.out]; exact H1.out.rs) (by rw [HRN.out]; exact HRC.out) HIN.out HCC.out.2.1 (by rw [HRN.out]; exact HCC.out.2.2.2) HWT.out
      rw [HRN.out] at hR
      go_wp2_with fail
      refine hR.mono ?_
      rintro e w2 ⟨⟨br, rfl, hbr⟩, hb2⟩
      have HBR := Lib.hid hbr
      have HB2 := Lib.hid (HB1.out.trans (hb2.mono HB1.out.size))
      have k2 := HK1.out.below hb2 l1
      clear hR hbr g0 g1 g2 l1
      cases br with
      | false =>
        clear hb2 k2
        go_wp2_with fail
        go_ret
        exact ⟨TellB.no (fun hh => by have := HBR.out.2 (by have := hh.rules; rwa [HVN.out, HTN.out] at this); cases this), HB2.out⟩
      | true =>
        have g0 : w2.cell? ⟨w.heap.size, 0, none⟩ = some (.slice tbo tn tc) := k2.cell 0
        have g1 : w2.cell? ⟨w.heap.size, 1, none⟩ = some (.slice vo vn vc) := k2.cell 1
        have g2 : w2.cell? ⟨w.heap.size, 2, none⟩ = some (.slice ro rn rc) := k2.cell 2
        have l1 := k2.lt
        have hS := allStand_any w2 A tbo vo ro tn tc vn vc rc g.rules (by rw [HRN.out]; exact H1.out.rs.keep keepsRul (fun b hb hA => ⟨hA, hb2.block b hb⟩) hb2.size) HCC.out.2.2.1
        rw [HRN.out] at hS
        clear hb2 k2
        go_wp2_with fail
        refine hS.mono ?_
        rintro e w3 ⟨⟨bs, rfl, hbs⟩, hb3⟩
        have HBS := Lib.hid hbs
        have HB3 := Lib.hid (HB2.out.trans (hb3.mono HB2.out.size))
        clear hS hbs g0 g1 g2 l1 hb3
        cases bs with
        | false =>
          go_wp2_with fail
          go_ret
          exact ⟨TellB.no (fun hh => by have := HBS.out.2 (by have := hh.stand; rwa [HTN.out] at this); cases this), HB3.out⟩
        | true =>
          go_wp2_with fail
          go_ret
          exact ⟨TellB.yes ⟨by rw [HVN.out]; exact HCC.out.1, by rw [HVN.out]; exact HCC.out.2.1, by rw [HTN.out]; exact HCC.out.2.2.1, by rw [HRN.out]; exact HCC.out.2.2.2, HBV.out.1 (by first | rfl | trivial), HBT.out.1 (by first | rfl | trivial), by rw [HVN.out, HTN.out]; exact HBR.out.1 (by first | rfl | trivial), by rw [HTN.out]; exact HBS.out.1 (by first | rfl | trivial)⟩, HB3.out⟩
end Go.Proofs.YtldamieigigncaaGreatDoor.lx

namespace Go.Proofs
section
open Go.Shelf
def Tryz.lays169_ren : Go.Shelf.Ren := ⟨fun | 169 => 54 | n => n, fun | 70 => 98 | 9 => 9 | 0 => 0 | 72 => 101 | 37 => 99 | 127 => 160 | 3 => 3 | 5 => 5 | n => n, fun | n => n⟩
theorem Tryz.lays169 : Go.Proofs.Lays.n169 Tryz.prog Tryz.lays169_ren := {
  mixed := by kernel_rfl
  f169 := Tryz.func54.trans (congrArg some (by kernel_rfl))
  t0 := Tryz.underlying0
  a0 := Tryz.isAgg0
  z0 := Tryz.sizeOf0
  v0 := Tryz.zeroValue0
  t3 := Tryz.underlying3
  a3 := Tryz.isAgg3
  z3 := Tryz.sizeOf3
  v3 := Tryz.zeroValue3
  t9 := Tryz.underlying9
  a9 := Tryz.isAgg9
  z9 := Tryz.sizeOf9
  v9 := Tryz.zeroValue9
  t37 := Tryz.underlying99
  a37 := Tryz.isAgg99
  z37 := Tryz.sizeOf99
  v37 := Tryz.zeroValue99
  t70 := Tryz.underlying98
  a70 := Tryz.isAgg98
  z70 := Tryz.sizeOf98
  v70 := Tryz.zeroValue98
  t72 := Tryz.underlying101
  a72 := Tryz.isAgg101
  z72 := Tryz.sizeOf101
  v72 := Tryz.zeroValue101
  t127 := Tryz.underlying160
  a127 := Tryz.isAgg160
  z127 := Tryz.sizeOf160
  v127 := Tryz.zeroValue160 }
end
namespace YtldamieigigncaaGreatDoor.lx
open Go.ChangeShapes Go.WideShapes Go.ChangeAt Go.RowKit Go.Shelf Go.Lib
set_option linter.unusedVariables false
set_option linter.unusedSimpArgs false
attribute [local go_sem] run_store_float
def Bld (B b : Nat) (l : List UInt8) (w : World) : Prop := Lib.IsBuilder 101 5 B b (Lib.byteCells l) w
theorem bytes_app (l : List UInt8) (s : ByteArray) : Lib.byteCells (l ++ s.data.toList) = Lib.byteCells l ++ Lib.strCells s := by
  unfold Lib.byteCells Lib.strCells
  rw [List.map_append]
theorem bytes_len (l : List UInt8) : (Lib.byteCells l).length = l.length := by unfold Lib.byteCells; rw [List.length_map]
theorem size_builder : (Tryz.prog.info? 101).map (·.size) = some 2 := by kernel_rfl
theorem lies_builder : liesAt Tryz.prog Tryz.prog.depth 101 (2 / Tryz.prog.cellsOf 101) 0 101 1 = true := by kernel_rfl
theorem infob_u8 : (Tryz.prog.info? 5).map (fun i => (i.zero, i.size, i.bytes)) = some (some (.int .u8 0), 1, 1) := by kernel_rfl
set_option maxRecDepth 100000 in
theorem check_used (b : Nat) (w : World) (h : w.cell? ⟨b, 0, none⟩ = some (.pointer (some ⟨b, 0, none⟩))) : Calls Tryz.prog 82 #[.pointer (some ⟨b, 0, none⟩)] w fun e w' => e = .returned (.tuple #[]) ∧ w' = w := by
  obtain ⟨j, hj, _⟩ := Option.map_eq_some_iff.1 size_builder
  have hne := Lib.run_neq_ptr_same (P := Tryz.prog) w ⟨b, 0, none⟩ Tryz.underlying98 hj
  clear hj
  go_enter Tryz.func82, Tryz.ntmps82
  go_wp2
  go_end0
  exact ⟨rfl, rfl⟩
set_option maxRecDepth 100000 in
theorem check_fresh (b : Nat) (w : World) (h : w.cell? ⟨b, 0, none⟩ = some (.pointer none)) (hs : w.shape? b = some (101, 2)) (hf : w.frozen? ⟨b, 0, none⟩ = false) : Calls Tryz.prog 82 #[.pointer (some ⟨b, 0, none⟩)] w fun e w' => e = .returned (.tuple #[]) ∧ w' = w.setCell ⟨b, 0, none⟩ (.pointer (some ⟨b, 0, none⟩)) := by
  obtain ⟨j, hj, hjs⟩ := Option.map_eq_some_iff.1 size_builder
  have h1 := Lib.run_to_unsafe (P := Tryz.prog) w ⟨b, 0, none⟩ Tryz.underlying98 Tryz.underlying178 hj (by rw [hjs]; decide) hs (Nat.zero_lt_succ 1)
  have h2 := Lib.run_from_unsafe (P := Tryz.prog) w ⟨b, 0, none⟩ Tryz.underlying178 Tryz.underlying98 hj hs lies_builder
  have h3 : ∀ x, (callFunc 107 #[x]).run Tryz.prog w = .ok (.value x) w := fun x => by
    rw [run_callFunc_extern Tryz.func107 (by kernel_rfl) (by kernel_rfl) (by kernel_rfl) (e := Extern.AbiNoEscape.same) (by kernel_rfl), Lib.run_noEscape]
    rfl
  clear hj hjs
  go_enter Tryz.func82, Tryz.ntmps82
  go_wp2
  go_end0
  exact ⟨rfl, rfl⟩
theorem check_any (B b : Nat) (bs : List Value) (w : World) (h : Lib.IsBuilder 101 5 B b bs w) : Calls Tryz.prog 82 #[.pointer (some ⟨b, 0, none⟩)] w fun e w' => e = .returned (.tuple #[]) ∧ Lib.BuilderAt 101 5 B b (.pointer (some ⟨b, 0, none⟩)) bs w' ∧ Below B w w' ∧ Lib.OthersKept 5 (some b) w w' := by
  rcases h with h | h
  · refine (check_fresh b w h.cell0 h.shape h.frozen0).mono ?_
    rintro e w' ⟨rfl, rfl⟩
    exact ⟨rfl, h.used _, (Below.refl B w).setCell (p := ⟨b, 0, none⟩) h.1 _, (Lib.OthersKept.refl _ _ w).setCell ⟨b, 0, none⟩ rfl _⟩
  · refine (check_used b w h.cell0).mono ?_
    rintro e w' ⟨rfl, rfl⟩
    exact ⟨rfl, h, Below.refl B _, Lib.OthersKept.refl _ _ _⟩
theorem ownb_kind {w : World} {B : Nat} {e : TypeId} {v : Value} {n : Nat} {xs : List Value} (h : w.ownsRow B e 1 v n xs) : ∀ g, v.ownBlock = some g → ∃ c fz, w.heap[g]? = some (.cells c e fz) := Lib.ownsRowF_kind (World.ownsRowF_of h)
set_option maxHeartbeats 1000000 in
set_option maxRecDepth 100000 in
theorem write_any (B b : Nat) (l : List UInt8) (s : ByteArray) (w : World) (h : Bld B b l w) (hl : l.length + s.size ≤ 140737488355328) (hB : B ≤ w.heap.size) :
    Calls Tryz.prog 52 #[.pointer (some ⟨b, 0, none⟩), .string s] w fun e w' => e = .returned (.tuple #[.int .i64 s.size, .nilIface]) ∧ Bld B b (l ++ s.data.toList) w' ∧ Below B w w' ∧ Lib.OthersKept 5 (some b) w w' := by
  obtain ⟨i0, hi, hz0, hz1, hz2⟩ := info_parts infob_u8
  have hbl := bytes_len l
  have hck := check_any B b (Lib.byteCells l) w h
  unfold Bld
  rw [bytes_app]
  generalize Lib.byteCells l = bs at *
  rw [← hbl] at hl
  have HL := Lib.hid hl
  clear hbl h hl
  go_enter Tryz.func52, Tryz.ntmps52
  go_wp2_with fail
  refine hck.mono ?_
  rintro e w1 ⟨rfl, h1, hb1, hk1⟩
  obtain ⟨hBb, v, hbk, hown, hne⟩ := h1
  have c0 : w1.cell? ⟨b, 0, none⟩ = some (.pointer (some ⟨b, 0, none⟩)) := by rw [Lib.cell_of_heap hbk]; rfl
  have c1 : w1.cell? ⟨b, 1, none⟩ = some v := by rw [Lib.cell_of_heap hbk]; rfl
  have hz1' := hb1.size
  have HZ := Lib.hid hz1'
  clear hz1'
  go_wp2_with (at_builtin; refine Lib.wpList_append_own_string _ rfl _ _ 99 9 rfl B 5 i0 Tryz.underlying99 Tryz.underlying9 hi hz0 hz1 hz2 _ _ _ rfl hown s rfl (by have := HL.out; unfold maxLen; omega) (by have := HL.out; omega) (by have := HZ.out; omega) ?_; intro v' w2 hown' hgrow _; have hlt := lt_heap hbk; have hb2 : w2.heap[b]? = some (.cells #[.pointer (some ⟨b, 0, none⟩), v] 101 (0, 0)) := (hgrow.block b hlt (fun e => hne e.symm)).trans hbk; have d0 : w2.cell? ⟨b, 0, none⟩ = some (.pointer (some ⟨b, 0, none⟩)) := (by rw [Lib.cell_of_heap hb2]; rfl); have d1 : w2.cell? ⟨b, 1, none⟩ = some v := (by rw [Lib.cell_of_heap hb2]; rfl); have f1 : w2.frozen? ⟨b, 1, none⟩ = false := Lib.frozen_of_heap hb2 1; obtain ⟨ao, n', cap, rfl⟩ : ∃ ao n' cap, v' = .slice ao n' cap := (by
    rcases hown'.2 with ⟨hv, _⟩ | ⟨g, cap, cur, hv, _⟩
    · exact ⟨_, _, _, hv⟩
    · exact ⟨_, _, _, hv⟩))
  go_ret2
  refine ⟨rfl, .inr ?_, ?_, (hk1.grown hgrow (ownb_kind hown)).setCell ⟨b, 1, none⟩ rfl _⟩
  · exact Lib.BuilderAt.put (T := 101) (e := 5) hBb hb2 (bs' := bs ++ Lib.strCells s) (by simpa [Lib.strCells_length] using hown') (by decide)
  · exact (hb1.grown hgrow (Nat.le_trans hB hb1.size) (fun k hk => (hown.lt k hk).1)).setCell (p := ⟨b, 1, none⟩) hBb _
theorem string_any (B b : Nat) (l : List UInt8) (w : World) (h : Bld B b l w) (hB : B ≤ w.heap.size) :
    Calls Tryz.prog 54 #[.pointer (some ⟨b, 0, none⟩)] w fun e w' => e = .returned (.string ⟨l.toArray⟩) ∧ Below B w w' := by
  refine (Any.Builder_String_any_k Tryz.lays169 ⟨⟨by kernel_rfl, by kernel_rfl⟩, by kernel_rfl, by intro w; kernel_rfl, by intro w; kernel_rfl, by intro w; kernel_rfl, by kernel_rfl, by kernel_rfl, by kernel_rfl, by decide⟩ B b l w (Lib.IsBuilderF.of h) hB).mono ?_
  rintro e w' ⟨h1, h2, h3, h4⟩
  exact ⟨h1, h3⟩
theorem Bld.lt {B b : Nat} {l : List UInt8} {w : World} (h : Bld B b l w) : b < w.heap.size ∧ B ≤ b := by
  rcases h with h | h
  · exact ⟨h.lt, h.1⟩
  · exact ⟨h.lt, h.1⟩
theorem BuilderAt_keep {B b : Nat} {p : Value} {bs : List Value} {w w' : World} (h : Lib.BuilderAt 101 5 B b p bs w) (hb : Below w.heap.size w w') : Lib.BuilderAt 101 5 B b p bs w' := by
  have hlt := h.lt
  obtain ⟨h1, v, h2, h3, h4⟩ := h
  exact ⟨h1, v, (hb.block b hlt).trans h2, ownsRow_keep h3 (fun g hg _ => hb.block g hg), h4⟩
theorem Bld.keep {B b : Nat} {l : List UInt8} {w w' : World} (h : Bld B b l w) (hb : Below w.heap.size w w') : Bld B b l w' := by
  rcases h with h | h
  · exact .inl (BuilderAt_keep h hb)
  · exact .inr (BuilderAt_keep h hb)
theorem others_keep {b : Nat} {w w' : World} (hb : Below w.heap.size w w') : Lib.OthersKept 5 (some b) w w' := fun k o hk _ _ => by
  rw [hb.block k (Array.getElem?_eq_some_iff.1 hk).1]
  exact hk
theorem others_blk {b p : Nat} {w w' : World} {t : TypeId} {cs : Array Value} (h : Lib.OthersKept 5 (some b) w w') (hp : Blk w p t cs) (hne : p ≠ b) (ht : t ≠ 5) : Blk w' p t cs :=
  h p _ hp (fun e => hne (Option.some.inj e)) (fun c fz e => by cases e; exact ht rfl)
def nameL (g : Gra) (s : Int) : List UInt8 := if 0 ≤ s then g.vars.getD s.toNat [] else 39 :: (g.terms.getD (-s - 1).toNat [] ++ [39])
theorem S_quote (x : List UInt8) : ByteArray.mk #[39] ++ S x ++ ByteArray.mk #[39] = S (39 :: (x ++ [39])) := by
  have e : ByteArray.mk #[39] = S [39] := rfl
  rw [e, S_app_, S_app_]
  rfl
set_option maxHeartbeats 2000000 in
set_option maxRecDepth 100000 in
theorem gname_any (w : World) (A : Nat → Prop) (tbo vo ro : Option Addr) (tc vc rn rc : Nat) (g : Gra) (s : Int) (hV : StrsAt w A (.slice vo g.vars.length vc) g.vars) (hT : StrsAt w A (.slice tbo g.terms.length tc) g.terms) (hs : In64x s) (hsy : symOk g.vars.length g.terms.length s = true) (hT1 : ∀ x ∈ g.terms, x.length ≤ 1000000000) :
    Calls Tryz.prog 15 #[.agg #[.slice tbo g.terms.length tc, .slice vo g.vars.length vc, .slice ro rn rc], .int .i64 s] w fun e w' => e = .returned (.string (S (nameL g s))) ∧ Below w.heap.size w w' := by
  have hbl : Below w.heap.size w (w.alloc (.cells #[.slice tbo g.terms.length tc, .slice vo g.vars.length vc, .slice ro rn rc] 26)) := (Below.refl _ w).alloc (Nat.le_refl _) _
  have b0 := Blk.new w 26 #[.slice tbo g.terms.length tc, .slice vo g.vars.length vc, .slice ro rn rc]
  have hsym := isSymbol_any (w.alloc (.cells #[.slice tbo g.terms.length tc, .slice vo g.vars.length vc, .slice ro rn rc] 26)) tbo vo ro g.terms.length tc g.vars.length vc rn rc s hs
  rw [hsy] at hsym
  have HBL := Lib.hid hbl
  by_cases h0 : 0 ≤ s
  · obtain ⟨k, rfl⟩ : ∃ k : Nat, s = k := ⟨s.toNat, by omega⟩
    have hk : k < g.vars.length := by
      unfold symOk at hsy
      rw [if_pos h0] at hsy
      have := of_decide_eq_true hsy
      omega
    obtain ⟨x, hx⟩ : ∃ x, g.vars[k]? = some x := ⟨_, List.getElem?_eq_getElem hk⟩
    obtain ⟨gb, cap', e, hg, hc⟩ := StrsAt.cell hV hx
    injection e with e1 j1 j2
    subst e1
    clear j1 j2
    have hnm : nameL g (k : Int) = x := by
      unfold nameL
      rw [if_pos h0, Int.toNat_natCast, List.getD_eq_getElem?_getD, hx]
      rfl
    rw [hnm]
    have hiv : ∀ w, Calls Tryz.prog 20 #[.int .i64 (k : Int)] w fun e w' => e = .returned (.bool true) ∧ w' = w := fun w => by have := isVar_any (k : Int) w; rwa [decide_eq_true h0] at this
    have hcw := (hbl.cell (p := ⟨gb, k, none⟩) hg).trans hc
    have hgw := Nat.lt_of_lt_of_le hg hbl.size
    generalize g.terms.length = tn at *
    generalize g.vars.length = vn at *
    clear hV hT hsy hx hc hg hbl hT1 hnm
    go_enter Tryz.func15, Tryz.ntmps15
    go_upto_region 1 with fail
    generalize w.alloc (.cells #[.slice tbo tn tc, .slice (some ⟨gb, 0, none⟩) vn vc, .slice ro rn rc] 26) = w1 at *
    have c0 : w1.cell? ⟨w.heap.size, 0, none⟩ = some (.slice tbo tn tc) := b0.cell 0
    have c1 : w1.cell? ⟨w.heap.size, 1, none⟩ = some (.slice (some ⟨gb, 0, none⟩) vn vc) := b0.cell 1
    have c2 : w1.cell? ⟨w.heap.size, 2, none⟩ = some (.slice ro rn rc) := b0.cell 2
    have l0 := b0.lt
    have HK := Lib.hid b0
    clear b0
    go_wp2_with fail
    refine hsym.mono ?_
    rintro e w2 ⟨rfl, hb2⟩
    have k1 := HK.out.below hb2 l0
    have hcw2 := (hb2.cell (p := ⟨gb, k, none⟩) hgw).trans hcw
    have HB2 := Lib.hid (HBL.out.trans (hb2.mono HBL.out.size))
    clear hsym c0 c1 c2 l0 hcw hgw hb2
    have c1 : w2.cell? ⟨w.heap.size, 1, none⟩ = some (.slice (some ⟨gb, 0, none⟩) vn vc) := k1.cell 1
    have l1 := k1.lt
    clear k1
    go_wp2_with fail
    refine (hiv _).mono ?_
    rintro e w3 ⟨rfl, rfl⟩
    go_wp2_with fail
    go_ret
    exact ⟨rfl, HB2.out⟩
  · obtain ⟨k, rfl⟩ : ∃ k : Nat, s = -1 - (k : Int) := ⟨(-1 - s).toNat, by omega⟩
    have hk : k < g.terms.length := by
      unfold symOk at hsy
      rw [if_neg h0] at hsy
      have := of_decide_eq_true hsy
      omega
    obtain ⟨x, hx⟩ : ∃ x, g.terms[k]? = some x := ⟨_, List.getElem?_eq_getElem hk⟩
    obtain ⟨gb, cap', e, hg, hc⟩ := StrsAt.cell hT hx
    injection e with e1 j1 j2
    subst e1
    clear j1 j2
    have hnm : nameL g (-1 - (k : Int)) = 39 :: (x ++ [39]) := by
      unfold nameL
      rw [if_neg h0, show (-(-1 - (k : Int)) - 1).toNat = k by omega, List.getD_eq_getElem?_getD, hx]
      rfl
    rw [hnm, ← S_quote]
    have hxl := hT1 x (List.mem_of_getElem? hx)
    have hxs : (S x).size = x.length := rfl
    have hiv : ∀ w, Calls Tryz.prog 20 #[.int .i64 (-1 - (k : Int))] w fun e w' => e = .returned (.bool false) ∧ w' = w := fun w => by have := isVar_any (-1 - (k : Int)) w; rwa [decide_eq_false h0] at this
    have hcw := (hbl.cell (p := ⟨gb, k, none⟩) hg).trans hc
    have hgw := Nat.lt_of_lt_of_le hg hbl.size
    have hxx := cmx_if _ hs
    rw [show -1 - (-1 - (k : Int)) = k by omega] at hxx
    generalize g.terms.length = tn at *
    generalize g.vars.length = vn at *
    generalize hsk : -1 - (k : Int) = s at *
    generalize S x = sx at *
    rw [← hxs] at hxl
    have hs1 : (ByteArray.mk #[39] ++ sx).size = 1 + sx.size := by rw [ByteArray.size_append]; rfl
    clear hV hT hsy hx hc hg hbl hT1 hnm hsk hxs
    go_enter Tryz.func15, Tryz.ntmps15
    go_upto_region 1 with fail
    generalize w.alloc (.cells #[.slice (some ⟨gb, 0, none⟩) tn tc, .slice vo vn vc, .slice ro rn rc] 26) = w1 at *
    have c0 : w1.cell? ⟨w.heap.size, 0, none⟩ = some (.slice (some ⟨gb, 0, none⟩) tn tc) := b0.cell 0
    have c1 : w1.cell? ⟨w.heap.size, 1, none⟩ = some (.slice vo vn vc) := b0.cell 1
    have c2 : w1.cell? ⟨w.heap.size, 2, none⟩ = some (.slice ro rn rc) := b0.cell 2
    have l0 := b0.lt
    have HK := Lib.hid b0
    clear b0
    go_wp2_with fail
    refine hsym.mono ?_
    rintro e w2 ⟨rfl, hb2⟩
    have k1 := HK.out.below hb2 l0
    have hcw2 := (hb2.cell (p := ⟨gb, k, none⟩) hgw).trans hcw
    have HB2 := Lib.hid (HBL.out.trans (hb2.mono HBL.out.size))
    clear hsym c0 c1 c2 l0 hcw hgw hb2
    have c0 : w2.cell? ⟨w.heap.size, 0, none⟩ = some (.slice (some ⟨gb, 0, none⟩) tn tc) := k1.cell 0
    have l1 := k1.lt
    clear k1
    go_wp2_with fail
    refine (hiv _).mono ?_
    rintro e w3 ⟨rfl, rfl⟩
    go_wp2_with fail
    go_ret
    exact ⟨rfl, HB2.out⟩
end YtldamieigigncaaGreatDoor.lx
end Go.Proofs

