/- the document's Reach of layer 11, and what it takes -/
import Derived.Test.YtljkobijoenabaaMh
namespace Go.Proofs.Ytljkobijoenabaa.dv
open Go.ChangeShapes Go.WideShapes Go.ChangeAt Go.RowKit Go.Maps Go.WideMaps Go.WideElems
set_option linter.unusedVariables false
set_option linter.unusedSimpArgs false
/-! the document's all -/
attribute [local go_sem] run_store_fl
def okB (S : List Bool) (none : Bool) (s : Int) : Bool := if s < 0 then !none else at_ S s
theorem allB_ok (S : List Bool) (none : Bool) (F : List Int) : allB S none F = F.all (okB S none) := rfl
theorem all_snoc (p : Int → Bool) (F : List Int) (k : Nat) (h : k < F.length) (ht : (F.take k).all p = true) : (F.take (k + 1)).all p = p (F.getD k 0) := by
  rw [List.take_succ_eq_append_getElem h, List.all_append, ht, List.getD_eq_getElem?_getD, List.getElem?_eq_getElem h]
  simp
theorem all_no (p : Int → Bool) (F : List Int) (k : Nat) (h : k < F.length) (hf : p (F.getD k 0) = false) : F.all p = false := by
  rw [List.all_eq_false]
  refine ⟨F.getD k 0, by rw [List.getD_eq_getElem?_getD, List.getElem?_eq_getElem h]; simp, by rw [hf]; decide⟩
set_option maxRecDepth 100000 in
set_option maxHeartbeats 2000000 in
theorem rall_any (w : World) (r : Rl) (ao : Option Addr) (cp : Nat) (v : Value) (S : List Bool) (none : Bool) (hr : RowAt w (.slice ao r.right.length cp) r.right) (hS : ReadB w v S) (hv : ∀ s ∈ r.right, 0 ≤ s → s.toNat < S.length) : Calls Try.prog 102 #[RlV r ao cp, v, .bool none] w fun e w' => e = .returned (.bool (allB S none r.right)) ∧ Below w.heap.size w w' := by
  obtain ⟨lf, F, wt⟩ := r
  dsimp only at hr hv
  rw [allB_ok]
  unfold RlV
  show Calls _ _ #[.agg #[.int .i64 lf, .slice ao F.length cp, .float .f64 wt], v, .bool none] w _
  have b0 := Blk.new w 52 #[.int .i64 lf, .slice ao F.length cp, .float .f64 wt]
  have hbl : Below w.heap.size w (w.alloc (.cells #[.int .i64 lf, .slice ao F.length cp, .float .f64 wt] 52)) := (Below.refl _ w).alloc (Nat.le_refl _) _
  have hr1 := hr.below hbl
  have hS1 := hS.below hbl
  generalize hW0 : w.alloc (.cells #[.int .i64 lf, .slice ao F.length cp, .float .f64 wt] 52) = w0 at *
  have c0 := b0.cell 0
  have c1 := b0.cell 1
  have c2 := b0.cell 2
  simp only [List.getElem?_toArray, List.getElem?_cons_zero, List.getElem?_cons_succ] at c0 c1 c2
  obtain ⟨ao', cp', e, hlc, hmx, _, hin, hc⟩ := hr1
  cases e
  obtain ⟨so, sc, rfl, hsm, hsc⟩ := hS1
  have hlen : F.length ≤ 9223372036854775807 := by unfold maxLen at hmx; omega
  have HC := Lib.hid hc
  have HSC := Lib.hid hsc
  have HV := Lib.hid hv
  clear hc hsc hr hS hv hin
  show Calls _ _ _ w fun e w' => e = .returned (.bool (F.all (okB S none))) ∧ Below w.heap.size w w'
  go_enter Try.func102, Try.ntmps102
  go_wp2
  go_loopw [7] (fun q wr => ∃ k : Nat, k ≤ F.length ∧ q = .int .i64 k ∧ (F.take k).all (okB S none) = true ∧ wr = w0) (fun q _ => F.length - (intOf q).toNat)
  case atStart => exact ⟨0, Nat.zero_le _, rfl, rfl, rfl⟩
  case round =>
    obtain ⟨k, hk, rfl, hall, rfl⟩ := hrel
    have HA := Lib.hid hall
    clear hall
    by_cases hlt : k < F.length
    · obtain ⟨a, rfl, hab, hca⟩ := HC.out k hlt
      have HSN := Lib.hid (all_snoc (okB S none) F k hlt HA.out)
      have HNO := Lib.hid (fun h => all_no (okB S none) F k hlt h)
      have hmem : F.getD k 0 ∈ F := by rw [List.getD_eq_getElem?_getD, List.getElem?_eq_getElem hlt]; simp
      have HVK := Lib.hid (HV.out _ hmem)
      clear hmem
      generalize F.getD k 0 = x at *
      by_cases h0 : x < 0
      · have hok : okB S none x = !none := by unfold okB; rw [if_pos h0]
        have h0' : ¬ 0 ≤ x := by omega
        cases none
        · have HOK := Lib.hid hok
          clear hok
          go_wp2
          exact ⟨⟨k + 1, hlt, congrArg (Value.int .i64) (by omega), by rw [HSN.out, HOK.out]; rfl, trivial⟩, by simp only [intOf]; omega⟩
        · have HF := Lib.hid (HNO.out hok)
          clear hok
          go_wp2
          go_ret
          exact ⟨by rw [HF.out]; rfl, hbl⟩
      · obtain ⟨j, rfl⟩ : ∃ j : Nat, x = j := ⟨x.toNat, by omega⟩
        have hjS : j < S.length := HVK.out (by omega)
        obtain ⟨sa, rfl, hsab, hsca⟩ := HSC.out j hjS
        have hok : okB S none (j : Int) = S.getD j false := by unfold okB; rw [if_neg h0]; rfl
        have hjl : (j : Int) < (S.length : Int) := by omega
        cases hb : S.getD j false
        · rw [hb] at hok hsca
          have HF := Lib.hid (HNO.out hok)
          clear hok hb
          go_wp2
          go_ret
          exact ⟨by rw [HF.out]; rfl, hbl⟩
        · rw [hb] at hok hsca
          have HOK := Lib.hid hok
          clear hok hb
          cases none
          · go_wp2
            exact ⟨⟨k + 1, hlt, congrArg (Value.int .i64) (by omega), by rw [HSN.out, HOK.out], trivial⟩, by simp only [intOf]; omega⟩
          · go_wp2
            exact ⟨⟨k + 1, hlt, congrArg (Value.int .i64) (by omega), by rw [HSN.out, HOK.out], trivial⟩, by simp only [intOf]; omega⟩
    · obtain rfl : k = F.length := by omega
      have h := HA.out
      rw [List.take_length] at h
      have HF := Lib.hid h
      clear h
      go_wp2
      go_ret
      exact ⟨by rw [HF.out]; rfl, hbl⟩
end Go.Proofs.Ytljkobijoenabaa.dv
namespace Go.Proofs.Ytljkobijoenabaa.dv
open Go.ChangeShapes Go.WideShapes Go.ChangeAt Go.RowKit Go.Maps Go.WideMaps Go.WideElems
set_option linter.unusedVariables false
set_option linter.unusedSimpArgs false
/-! the document's rounds -/
attribute [local go_sem] run_store_fl
theorem rounds_snoc (R : List Rl) (none : Bool) : ∀ (k : Nat) (S : List Bool), roundsB R none (k + 1) S = roundB none (roundsB R none k S) R (roundsB R none k S)
  | 0, S => rfl
  | k + 1, S => by
    show roundsB R none (k + 1) (roundB none S R S) = _
    rw [rounds_snoc R none k]
    rfl
theorem roundB_app (none : Bool) (S : List Bool) : ∀ (A C : List Rl) (N : List Bool), roundB none S (A ++ C) N = roundB none S C (roundB none S A N)
  | [], C, N => rfl
  | r :: A, C, N => by
    show roundB none S (A ++ C) _ = _
    rw [roundB_app none S A C]
    rfl
theorem roundB_snoc (none : Bool) (S : List Bool) (R : List Rl) (N : List Bool) (k : Nat) (r : Rl) (h : R[k]? = some r) : roundB none S (R.take (k + 1)) N = if allB S none r.right then (roundB none S (R.take k) N).set r.left.toNat true else roundB none S (R.take k) N := by
  obtain ⟨hk, rfl⟩ := List.getElem?_eq_some_iff.1 h
  rw [List.take_succ_eq_append_getElem hk, roundB_app]
  rfl
theorem marks_of_own {w : World} {B n : Nat} {v : Value} {S : List Bool} (h : w.ownsRow B 4 1 v n (BV S)) (hn : S.length = n) (hv : v ≠ .slice none 0 0) : ∃ m, MarksAt w B m v S ∧ B ≤ m := by
  subst hn
  rcases h.2 with ⟨rfl, _⟩ | ⟨g, cap, cur, rfl, hB, _⟩
  · exact absurd rfl hv
  · exact ⟨g, ⟨⟨cap, rfl⟩, h⟩, hB⟩
theorem one_bv (l : List Bool) : ∀ u ∈ BV l, u.oneCell' = true := by
  intro u hu
  simp [BV] at hu
  obtain ⟨h, rfl⟩ | ⟨h, rfl⟩ := hu <;> rfl
set_option maxRecDepth 100000 in
set_option maxHeartbeats 4000000 in
theorem rounds_any (w : World) (B : Nat) (ta va : Option Addr) (tl tc vl vc : Nat) (rv : Value) (nn : Bool) (R : List Rl) (hR : RulesAt B w rv R) (hB : B ≤ w.heap.size) (hl : ∀ r ∈ R, 0 ≤ r.left ∧ r.left < vl) (hvr : ∀ r ∈ R, ∀ s ∈ r.right, 0 ≤ s → s.toNat < vl) (hv : vl ≤ 1000) :
    Calls Try.prog 89 #[.agg #[.slice ta tl tc, .slice va vl vc, rv], .bool nn] w fun e w' => ∃ v m, e = .returned v ∧ MarksAt w' w.heap.size m v (roundsB R nn vl (List.replicate vl false)) ∧ Below w.heap.size w w' := by
  obtain ⟨i0, hi, hz0, hz1, hz2⟩ := info_parts info_bool
  obtain ⟨ra, rc, rfl, hn, hrl⟩ := id hR
  have b0 := Blk.new w 25 #[.slice ta tl tc, .slice va vl vc, .slice ra R.length rc]
  have hbl : Below w.heap.size w (w.alloc (.cells #[.slice ta tl tc, .slice va vl vc, .slice ra R.length rc] 25)) := (Below.refl _ w).alloc (Nat.le_refl _) _
  have HR := Lib.hid hR
  have hn' : R.length ≤ 9223372036854775807 := by unfold maxLen at hn; omega
  generalize hW0 : w.alloc (.cells #[.slice ta tl tc, .slice va vl vc, .slice ra R.length rc] 25) = w0 at *
  have hz : w0.heap.size = w.heap.size + 1 := by rw [← hW0]; simp
  have c0 := b0.cell 0
  have c1 := b0.cell 1
  have c2 := b0.cell 2
  simp only [List.getElem?_toArray, List.getElem?_cons_zero, List.getElem?_cons_succ] at c0 c1 c2
  have HL := Lib.hid hl
  have HVR := Lib.hid hvr
  clear hR hrl hl hvr
  go_enter Try.func89, Try.ntmps89
  go_wp2_with (at_make; refine wpList_make_full _ rfl _ _ 55 rfl w.heap.size 4 i0 (.bool false) 1 Try.underlying55 hi hz0 hz1 .i64 .i64 _ _ vl rfl rfl rfl rfl (by rw [hz2]; omega) (by unfold maxLen; omega) (by omega) ?_; intro w1 hown1 hgrow1)
  rw [show (Value.bool false).cells = #[.bool false] from rfl, toList_madeCells_one, Nat.mul_one, ← bv_rep, hz] at hown1
  have hB1 : Below (w.heap.size + 1) w0 w1 := (Below.refl (w.heap.size + 1) w0).grown hgrow1 (by omega) (fun k e => by cases e)
  have hrpl : (List.replicate vl false).length = vl := by simp
  have hm1 : MarksAt w1 w.heap.size (w.heap.size + 1) (.slice (some ⟨w.heap.size + 1, 0, none⟩) vl vl) (List.replicate vl false) := ⟨⟨vl, by rw [hrpl]⟩, by rw [hrpl]; exact hown1⟩
  go_loopw [5, 6] (fun ov i wr => ∃ (j m : Nat), j ≤ vl ∧ i = .int .i64 j ∧ MarksAt wr w.heap.size m ov (roundsB R nn j (List.replicate vl false)) ∧ Below (w.heap.size + 1) w0 wr) (fun _ i _ => vl - (intOf i).toNat)
  case atStart => exact ⟨0, _, Nat.zero_le _, rfl, hm1, hB1⟩
  case round =>
    obtain ⟨j, m, hj, rfl, hmk, hbr⟩ := hrel
    have hzr := hbr.size
    have hbw : Below w.heap.size w wr := hbl.trans (hbr.mono (by omega))
    have bg := b0.below hbr (by omega)
    have d0 := bg.cell 0
    have d1 := bg.cell 1
    have d2 := bg.cell 2
    simp only [List.getElem?_toArray, List.getElem?_cons_zero, List.getElem?_cons_succ] at d0 d1 d2
    have HSN := Lib.hid (rounds_snoc R nn j (List.replicate vl false))
    have HSL : Hid ((roundsB R nn j (List.replicate vl false)).length = vl) := Lib.hid (by rw [rounds_len]; exact hrpl)
    have HMK := Lib.hid hmk
    clear hm1 hown1 hB1
    by_cases hlt : j < vl
    · generalize hSj : roundsB R nn j (List.replicate vl false) = S at *
      have hmlt := marks_lt hmk
      have hSl : S.length ≤ 1000 := by have := HSL.out; omega
      obtain ⟨⟨cap, rfl⟩, hown⟩ := hmk
      have hcel := (hown.alloc (.cells #[] 4)).cells (g := m) rfl
      have HCEL := Lib.hid hcel
      clear hcel hown hSj
      go_wp2_with (at_builtin; go_must (refine wpList_append_own _ rfl _ _ 55 rfl wr.heap.size 4 i0 (.bool false) 1 1 Try.underlying55 hi hz0 hz1 hz2 rfl (by decide) _ _ _ rfl (World.ownsRow_lit wr #[] 0 (Nat.le_refl _) (by decide) rfl) ⟨m, 0, none⟩ S.length cap (BV S) rfl (by simp [BV]) HCEL.out (one_bv S) (by unfold maxLen; omega) (by omega) (by simp) ?_); intro v' w2 hown2 hgrow2 hnil)
      rw [Nat.zero_add, List.nil_append] at hown2
      have hvn : v' ≠ .slice none 0 0 := fun h => absurd (show Value.slice (some ⟨wr.heap.size, 0, none⟩) 0 0 = .slice none 0 0 from (hnil.1 h).1) (by simp)
      have hg2 : (wr.alloc (.cells #[] 4)).grownBy w2 (some wr.heap.size) := hgrow2
      obtain ⟨m2, hm2, hge⟩ := marks_of_own hown2 rfl hvn
      have hm2w := marks_weak hm2 (show w.heap.size ≤ wr.heap.size by omega)
      have hmo := marks_far (marks_alloc HMK.out (.cells #[] 4)) hg2 (by omega)
      have hB2 : Below (w.heap.size + 1) w0 w2 := (hbr.alloc (by omega) (.cells #[] 4)).grown hg2 (by simp; omega) (fun k e => by cases e; omega)
      have HM2 := Lib.hid hm2w
      have HMO := Lib.hid hmo
      have hne : m ≠ m2 := by omega
      obtain ⟨⟨c2', rfl⟩, _⟩ := hm2
      clear hown2 hgrow2 hnil hvn hg2 hm2w hmo HMK d0 d1 d2 bg HCEL
      go_wp2
      go_loopw [8] (fun q wi => ∃ k : Nat, k ≤ R.length ∧ q = .int .i64 k ∧ MarksAt wi w.heap.size m2 (.slice (some ⟨m2, 0, none⟩) S.length c2') (roundB nn S (R.take k) S) ∧ MarksAt wi w.heap.size m (.slice (some ⟨m, 0, none⟩) S.length cap) S ∧ Below (w.heap.size + 1) w0 wi) (fun q _ => R.length - (intOf q).toNat)
      case atStart => exact ⟨0, Nat.zero_le _, rfl, HM2.out, HMO.out, hB2⟩
      case round =>
        obtain ⟨k, hk, rfl, hnx, hou, hbi⟩ := hrel
        have hzi := hbi.size
        have hbwi : Below w.heap.size w wr := hbl.trans (hbi.mono (by omega))
        have bgi := b0.below hbi (by omega)
        have p0 := bgi.cell 0
        have p1 := bgi.cell 1
        have p2 := bgi.cell 2
        simp only [List.getElem?_toArray, List.getElem?_cons_zero, List.getElem?_cons_succ] at p0 p1 p2
        have HNX := Lib.hid hnx
        have HOU := Lib.hid hou
        clear hB2 hnx
        by_cases hlt2 : k < R.length
        · obtain ⟨r, hrk⟩ : ∃ r, R[k]? = some r := ⟨_, List.getElem?_eq_getElem hlt2⟩
          have HRS := Lib.hid (roundB_snoc nn S R S k r hrk)
          have HRL : Hid ((roundB nn S (R.take k) S).length = S.length) := Lib.hid (round_len nn S _ _)
          obtain ⟨hl0, hl1⟩ := HL.out r (List.mem_of_getElem? hrk)
          have hvr' := HVR.out r (List.mem_of_getElem? hrk)
          obtain ⟨ra', rc', er, _, hr2⟩ := HR.out.far (hbwi.mono hB)
          cases er
          obtain ⟨a2, rfl, hab2, ao2, c2, h1, h2, h3, h4, h5, h6, h7, h8⟩ := hr2 k r hrk
          rw [addf a2 (k * 3) 1 (by decide)] at h2
          rw [addf a2 (k * 3) 2 (by decide)] at h3
          have hrow : RowAt wr (.slice ao2 r.right.length c2) r.right := ⟨ao2, c2, rfl, h4, h5, h6, h8.1, fun i hi => by
            obtain ⟨a3, e3, hab3, hca⟩ := h7 i hi
            exact ⟨a3, e3, by omega, hca⟩⟩
          have hall := rall_any wr r ao2 c2 _ S nn hrow hou.read (fun s hs h0 => by have := hvr' s hs h0; have := HSL.out; omega)
          clear hr2 h7 h8 hrow hou h4 h5 h6
          obtain ⟨lf, rt, wt⟩ := r
          dsimp only at *
          obtain ⟨lk, rfl⟩ : ∃ lk : Nat, lf = lk := ⟨lf.toNat, by omega⟩
          have hlk : lk < S.length := by have := HSL.out; omega
          unfold RlV at hall
          dsimp only at hall
          generalize hN : roundB nn S (R.take k) S = N at *
          clear hN
          cases hb : allB S nn rt
          · rw [hb] at hall
            have HRS2 : Hid (roundB nn S (R.take (k + 1)) S = N) := Lib.hid (by have h := HRS.out; rw [hb] at h; exact h)
            go_wp2_with fail
            refine hall.mono ?_
            rintro e w5 ⟨rfl, hb5⟩
            go_wp2
            exact ⟨⟨k + 1, hlt2, congrArg (Value.int .i64) (by omega), by rw [HRS2.out]; exact marks_below HNX.out hb5, marks_below HOU.out hb5, hbi.trans (hb5.mono (by omega))⟩, by simp only [intOf]; omega⟩
          · rw [hb] at hall
            have HRS2 : Hid (roundB nn S (R.take (k + 1)) S = N.set lk true) := Lib.hid (by have h := HRS.out; rw [hb] at h; exact h)
            go_wp2_with fail
            refine hall.mono ?_
            rintro e w5 ⟨rfl, hb5⟩
            have b5 := bgi.below hb5 bgi.lt
            have q0 := b5.cell 0
            have q1 := b5.cell 1
            have q2 := b5.cell 2
            simp only [List.getElem?_toArray, List.getElem?_cons_zero, List.getElem?_cons_succ] at q0 q1 q2
            have h15 := (hb5.cell (p := a2.add (k * 3)) (by rw [add_block]; omega)).trans h1
            have hN5 := marks_below HNX.out hb5
            have hO5 := marks_below HOU.out hb5
            have hown5 := hN5.2
            rw [HRL.out] at hown5
            have hlkN : lk < N.length := by rw [HRL.out]; exact hlk
            have hcw : w5.cell? ⟨m2, lk, none⟩ = some (.bool (N.getD lk false)) := by
              rw [hown5.cellAt lk (by omega)]
              simp [BV, List.getD_eq_getElem?_getD, List.getElem?_eq_getElem hlkN]
            have hfw := hown5.frozenAt lk
            obtain ⟨o1, o2⟩ := hown5.stored lk (.bool true)
            rw [bv_set] at o1
            have hz5 := hb5.size
            have hNf : MarksAt (w5.setCell ⟨m2, lk, none⟩ (.bool true)) w.heap.size m2 (.slice (some ⟨m2, 0, none⟩) S.length c2') (N.set lk true) := ⟨⟨c2', by rw [set_len, HRL.out]⟩, by rw [set_len, HRL.out]; exact o1⟩
            have hOf := marks_far hO5 o2 hne
            have hBf : Below (w.heap.size + 1) w0 (w5.setCell ⟨m2, lk, none⟩ (.bool true)) := (hbi.trans (hb5.mono (by omega))).grown o2 (by omega) (fun k e => by cases e; omega)
            have HNF := Lib.hid hNf
            have HOF := Lib.hid hOf
            have HBF := Lib.hid hBf
            clear hNf hOf hBf o1 o2 hown5 hN5 hO5 hall h1 h2 h3 p0 p1 p2
            generalize N.getD lk false = bb at *
            go_wp2
            exact ⟨⟨k + 1, hlt2, congrArg (Value.int .i64) (by omega), by rw [HRS2.out]; exact HNF.out, HOF.out, HBF.out⟩, by simp only [intOf]; omega⟩
        · obtain rfl : k = R.length := by omega
          have h := HNX.out
          rw [List.take_length] at h
          have H := Lib.hid h
          have hlt' := hlt
          clear h
          go_wp2
          exact ⟨⟨j + 1, m2, hlt', congrArg (Value.int .i64) (by omega), by rw [HSN.out]; exact H.out, hbi⟩, by simp only [intOf]; omega⟩
    · obtain rfl : vl = j := by omega
      obtain ⟨⟨cap, rfl⟩, _⟩ := hmk
      have hmk2 := HMK.out
      go_wp2
      go_ret
      exact ⟨_, m, rfl, HMK.out, hbw⟩
end Go.Proofs.Ytljkobijoenabaa.dv
namespace Go.Proofs.Ytljkobijoenabaa.dv
open Go.ChangeShapes Go.WideShapes Go.ChangeAt Go.RowKit Go.Maps Go.WideMaps Go.WideElems
set_option linter.unusedVariables false
set_option linter.unusedSimpArgs false
/-! the document's Nullable -/
attribute [local go_sem] run_store_fl
set_option maxRecDepth 100000 in
set_option maxHeartbeats 1000000 in
theorem rnullable_any (w : World) (B : Nat) (ta va : Option Addr) (tl tc vl vc : Nat) (rv : Value) (R : List Rl) (hR : RulesAt B w rv R) (hB : B ≤ w.heap.size) (hl : ∀ r ∈ R, 0 ≤ r.left ∧ r.left < vl) (hvr : ∀ r ∈ R, ∀ s ∈ r.right, 0 ≤ s → s.toNat < vl) (hv : vl ≤ 1000) :
    Calls Try.prog 77 #[.agg #[.slice ta tl tc, .slice va vl vc, rv]] w fun e w' => ∃ v m, e = .returned v ∧ MarksAt w' w.heap.size m v (roundsB R true vl (List.replicate vl false)) ∧ Below w.heap.size w w' := by
  obtain ⟨ra, rc, rfl, hn, _⟩ := id hR
  have b0 := Blk.new w 25 #[.slice ta tl tc, .slice va vl vc, .slice ra R.length rc]
  have c0 := b0.cell 0
  have c1 := b0.cell 1
  have c2 := b0.cell 2
  simp only [List.getElem?_toArray, List.getElem?_cons_zero, List.getElem?_cons_succ] at c0 c1 c2
  have hbl : Below w.heap.size w (w.alloc (.cells #[.slice ta tl tc, .slice va vl vc, .slice ra R.length rc] 25)) := (Below.refl _ w).alloc (Nat.le_refl _) _
  have hrd := rounds_any (w.alloc (.cells #[.slice ta tl tc, .slice va vl vc, .slice ra R.length rc] 25)) B ta va tl tc vl vc (.slice ra R.length rc) true R (hR.far (hbl.mono hB)) (by rw [World.size_alloc]; omega) hl hvr hv
  clear hR hl hvr
  go_enter Try.func77, Try.ntmps77
  go_wp2_with fail
  refine hrd.mono ?_
  rintro e w1 ⟨v, m, rfl, hm, hb1⟩
  have HM := Lib.hid (marks_weak hm (show w.heap.size ≤ _ by rw [World.size_alloc]; omega))
  clear hm
  go_wp2
  go_ret
  exact ⟨v, m, rfl, HM.out, hbl.trans (hb1.mono (by rw [World.size_alloc]; omega))⟩
end Go.Proofs.Ytljkobijoenabaa.dv
namespace Go.Proofs.Ytljkobijoenabaa.dv
open Go.ChangeShapes Go.WideShapes Go.ChangeAt Go.RowKit Go.Maps Go.WideMaps Go.WideElems
set_option linter.unusedVariables false
set_option linter.unusedSimpArgs false
/-! the document's First -/
attribute [local go_sem] run_store_fl
theorem leadF_step {vl : Nat} {p : Int → Bool} {s : Int} {F : List Int} {u : Nat} (hs : 0 ≤ s → s < vl) : ((u : Int) ∈ leadF vl p (s :: F)) ↔ s = u ∨ (0 ≤ s ∧ p s = true ∧ (u : Int) ∈ leadF vl p F) := by
  rw [leadF]
  by_cases h0 : 0 ≤ s
  · rw [if_pos ⟨h0, hs h0⟩]
    by_cases hp : p s = true
    · rw [if_pos hp, List.mem_cons]
      exact ⟨fun h => h.elim (fun e => .inl e.symm) (fun e => .inr ⟨h0, hp, e⟩), fun h => h.elim (fun e => .inl e.symm) (fun e => .inr e.2.2)⟩
    · rw [if_neg hp, List.mem_singleton]
      exact ⟨fun e => .inl e.symm, fun h => h.elim (fun e => e.symm) (fun e => absurd e.2.1 hp)⟩
  · rw [if_neg (fun h => h0 h.1)]
    exact ⟨(fun h => by cases h), fun h => h.elim (fun e => by omega) (fun e => absurd e.1 h0)⟩
theorem fst1_drop {vl : Nat} {p : Int → Bool} {R : List Rl} {k x y : Nat} {r : Rl} (h : R[k]? = some r) : fst1 vl p (R.drop k) x y = (decide (r.left = (x : Int)) && decide ((y : Int) ∈ leadF vl p r.right) || fst1 vl p (R.drop (k + 1)) x y) := by
  obtain ⟨hk, rfl⟩ := List.getElem?_eq_some_iff.1 h
  rw [List.drop_eq_getElem_cons hk]
  rfl
set_option maxRecDepth 100000 in
set_option maxHeartbeats 4000000 in
theorem rstart_any (w : World) (B : Nat) (ta va : Option Addr) (tl tc vl vc : Nat) (rv : Value) (R : List Rl) (hR : RulesAt B w rv R) (hB : B ≤ w.heap.size) (hl : ∀ r ∈ R, 0 ≤ r.left ∧ r.left < vl) (hvr : ∀ r ∈ R, ∀ s ∈ r.right, 0 ≤ s → s < vl) (hv : vl ≤ 1000) (v u : Nat) (hvv : v < vl) (huu : u < vl) :
    Calls Try.prog 59 #[.agg #[.slice ta tl tc, .slice va vl vc, rv], .int .i64 v, .int .i64 u] w fun e w' => e = .returned (.bool (fst1 vl (fun x => at_ (roundsB R true vl (List.replicate vl false)) x) R v u)) ∧ Below w.heap.size w w' := by
  obtain ⟨ra, rc, rfl, hn, _⟩ := id hR
  have b0 := Blk.new w 25 #[.slice ta tl tc, .slice va vl vc, .slice ra R.length rc]
  have hbl : Below w.heap.size w (w.alloc (.cells #[.slice ta tl tc, .slice va vl vc, .slice ra R.length rc] 25)) := (Below.refl _ w).alloc (Nat.le_refl _) _
  have hnul := rnullable_any (w.alloc (.cells #[.slice ta tl tc, .slice va vl vc, .slice ra R.length rc] 25)) B ta va tl tc vl vc (.slice ra R.length rc) R (hR.far (hbl.mono hB)) (by rw [World.size_alloc]; omega) hl (fun r hr s hs h0 => by have := hvr r hr s hs h0; omega) hv
  have hR63 : R.length ≤ 9223372036854775807 := by unfold maxLen at hn; omega
  have HR := Lib.hid hR
  have HL := Lib.hid hl
  have HVR := Lib.hid hvr
  have HB0 := Lib.hid b0
  have HBL := Lib.hid hbl
  have c0 := b0.cell 0
  have c1 := b0.cell 1
  have c2 := b0.cell 2
  simp only [List.getElem?_toArray, List.getElem?_cons_zero, List.getElem?_cons_succ] at c0 c1 c2
  obtain ⟨E, hEe⟩ : ∃ E, E = roundsB R true vl (List.replicate vl false) := ⟨_, rfl⟩
  have hEl : E.length = vl := by rw [hEe, rounds_len]; simp
  rw [← hEe] at hnul ⊢
  have HEL := Lib.hid hEl
  obtain ⟨b, hb⟩ : ∃ b, b = fst1 vl (fun x => at_ E x) R v u := ⟨_, rfl⟩
  rw [← hb]
  have HB := Lib.hid hb
  clear hR hl hvr b0 hbl hEe hEl hb
  go_enter Try.func59, Try.ntmps59
  go_wp2_with fail
  refine hnul.mono ?_
  rintro e w1 ⟨ev, em, rfl, hE, hb1⟩
  have hw1 : Below w.heap.size w w1 := HBL.out.trans (hb1.mono (by simp))
  have bg := HB0.out.below hb1 (by simp)
  have g2 := bg.cell 2
  simp only [List.getElem?_toArray, List.getElem?_cons_zero, List.getElem?_cons_succ] at g2
  have HE := Lib.hid hE
  obtain ⟨⟨ec, rfl⟩, _⟩ := hE
  rw [HEL.out] at HE ⊢
  have HW1 := Lib.hid hw1
  clear hb1 hw1 bg hnul c0 c1 c2
  go_wp2
  go_loopw [8] (fun q wr => ∃ k : Nat, k ≤ R.length ∧ q = .int .i64 k ∧ b = fst1 vl (fun x => at_ E x) (R.drop k) v u ∧ wr = w1) (fun q _ => R.length - (intOf q).toNat)
  case atStart => exact ⟨0, Nat.zero_le _, rfl, HB.out, by first | exact rfl | trivial⟩
  case round =>
    obtain ⟨k, hk, rfl, hbk, hww⟩ := hrel
    obtain rfl : w1 = wr := hww.symm
    clear hww
    have HBK := Lib.hid hbk
    clear hbk
    by_cases hlt : k < R.length
    · obtain ⟨r, hrk⟩ : ∃ r, R[k]? = some r := ⟨_, List.getElem?_eq_getElem hlt⟩
      have hrm := List.mem_of_getElem? hrk
      obtain ⟨hl0, hl1⟩ := HL.out r hrm
      have hvr := HVR.out r hrm
      have hfd := fst1_drop (vl := vl) (p := fun x => at_ E x) (x := v) (y := u) hrk
      rw [← HBK.out] at hfd
      obtain ⟨ra', rc', er, _, hr2⟩ := HR.out.far (HW1.out.mono hB)
      cases er
      obtain ⟨a2, rfl, hab2, ao2, c2, h1, h2, h3, h4, h5, h6, h7, h8⟩ := hr2 k r hrk
      rw [addf a2 (k * 3) 1 (by decide)] at h2
      obtain ⟨lf, F, wt⟩ := r
      dsimp only at hl0 hl1 h1 h2 h3 h4 h5 h6 h7 h8 hvr hfd
      obtain ⟨lv, rfl⟩ : ∃ lv : Nat, lf = lv := ⟨lf.toNat, by omega⟩
      have HFD := Lib.hid hfd
      have HVF := Lib.hid hvr
      have HF7 := Lib.hid h7
      have hF63 : F.length ≤ 9223372036854775807 := by unfold maxLen at h5; omega
      have hi0 : (0 : Int) ≤ (k : Int) := by omega
      have hi1 : (k : Int) < (R.length : Int) := by omega
      clear hr2 h3 h4 h5 h6 h7 h8 hrk hrm hvr hfd
      by_cases hlv : lv = v
      · have hne : ((lv : Int) != (v : Int)) = false := by simp [hlv]
        have hfd2 : b = (decide ((u : Int) ∈ leadF vl (fun x => at_ E x) F) || fst1 vl (fun x => at_ E x) (R.drop (k + 1)) v u) := by
          rw [HFD.out, decide_eq_true (show ((lv : Int)) = (v : Int) by omega), Bool.true_and]
        have HFD2 := Lib.hid hfd2
        clear hfd2
        go_wp2
        go_loopw [9] (fun q wr => ∃ j : Nat, j ≤ F.length ∧ q = .int .i64 j ∧ (((u : Int) ∈ leadF vl (fun x => at_ E x) F) ↔ ((u : Int) ∈ leadF vl (fun x => at_ E x) (F.drop j))) ∧ wr = w1) (fun q _ => F.length - (intOf q).toNat)
        case atStart => exact ⟨0, Nat.zero_le _, rfl, by simp, by first | exact rfl | trivial⟩
        case round =>
          obtain ⟨j, hj, rfl, hiff, hww⟩ := hrel
          obtain rfl : w1 = wr := hww.symm
          clear hww
          have HIFF := Lib.hid hiff
          clear hiff
          by_cases hltj : j < F.length
          · obtain ⟨a3, rfl, hab3, hca⟩ := HF7.out j hltj
            have hdr : F.drop j = F.getD j 0 :: F.drop (j + 1) := by
              rw [List.getD_eq_getElem?_getD, List.getElem?_eq_getElem hltj, List.drop_eq_getElem_cons hltj]; rfl
            have hsv := HVF.out (F.getD j 0) (by rw [List.getD_eq_getElem?_getD, List.getElem?_eq_getElem hltj]; exact List.getElem_mem _)
            have hif := HIFF.out
            rw [hdr, leadF_step hsv] at hif
            have HIF := Lib.hid hif
            have hj0 : (0 : Int) ≤ (j : Int) := by omega
            have hj1 : (j : Int) < (F.length : Int) := by omega
            clear hdr hif
            generalize F.getD j 0 = s at *
            by_cases hsu : s = (u : Int)
            · subst hsu
              have hbt : b = true := by rw [HFD2.out, decide_eq_true (HIF.out.2 (.inl rfl))]; rfl
              subst hbt
              have he : ((u : Int) == (u : Int)) = true := by simp
              go_wp2
              go_ret
              exact ⟨rfl, HW1.out⟩
            · have he : (s == (u : Int)) = false := by simpa using hsu
              by_cases hs0 : 0 ≤ s
              · have hs1 := hsv hs0
                obtain ⟨sn, rfl⟩ : ∃ sn : Nat, s = sn := ⟨s.toNat, by omega⟩
                have hsn : sn < vl := by omega
                have hcE : w1.cell? ⟨em, sn, none⟩ = some (.bool (E.getD sn false)) := by
                  have h9 := HE.out.2
                  rw [HEL.out] at h9
                  rw [h9.cellAt sn (by omega)]
                  simp [BV, List.getD_eq_getElem?_getD, List.getElem?_eq_getElem (show sn < E.length by rw [HEL.out]; exact hsn)]
                have hat : at_ E (sn : Int) = E.getD sn false := rfl
                have hif := HIF.out
                rw [hat] at hif
                have HIF2 := Lib.hid hif
                clear hif hat
                have hd0 : decide ((sn : Int) < 0) = false := decide_eq_false (by omega)
                cases hb : E.getD sn false
                · rw [hb] at hcE
                  have hno : ¬ ((u : Int) ∈ leadF vl (fun x => at_ E x) F) := fun h => (HIF2.out.1 h).elim hsu (fun h => by rw [hb] at h; cases h.2.1)
                  have hbn : b = fst1 vl (fun x => at_ E x) (R.drop (k + 1)) v u := by rw [HFD2.out, decide_eq_false hno]; rfl
                  have HBN := Lib.hid hbn
                  clear hb hno hbn
                  go_wp2
                  exact ⟨⟨k + 1, hlt, congrArg (Value.int .i64) (by omega), HBN.out, by first | exact rfl | trivial⟩, by simp only [intOf]; omega⟩
                · rw [hb] at hcE
                  have hnx : ((u : Int) ∈ leadF vl (fun x => at_ E x) F) ↔ ((u : Int) ∈ leadF vl (fun x => at_ E x) (F.drop (j + 1))) := HIF2.out.trans ⟨fun h => h.elim (fun e => absurd e hsu) (fun e => e.2.2), fun h => .inr ⟨hs0, hb, h⟩⟩
                  have HNX := Lib.hid hnx
                  clear hb hnx
                  go_wp2
                  exact ⟨⟨j + 1, hltj, congrArg (Value.int .i64) (by omega), HNX.out, by first | exact rfl | trivial⟩, by simp only [intOf]; omega⟩
              · have hd0 : decide (s < 0) = true := decide_eq_true (by omega)
                have hno : ¬ ((u : Int) ∈ leadF vl (fun x => at_ E x) F) := fun h => (HIF.out.1 h).elim hsu (fun h => hs0 h.1)
                have hbn : b = fst1 vl (fun x => at_ E x) (R.drop (k + 1)) v u := by rw [HFD2.out, decide_eq_false hno]; rfl
                have HBN := Lib.hid hbn
                clear hno hbn
                go_wp2
                exact ⟨⟨k + 1, hlt, congrArg (Value.int .i64) (by omega), HBN.out, by first | exact rfl | trivial⟩, by simp only [intOf]; omega⟩
          · obtain rfl : j = F.length := by omega
            have hno : ¬ ((u : Int) ∈ leadF vl (fun x => at_ E x) F) := fun h => by have := HIFF.out.1 h; rw [List.drop_length] at this; cases this
            have hbn : b = fst1 vl (fun x => at_ E x) (R.drop (k + 1)) v u := by rw [HFD2.out, decide_eq_false hno]; rfl
            have HBN := Lib.hid hbn
            clear hno hbn
            go_wp2
            exact ⟨⟨k + 1, hlt, congrArg (Value.int .i64) (by omega), HBN.out, by first | exact rfl | trivial⟩, by simp only [intOf]; omega⟩
      · have hne : ((lv : Int) != (v : Int)) = true := by simp; omega
        have hbn : b = fst1 vl (fun x => at_ E x) (R.drop (k + 1)) v u := by
          rw [HFD.out, decide_eq_false (show ¬ ((lv : Int)) = (v : Int) by omega)]; rfl
        have HBN := Lib.hid hbn
        clear hbn
        go_wp2
        exact ⟨⟨k + 1, hlt, congrArg (Value.int .i64) (by omega), HBN.out, by first | exact rfl | trivial⟩, by simp only [intOf]; omega⟩
    · obtain rfl : k = R.length := by omega
      have hbf : b = false := by rw [HBK.out, List.drop_length]; rfl
      subst hbf
      go_wp2
      go_ret
      exact ⟨rfl, HW1.out⟩
end Go.Proofs.Ytljkobijoenabaa.dv
namespace Go.Proofs.Ytljkobijoenabaa.dv
open Go.ChangeShapes Go.WideShapes Go.ChangeAt Go.RowKit Go.Maps Go.WideMaps Go.WideElems
set_option linter.unusedVariables false
set_option linter.unusedSimpArgs false
/-! the document's Reach: closed in its place, cell by cell -/
def stB (M : List (List Bool)) (v u : Nat) (b : Bool) : List (List Bool) := M.set v ((M.getD v []).set u b)
theorem sq_stB {n : Nat} {M : List (List Bool)} (h : Sq n M) (v u : Nat) (b : Bool) (hv : v < n) : Sq n (stB M v u b) := sq_set h v _ (by simpa using h.2 v hv)
theorem stB_at {n : Nat} {M : List (List Bool)} (h : Sq n M) (v u : Nat) (b : Bool) (hv : v < n) (hu : u < n) (x y : Nat) : matF (stB M v u b) x y = if x = v ∧ y = u then b else matF M x y := by
  unfold matF stB
  rw [getD_setM _ _ _ _ (by rw [h.1]; exact hv)]
  by_cases hx : x = v
  · subst hx
    rw [if_pos rfl, getD_setB _ _ _ _ (by rw [h.2 x hv]; exact hu)]
    by_cases hy : y = u
    · rw [if_pos hy, if_pos ⟨rfl, hy⟩]
    · rw [if_neg hy, if_neg (fun e => hy e.2)]
  · rw [if_neg hx, if_neg (fun e => hx e.1)]
/-- the rounds k are done, of this one the rows below v and of row v the cells below u -/
def CInv (f : Nat → Nat → Bool) (n k v u : Nat) (M : List (List Bool)) : Prop := Sq n M ∧ ∀ x y, x < n → y < n → matF M x y = (wsh f k x y || ((decide (x < v) || (decide (x = v) && decide (y < u))) && (wsh f k x k && wsh f k k y)))
theorem cinv_step {f : Nat → Nat → Bool} {n k v u : Nat} {M : List (List Bool)} (h : CInv f n k v u M) (hk : k < n) (hv : v < n) (hu : u < n) : CInv f n k v (u + 1) (stB M v u (matF M v u || (matF M v k && matF M k u))) := by
  obtain ⟨hs, hm⟩ := h
  refine ⟨sq_stB hs _ _ _ hv, fun x y hx hy => ?_⟩
  rw [stB_at hs v u _ hv hu, hm v u hv hu, hm v k hv hk, hm k u hk hu]
  by_cases he : x = v ∧ y = u
  · obtain ⟨rfl, rfl⟩ := he
    rw [if_pos ⟨rfl, rfl⟩]
    have c1 : decide (x < x) = false := decide_eq_false (Nat.lt_irrefl _)
    have c2 : decide (y < y) = false := decide_eq_false (Nat.lt_irrefl _)
    have c3 : decide (y < y + 1) = true := decide_eq_true (Nat.lt_succ_self _)
    have c4 : decide (x = x) = true := decide_eq_true rfl
    rw [c1, c2, c3, c4]
    cases wsh f k x y <;> cases wsh f k x k <;> cases wsh f k k y <;> cases wsh f k k k <;> simp
  · rw [if_neg he, hm x y hx hy]
    have e : (decide (x = v) && decide (y < u)) = (decide (x = v) && decide (y < u + 1)) := by
      by_cases hxv : x = v
      · have hyu : y ≠ u := fun e => he ⟨hxv, e⟩
        rw [decide_eq_true hxv, Bool.true_and, Bool.true_and]
        by_cases hc : y < u
        · rw [decide_eq_true hc, decide_eq_true (by omega)]
        · rw [decide_eq_false hc, decide_eq_false (by omega)]
      · rw [decide_eq_false hxv, Bool.false_and, Bool.false_and]
    rw [e]
theorem cinv_row {f : Nat → Nat → Bool} {n k v : Nat} {M : List (List Bool)} (h : CInv f n k v n M) : CInv f n k (v + 1) 0 M := by
  refine ⟨h.1, fun x y hx hy => ?_⟩
  rw [h.2 x y hx hy]
  have e : (decide (x < v) || (decide (x = v) && decide (y < n))) = (decide (x < v + 1) || (decide (x = v + 1) && decide (y < 0))) := by
    rw [decide_eq_true hy, decide_eq_false (Nat.not_lt_zero y), Bool.and_true, Bool.and_false, Bool.or_false]
    by_cases h1 : x < v
    · rw [decide_eq_true h1, decide_eq_true (by omega : x < v + 1)]; rfl
    · by_cases h2 : x = v
      · rw [decide_eq_true h2, decide_eq_true (by omega : x < v + 1)]; simp
      · rw [decide_eq_false h1, decide_eq_false h2, decide_eq_false (by omega : ¬ x < v + 1)]; rfl
  rw [e]
theorem cinv_round {f : Nat → Nat → Bool} {n k : Nat} {M : List (List Bool)} (h : CInv f n k n 0 M) : CInv f n (k + 1) 0 0 M := by
  refine ⟨h.1, fun x y hx hy => ?_⟩
  rw [h.2 x y hx hy]
  have e1 : (decide (x < n) || (decide (x = n) && decide (y < 0))) = true := by rw [decide_eq_true hx]; rfl
  have e2 : (decide (x < 0) || (decide (x = 0) && decide (y < 0))) = false := by rw [decide_eq_false (Nat.not_lt_zero x), decide_eq_false (Nat.not_lt_zero y)]; simp
  rw [e1, e2, Bool.true_and, Bool.false_and, Bool.or_false]
  rfl
theorem sq_ext {n : Nat} {M N : List (List Bool)} (h1 : Sq n M) (h2 : Sq n N) (h : ∀ x y, x < n → y < n → matF M x y = matF N x y) : M = N := by
  refine List.ext_getElem (by rw [h1.1, h2.1]) (fun i hi1 hi2 => ?_)
  have hi : i < n := by rw [← h1.1]; exact hi1
  have e1 : M[i] = M.getD i [] := by rw [List.getD_eq_getElem?_getD, List.getElem?_eq_getElem hi1]; rfl
  have e2 : N[i] = N.getD i [] := by rw [List.getD_eq_getElem?_getD, List.getElem?_eq_getElem hi2]; rfl
  rw [e1, e2]
  refine List.ext_getElem (by rw [h1.2 i hi, h2.2 i hi]) (fun j hj1 hj2 => ?_)
  have hj : j < n := by rw [← h1.2 i hi]; exact hj1
  have := h i j hi hj
  unfold matF at this
  rw [List.getD_eq_getElem?_getD (l := M.getD i []), List.getElem?_eq_getElem hj1, List.getD_eq_getElem?_getD (l := N.getD i []), List.getElem?_eq_getElem hj2] at this
  exact this
theorem cinv_end {vl : Nat} {R : List Rl} (hR : ∀ r ∈ R, 0 ≤ r.left ∧ r.left < vl) {M : List (List Bool)} (h : CInv (fst1 vl (fun x => at_ (roundsB R true vl (List.replicate vl false)) x) R) vl vl 0 0 M) : M = begM vl R := by
  obtain ⟨g1, g2⟩ := begM_at R hR
  refine sq_ext h.1 g1 (fun x y hx hy => ?_)
  rw [h.2 x y hx hy, g2 x y, decide_eq_false (Nat.not_lt_zero x), decide_eq_false (Nat.not_lt_zero y)]
  simp
/-- what the first loops make -/
def fRow (f : Nat → Nat → Bool) (v : Nat) (j : Nat) : List Bool := (List.range j).map (f v)
def fMat (f : Nat → Nat → Bool) (n k : Nat) : List (List Bool) := (List.range k).map fun v => fRow f v n
theorem fRow_succ (f : Nat → Nat → Bool) (v j : Nat) : fRow f v (j + 1) = fRow f v j ++ [f v j] := by unfold fRow; rw [List.range_succ, List.map_append]; rfl
theorem fMat_succ (f : Nat → Nat → Bool) (n k : Nat) : fMat f n (k + 1) = fMat f n k ++ [fRow f k n] := by unfold fMat; rw [List.range_succ, List.map_append]; rfl
theorem fRow_len (f : Nat → Nat → Bool) (v j : Nat) : (fRow f v j).length = j := by unfold fRow; simp
theorem fMat_len (f : Nat → Nat → Bool) (n k : Nat) : (fMat f n k).length = k := by unfold fMat; simp
theorem fMat_start (f : Nat → Nat → Bool) (n : Nat) : CInv f n 0 0 0 (fMat f n n) := by
  have hr : ∀ i, i < n → (fMat f n n).getD i [] = fRow f i n := fun i hi => by
    unfold fMat; rw [List.getD_eq_getElem?_getD, List.getElem?_map, List.getElem?_range hi]; rfl
  refine ⟨⟨fMat_len f n n, fun i hi => by rw [hr i hi, fRow_len]⟩, fun x y hx hy => ?_⟩
  unfold matF
  rw [hr x hx, decide_eq_false (Nat.not_lt_zero x), decide_eq_false (Nat.not_lt_zero y)]
  unfold fRow
  rw [List.getD_eq_getElem?_getD, List.getElem?_map, List.getElem?_range hy]
  simp [wsh]
theorem bv_snoc (S : List Bool) (b : Bool) : BV S ++ [.bool b] = BV (S ++ [b]) := by unfold BV; rw [List.map_append]; rfl
/-- a list of rows of its own, each of n cells, each by itself -/
structure BmAt (w : World) (B : Nat) (v : Value) (vs : List Value) (n : Nat) (M : List (List Bool)) : Prop where
  vl : vs.length = M.length
  out : w.ownsRow B 55 1 v M.length vs
  inn : ∀ i, i < M.length → (M.getD i []).length = n ∧ w.ownsRow B 4 1 (vs.getD i undef) n (BV (M.getD i []))
  dis : ∀ i j, i < M.length → j < M.length → i ≠ j → (vs.getD i undef).ownBlock ≠ (vs.getD j undef).ownBlock
theorem BmAt.grown {w w' : World} {B n : Nat} {v : Value} {vs : List Value} {G : List (List Bool)} {row : Option Nat} (h : BmAt w B v vs n G) (hg : w.grownBy w' row) (h1 : ∀ r, v.ownBlock = some r → row ≠ some r) (h2 : ∀ i r, i < G.length → (vs.getD i undef).ownBlock = some r → row ≠ some r) : BmAt w' B v vs n G :=
  ⟨h.vl, own_of_block h.out hg h1, fun i hi => ⟨(h.inn i hi).1, own_of_block (h.inn i hi).2 hg (fun r e => h2 i r hi e)⟩, h.dis⟩
theorem BmAt.alloc {w : World} {B n : Nat} {v : Value} {vs : List Value} {G : List (List Bool)} (h : BmAt w B v vs n G) (o : Obj) : BmAt (w.alloc o) B v vs n G := h.grown (World.grownBy_alloc w o none) (fun _ _ e => by cases e) (fun _ _ _ _ e => by cases e)
theorem BmAt.below {w w' : World} {B n : Nat} {v : Value} {vs : List Value} {G : List (List Bool)} (h : BmAt w B v vs n G) (hb : Below w.heap.size w w') : BmAt w' B v vs n G := h.grown (row := none) ⟨hb.os, hb.tape, hb.output, hb.size, fun k hk _ => hb.block k hk⟩ (fun _ _ e => by cases e) (fun _ _ _ _ e => by cases e)
/-- one row more -/
theorem BmAt.push {w w' : World} {B n : Nat} {v v' : Value} {vs : List Value} {G : List (List Bool)} {x : Value} {l : List Bool} (h : BmAt w B v vs n G) (hl : l.length = n) (hx : w.ownsRow B 4 1 x n (BV l)) (hd : ∀ i, i < G.length → (vs.getD i undef).ownBlock ≠ x.ownBlock) (ho : w'.ownsRow B 55 1 v' (G.length + 1) (vs ++ [x])) (hg : w.grownBy w' v.ownBlock) : BmAt w' B v' (vs ++ [x]) n (G ++ [l]) := by
  have hkeep : ∀ {u : Value} {n : Nat} {xs : List Value}, w.ownsRow B 4 1 u n xs → w'.ownsRow B 4 1 u n xs := fun {u n xs} hu => own_grown hu hg (row_apart hu h.out (by decide))
  refine ⟨by simp [h.vl], by simpa using ho, fun i hi => ?_, fun i j hi hj hne => ?_⟩
  · rw [getD_snoc, getD_snoc, h.vl]
    rw [List.length_append, List.length_singleton] at hi
    by_cases c : i < G.length
    · rw [if_pos c, if_pos c]
      exact ⟨(h.inn i c).1, hkeep (h.inn i c).2⟩
    · have e : i = G.length := by omega
      rw [if_neg c, if_pos e, if_neg c, if_pos e]
      exact ⟨hl, hkeep hx⟩
  · rw [getD_snoc, getD_snoc, h.vl]
    rw [List.length_append, List.length_singleton] at hi hj
    by_cases c : i < G.length <;> by_cases d : j < G.length
    · rw [if_pos c, if_pos d]; exact h.dis i j c d hne
    · rw [if_pos c, if_neg d, if_pos (by omega)]; exact hd i c
    · rw [if_neg c, if_pos (by omega), if_pos d]; exact (hd j d).symm
    · omega
theorem BmAt.form {w : World} {B n : Nat} {v : Value} {vs : List Value} {G : List (List Bool)} (h : BmAt w B v vs n G) (hn : 0 < n) {i : Nat} (hi : i < G.length) : ∃ m mc b bc, v = .slice (some ⟨m, 0, none⟩) G.length mc ∧ vs.getD i undef = .slice (some ⟨b, 0, none⟩) n bc ∧ w.cell? ⟨m, i, none⟩ = some (.slice (some ⟨b, 0, none⟩) n bc) := by
  obtain ⟨m, mc, e1, _, _⟩ := World.ownsRow.form h.out (by omega)
  obtain ⟨b, bc, e2, _, _⟩ := World.ownsRow.form (h.inn i hi).2 hn
  refine ⟨m, mc, b, bc, e1, e2, ?_⟩
  have ho := h.out
  rw [e1] at ho
  rw [ho.cellAt i (by omega), ← e2, List.getD_eq_getElem?_getD]
  rw [List.getElem?_eq_getElem (by rw [h.vl]; exact hi)]
  rfl
theorem BmAt.cell {w : World} {B n : Nat} {v : Value} {vs : List Value} {G : List (List Bool)} (h : BmAt w B v vs n G) {i b bc : Nat} (hi : i < G.length) (he : vs.getD i undef = .slice (some ⟨b, 0, none⟩) n bc) {j : Nat} (hj : j < n) : w.cell? ⟨b, j, none⟩ = some (.bool (matF G i j)) := by
  have ho := (h.inn i hi).2
  have hl := (h.inn i hi).1
  rw [he] at ho
  rw [ho.cellAt j (by simp [BV]; omega)]
  unfold matF BV
  rw [List.getElem?_map, List.getElem?_eq_getElem (by omega), List.getD_eq_getElem?_getD (l := G.getD i []), List.getElem?_eq_getElem (by omega)]
  rfl
theorem BmAt.store {w : World} {B n : Nat} {v : Value} {vs : List Value} {G : List (List Bool)} (h : BmAt w B v vs n G) {i b bc : Nat} (hi : i < G.length) (he : vs.getD i undef = .slice (some ⟨b, 0, none⟩) n bc) {j : Nat} (hj : j < n) (x : Bool) : BmAt (w.setCell ⟨b, j, none⟩ (.bool x)) B v vs n (stB G i j x) ∧ w.grownBy (w.setCell ⟨b, j, none⟩ (.bool x)) (some b) := by
  have ho := (h.inn i hi).2
  have hl := (h.inn i hi).1
  rw [he] at ho
  obtain ⟨o1, o2⟩ := ho.stored j (.bool x)
  have hlen : (stB G i j x).length = G.length := by unfold stB; simp
  refine ⟨⟨by rw [hlen]; exact h.vl, ?_, fun k hk => ?_, fun k l hk hl2 hne => ?_⟩, o2⟩
  · rw [hlen]
    exact own_grown h.out o2 (row_apart h.out ho (by decide))
  · rw [hlen] at hk
    unfold stB
    rw [getD_setl _ _ _ _ _ hi]
    by_cases c : k = i
    · subst c
      rw [if_pos rfl, he]
      refine ⟨by rw [List.length_set]; exact hl, ?_⟩
      have e : BV ((G.getD k []).set j x) = (BV (G.getD k [])).set j (.bool x) := by unfold BV; rw [List.map_set]
      rw [e]
      exact o1
    · rw [if_neg c]
      refine ⟨(h.inn k hk).1, own_grown (h.inn k hk).2 o2 (.inr ?_)⟩
      have := h.dis k i hk hi c
      rw [he] at this
      exact this
  · rw [hlen] at hk hl2
    exact h.dis k l hk hl2 hne
end Go.Proofs.Ytljkobijoenabaa.dv
namespace Go.Proofs.Ytljkobijoenabaa.dv
open Go.ChangeShapes Go.WideShapes Go.ChangeAt Go.RowKit Go.Maps Go.WideMaps Go.WideElems
set_option linter.unusedVariables false
set_option linter.unusedSimpArgs false
/-! the document's Reach -/
attribute [local go_sem] run_store_fl
theorem info_bool1 : (Try.prog.info? 4).map (fun i => (i.zero, i.size, i.bytes)) = some (some (.bool false), 1, 1) := by kernel_rfl
theorem own_bel {w w' : World} {B s n : Nat} {e : TypeId} {v : Value} {x : List Value} (h : w.ownsRow B e s v n x) (hb : Below w.heap.size w w') : w'.ownsRow B e s v n x :=
  own_of_block (row := none) h ⟨hb.os, hb.tape, hb.output, hb.size, fun k hk _ => hb.block k hk⟩ (fun _ _ e => by cases e)
theorem BmAt.row {W W' : World} {B n k : Nat} {v r : Value} {vs xs : List Value} {G : List (List Bool)} (h : BmAt W B v vs n G) (hr : W.ownsRow B 4 1 r k xs) (hd : ∀ i, i < G.length → (vs.getD i undef).ownBlock ≠ r.ownBlock) (hg : W.grownBy W' r.ownBlock) : BmAt W' B v vs n G :=
  h.grown hg (fun q e e2 => by
    rcases row_apart hr h.out (by decide) with c | c
    · rw [c] at e2; cases e2
    · exact c (e2.trans e.symm)) (fun i q hi e e2 => hd i hi (e.trans e2.symm))
set_option maxRecDepth 100000 in
set_option maxHeartbeats 4000000 in
theorem reach_any (w : World) (B : Nat) (ta va : Option Addr) (tl tc vl vc : Nat) (rv : Value) (R : List Rl) (hR : RulesAt B w rv R) (hB : B ≤ w.heap.size) (hl : ∀ r ∈ R, 0 ≤ r.left ∧ r.left < vl) (hvr : ∀ r ∈ R, ∀ s ∈ r.right, 0 ≤ s → s < vl) (hv : vl ≤ 1000) (hv0 : 0 < vl) :
    Calls Try.prog 29 #[.agg #[.slice ta tl tc, .slice va vl vc, rv]] w fun e w' => ∃ v vs, e = .returned v ∧ BmAt w' w.heap.size v vs vl (begM vl R) ∧ Below w.heap.size w w' := by
  obtain ⟨j0, hj0, hy0, hy1, hy2⟩ := info_parts info_bools
  obtain ⟨i0, hi0, hz0, hz1, hz2⟩ := info_parts info_bool1
  obtain ⟨ra, rc, rfl, hn, _⟩ := id hR
  have b0 := Blk.new w 25 #[.slice ta tl tc, .slice va vl vc, .slice ra R.length rc]
  have hbl : Below w.heap.size w (w.alloc (.cells #[.slice ta tl tc, .slice va vl vc, .slice ra R.length rc] 25)) := (Below.refl _ w).alloc (Nat.le_refl _) _
  obtain ⟨f, hf⟩ : ∃ f, f = fst1 vl (fun x => at_ (roundsB R true vl (List.replicate vl false)) x) R := ⟨_, rfl⟩
  have hfirst : ∀ (W : World), Below w.heap.size w W → ∀ a b : Nat, a < vl → b < vl → Calls Try.prog 59 #[.agg #[.slice ta tl tc, .slice va vl vc, .slice ra R.length rc], .int .i64 a, .int .i64 b] W fun e w' => e = .returned (.bool (f a b)) ∧ Below W.heap.size W w' := fun W hW a b ha hb => by
    rw [hf]
    exact rstart_any W B ta va tl tc vl vc (.slice ra R.length rc) R (hR.far (hW.mono hB)) (by have := hW.size; omega) hl hvr hv a b ha hb
  have hend : ∀ M, CInv f vl vl 0 0 M → M = begM vl R := fun M h => by rw [hf] at h; exact cinv_end hl h
  have HFIRST := Lib.hid hfirst
  have HEND := Lib.hid hend
  have hz : (w.alloc (.cells #[.slice ta tl tc, .slice va vl vc, .slice ra R.length rc] 25)).heap.size = w.heap.size + 1 := by simp
  generalize hW0 : w.alloc (.cells #[.slice ta tl tc, .slice va vl vc, .slice ra R.length rc] 25) = w0 at *
  have HB0 := Lib.hid b0
  have HBL := Lib.hid hbl
  have HZ := Lib.hid hz
  have c1 := b0.cell 1
  simp only [List.getElem?_toArray, List.getElem?_cons_zero, List.getElem?_cons_succ] at c1
  clear hR hl hvr b0 hbl hf hfirst hend hz
  go_enter Try.func29, Try.ntmps29
  go_wp2
  have hbm0 : BmAt (w0.alloc (.cells #[] 55)) w.heap.size (.slice (some ⟨w0.heap.size, 0, none⟩) 0 0) [] vl (fMat f vl 0) := by
    refine ⟨rfl, ?_, fun i hi => absurd hi (Nat.not_lt_zero _), fun i j hi => absurd hi (Nat.not_lt_zero _)⟩
    exact World.ownsRow_lit (base := w.heap.size) (e := 55) (size := 1) w0 #[] 0 (by rw [HZ.out]; omega) (by decide) rfl
  have HBM0 := Lib.hid hbm0
  clear hbm0 c1
  go_loopw [3, 4] (fun gv q W => ∃ (k : Nat) (vs : List Value), k ≤ vl ∧ q = .int .i64 k ∧ Blk W w.heap.size 25 #[.slice ta tl tc, .slice va vl vc, .slice ra R.length rc] ∧ Below w.heap.size w W ∧ BmAt W w.heap.size gv vs vl (fMat f vl k)) (fun _ q _ => vl - (intOf q).toNat)
  case atStart => exact ⟨0, [], Nat.zero_le _, rfl, HB0.out.alloc _, HBL.out.alloc (by rw [HZ.out]; omega) _, HBM0.out⟩
  case round =>
    obtain ⟨W, rfl⟩ : ∃ W : World, W = wr := ⟨_, rfl⟩
    obtain ⟨k, vs, hk, hq, hbx, hbw, hbm⟩ := hrel
    obtain rfl := hq
    have HBX := Lib.hid hbx
    have HBW := Lib.hid hbw
    have HBM := Lib.hid hbm
    have c1 := hbx.cell 1
    simp only [List.getElem?_toArray, List.getElem?_cons_zero, List.getElem?_cons_succ] at c1
    by_cases hlt : k < vl
    · have hlt2 : (k : Int) < (vl : Int) := by omega
      clear hbx hbw hbm
      go_wp2
      go_loopw [5, 6] (fun rw q U => ∃ j : Nat, j ≤ vl ∧ q = .int .i64 j ∧ Blk U w.heap.size 25 #[.slice ta tl tc, .slice va vl vc, .slice ra R.length rc] ∧ Below w.heap.size w U ∧ BmAt U w.heap.size u3 vs vl (fMat f vl k) ∧ U.ownsRow w.heap.size 4 1 rw j (BV (fRow f k j)) ∧ ∀ i, i < k → (vs.getD i undef).ownBlock ≠ rw.ownBlock) (fun _ q _ => vl - (intOf q).toNat)
      case atStart =>
        refine ⟨0, Nat.zero_le _, rfl, HBX.out.alloc _, HBW.out.alloc HBW.out.size _, HBM.out.alloc _, ?_, fun i hi e => ?_⟩
        · exact World.ownsRow_lit (base := w.heap.size) (e := 4) (size := 1) W #[] 0 HBW.out.size (by decide) rfl
        · have := ((HBM.out.inn i (by rw [fMat_len]; exact hi)).2.lt W.heap.size (by rw [e]; rfl)).2
          omega
      case round =>
        obtain ⟨U, rfl⟩ : ∃ U : World, U = wr := ⟨_, rfl⟩
        obtain ⟨j, hj, hq, ubx, ubw, ubm, urw, uap⟩ := hrel
        obtain rfl := hq
        have UBX := Lib.hid ubx
        have UBW := Lib.hid ubw
        have UBM := Lib.hid ubm
        have URW := Lib.hid urw
        have UAP := Lib.hid uap
        have d0 := ubx.cell 0
        have d1 := ubx.cell 1
        have d2 := ubx.cell 2
        simp only [List.getElem?_toArray, List.getElem?_cons_zero, List.getElem?_cons_succ] at d0 d1 d2
        clear ubx ubw ubm urw uap
        by_cases hjt : j < vl
        · have hjt2 : (j : Int) < (vl : Int) := by omega
          go_wp2_with fail
          refine (HFIRST.out U UBW.out k j hlt hjt).mono ?_
          rintro e U1 ⟨rfl, hb1⟩
          have xw1 := UBW.out.trans (hb1.mono UBW.out.size)
          have hrow := (own_bel URW.out hb1).alloc (.cells #[.bool (f k j)] 4)
          have XW1 := Lib.hid xw1
          have XBX := Lib.hid (UBX.out.below hb1 UBX.out.lt)
          have XBM := Lib.hid (UBM.out.below hb1)
          have HROW := Lib.hid hrow
          have hnw := one_new U1 4 (.bool (f k j))
          have hsz : w.heap.size ≤ (U1.alloc (.cells #[.bool (f k j)] 4)).heap.size := by rw [World.size_alloc]; have := xw1.size; omega
          clear d0 d1 d2 hb1 xw1 hrow
          go_wp2_with (at_builtin; refine wpList_append_own_at _ rfl _ _ 55 rfl w.heap.size 4 i0 (.bool false) 1 1 Try.underlying55 hi0 hz0 hz1 hz2 rfl (by decide) u5 j (BV (fRow f k j)) rfl HROW.out _ 1 1 [.bool (f k j)] rfl rfl hnw (by simp [Value.oneCell']) (by unfold maxLen; omega) (by omega) hsz ?_; intro u52 W8 hown8 hgrow8 hnil8 hat8)
          have hap : ∀ i, i < k → (vs.getD i undef).ownBlock ≠ u52.ownBlock := fun i hi e => by
            rcases hat8 with c | c
            · exact UAP.out i hi (e.trans c)
            · have := ((XBM.out.inn i (by rw [fMat_len]; exact hi)).2.lt _ (e.trans c)).2
              rw [World.size_alloc] at this
              omega
          refine ⟨⟨j + 1, hjt, congrArg (Value.int .i64) (by omega), (XBX.out.alloc _).grown hgrow8 ((XBX.out.alloc _).not_row (by decide) HROW.out), (XW1.out.alloc XW1.out.size _).grown hgrow8 hsz (fun r e => (row_cells HROW.out r e).1), (XBM.out.alloc _).row HROW.out (fun i hi => UAP.out i (by rw [fMat_len] at hi; exact hi)) hgrow8, by rw [fRow_succ, ← bv_snoc]; exact hown8, hap⟩, by simp only [intOf]; omega⟩
        · obtain rfl : j = vl := by omega
          obtain ⟨ao, cap5, rfl⟩ := own_len URW.out
          have hnw := one_new U 55 (.slice ao j cap5)
          have hsz : w.heap.size ≤ (U.alloc (.cells #[.slice ao j cap5] 55)).heap.size := by rw [World.size_alloc]; have := UBW.out.size; omega
          have XBM := Lib.hid (UBM.out.alloc (.cells #[.slice ao j cap5] 55))
          have HROW := Lib.hid (URW.out.alloc (.cells #[.slice ao j cap5] 55))
          have hone : (Value.slice ao j cap5).oneCell' = true := rfl
          have hfl := fMat_len f j k
          have ho := XBM.out.out
          rw [hfl] at ho
          have HO := Lib.hid ho
          clear ho hfl
          go_wp2_with (at_builtin; refine wpList_append_own_at _ rfl _ _ 53 rfl w.heap.size 55 j0 (.slice none 0 0) 1 24 Try.underlying53 hj0 hy0 hy1 hy2 rfl (by decide) u3 k vs rfl HO.out _ 1 1 [.slice ao j cap5] rfl rfl hnw (by simpa using hone) (by unfold maxLen; omega) (by omega) hsz ?_; intro u32 W8 hown8 hgrow8 hnil8 hat8)
          have hpush := XBM.out.push (fRow_len f k j) HROW.out (fun i hi => UAP.out i (by rw [fMat_len] at hi; exact hi)) (by rw [fMat_len]; exact hown8) hgrow8
          rw [← fMat_succ] at hpush
          exact ⟨⟨k + 1, vs ++ [.slice ao j cap5], hlt, congrArg (Value.int .i64) (by omega), (UBX.out.alloc _).grown hgrow8 ((UBX.out.alloc _).not_row (by decide) HO.out), (UBW.out.alloc UBW.out.size _).grown hgrow8 hsz (fun r e => (row_cells HO.out r e).1), hpush⟩, by simp only [intOf]; omega⟩
    · obtain rfl : k = vl := by omega
      have hcr : ∃ M, BmAt W w.heap.size u3 vs k M ∧ CInv f k 0 0 0 M := ⟨_, hbm, fMat_start f k⟩
      obtain ⟨m, mc, _, _, hm, _, _⟩ := hbm.form hv0 (i := 0) (by rw [fMat_len]; exact hv0)
      rw [fMat_len] at hm
      subst hm
      have HCR := Lib.hid hcr
      clear hbx hbw hbm hcr
      go_wp2
      go_loopw [7] (fun q U => ∃ i : Nat, i ≤ k ∧ q = .int .i64 i ∧ Blk U w.heap.size 25 #[.slice ta tl tc, .slice va k vc, .slice ra R.length rc] ∧ Below w.heap.size w U ∧ ∃ M, BmAt U w.heap.size (.slice (some ⟨m, 0, none⟩) k mc) vs k M ∧ CInv f k i 0 0 M) (fun q _ => k - (intOf q).toNat)
      case atStart => exact ⟨0, Nat.zero_le _, rfl, HBX.out, HBW.out, HCR.out⟩
      case round =>
        obtain ⟨U, rfl⟩ : ∃ U : World, U = wr := ⟨_, rfl⟩
        obtain ⟨i, hi, hq, ubx, ubw, ucr⟩ := hrel
        obtain rfl := hq
        have UBX := Lib.hid ubx
        have UBW := Lib.hid ubw
        have UCR := Lib.hid ucr
        have d1 := ubx.cell 1
        simp only [List.getElem?_toArray, List.getElem?_cons_zero, List.getElem?_cons_succ] at d1
        clear ubx ubw ucr HBX HBW HCR HBM
        by_cases hit : i < k
        · have hit2 : (i : Int) < (k : Int) := by omega
          go_wp2
          go_loopw [8] (fun q X => ∃ v : Nat, v ≤ k ∧ q = .int .i64 v ∧ Blk X w.heap.size 25 #[.slice ta tl tc, .slice va k vc, .slice ra R.length rc] ∧ Below w.heap.size w X ∧ ∃ M, BmAt X w.heap.size (.slice (some ⟨m, 0, none⟩) k mc) vs k M ∧ CInv f k i v 0 M) (fun q _ => k - (intOf q).toNat)
          case atStart => exact ⟨0, Nat.zero_le _, rfl, UBX.out, UBW.out, UCR.out⟩
          case round =>
            obtain ⟨X, rfl⟩ : ∃ X : World, X = wr := ⟨_, rfl⟩
            obtain ⟨v, hvl, hq, xbx, xbw, xcr⟩ := hrel
            obtain rfl := hq
            have XBX := Lib.hid xbx
            have XBW := Lib.hid xbw
            have XCR := Lib.hid xcr
            have e1 := xbx.cell 1
            simp only [List.getElem?_toArray, List.getElem?_cons_zero, List.getElem?_cons_succ] at e1
            clear xbx xbw xcr UBX UBW UCR d1
            by_cases hvt : v < k
            · have hvt2 : (v : Int) < (k : Int) := by omega
              go_wp2
              go_loopw [9] (fun q Y => ∃ u : Nat, u ≤ k ∧ q = .int .i64 u ∧ Blk Y w.heap.size 25 #[.slice ta tl tc, .slice va k vc, .slice ra R.length rc] ∧ Below w.heap.size w Y ∧ ∃ M, BmAt Y w.heap.size (.slice (some ⟨m, 0, none⟩) k mc) vs k M ∧ CInv f k i v u M) (fun q _ => k - (intOf q).toNat)
              case atStart => exact ⟨0, Nat.zero_le _, rfl, XBX.out, XBW.out, XCR.out⟩
              case round =>
                obtain ⟨Y, rfl⟩ : ∃ Y : World, Y = wr := ⟨_, rfl⟩
                obtain ⟨u, hul, hq, ybx, ybw, M, ybm, yci⟩ := hrel
                obtain rfl := hq
                have e1 := ybx.cell 1
                simp only [List.getElem?_toArray, List.getElem?_cons_zero, List.getElem?_cons_succ] at e1
                clear XBX XBW XCR
                by_cases hut : u < k
                · have hut2 : (u : Int) < (k : Int) := by omega
                  have hMl : M.length = k := yci.1.1
                  have hnx := cinv_step yci hit hvt hut
                  obtain ⟨_, _, bv, bvc, hm4, hv2, hv3⟩ := ybm.form hv0 (i := v) (by omega)
                  rw [hMl] at hm4
                  cases hm4
                  obtain ⟨_, _, bk, bkc, hm5, hk2, hk3⟩ := ybm.form hv0 (i := i) (by omega)
                  rw [hMl] at hm5
                  cases hm5
                  have hcx := ybm.cell (i := v) (by omega) hv2 hut
                  have hcy := ybm.cell (i := v) (by omega) hv2 hit
                  have hcz := ybm.cell (i := i) (by omega) hk2 hut
                  have hdr : Below Y.heap.size Y Y.drew := (Below.refl _ _).drew
                  have zbm := ybm.below hdr
                  have hfz : (World.drew Y).frozen? ⟨bv, u, none⟩ = false := by
                    have ho := (zbm.inn v (by omega)).2
                    rw [hv2] at ho
                    exact ho.frozenAt u
                  have hrv : (World.drew Y).ownsRow w.heap.size 4 1 (.slice (some ⟨bv, 0, none⟩) k bvc) k (BV (M.getD v [])) := by
                    have ho := (zbm.inn v (by omega)).2
                    rw [hv2] at ho
                    exact ho
                  obtain ⟨x, hx⟩ : ∃ x, x = matF M v u := ⟨_, rfl⟩
                  obtain ⟨y, hy⟩ : ∃ y, y = matF M v i := ⟨_, rfl⟩
                  obtain ⟨z, hz⟩ : ∃ z, z = matF M i u := ⟨_, rfl⟩
                  rw [← hx] at hcx
                  rw [← hy] at hcy
                  rw [← hz] at hcz
                  rw [← hx, ← hy, ← hz] at hnx
                  have hfin : ∀ b, b = (x || (y && z)) → (Blk ((World.drew Y).setCell ⟨bv, u, none⟩ (.bool b)) w.heap.size 25 #[.slice ta tl tc, .slice va k vc, .slice ra R.length rc] ∧ Below w.heap.size w ((World.drew Y).setCell ⟨bv, u, none⟩ (.bool b)) ∧ ∃ M, BmAt ((World.drew Y).setCell ⟨bv, u, none⟩ (.bool b)) w.heap.size (.slice (some ⟨m, 0, none⟩) k mc) vs k M ∧ CInv f k i v (u + 1) M) := fun b hb => by
                    subst hb
                    obtain ⟨g1, g2⟩ := zbm.store (by omega) hv2 hut (x || (y && z))
                    have zbx := ybx.below hdr ybx.lt
                    exact ⟨zbx.grown g2 (zbx.not_row (by decide) hrv), (ybw.trans (hdr.mono ybw.size)).grown g2 (ybw.trans (hdr.mono ybw.size)).size (fun r e => (row_cells hrv r e).1), _, g1, hnx⟩
                  have HFIN := Lib.hid hfin
                  have hi0 : (0 : Int) ≤ (i : Int) := by omega
                  have hv0' : (0 : Int) ≤ (v : Int) := by omega
                  have hu0 : (0 : Int) ≤ (u : Int) := by omega
                  clear hnx zbm hrv hfin hdr hx hy hz ybx ybw ybm yci hv2 hk2
                  cases x
                  · cases y
                    · go_wp2
                      refine wp_region_EQ (fun X => X.cell? ⟨m, v, none⟩ = some (.slice (some ⟨bv, 0, none⟩) k bvc) ∧ X.cell? ⟨bv, u, none⟩ = some (.bool false) ∧ X.cell? ⟨bv, i, none⟩ = some (.bool false) ∧ X.cell? ⟨m, i, none⟩ = some (.slice (some ⟨bk, 0, none⟩) k bkc) ∧ X.cell? ⟨bk, u, none⟩ = some (.bool z)) [31] (by kernel_rfl) ?_
                      have HS : _ := And.intro (DRC Y _ _ hv3) (And.intro (DRC Y _ _ hcx) (And.intro (DRC Y _ _ hcy) (And.intro (DRC Y _ _ hk3) (DRC Y _ _ hcz))))
                      change anyE _ _ _ _ _ _ _ _ _ (World.drew _)
                      refine anyE_take (i := 0) (v := ?_) rfl (by kernel_rfl) (by kernel_rfl) (by kernel_rfl) (by kernel_rfl) (by kernel_rfl) (fun c _ _ h => absurd rfl (h.1 c)) (Or.inl ⟨by kernel_rfl, ?_⟩) HS ?_
                      rotate_left
                      · intro w _; go_simp; with_reducible rfl
                      refine anyE_take (i := 1) (v := ?_) rfl (by kernel_rfl) (by kernel_rfl) (by kernel_rfl) (by kernel_rfl) (by kernel_rfl) (fun c _ _ h => absurd rfl (h.1 c)) (Or.inl ⟨by kernel_rfl, ?_⟩) HS ?_
                      rotate_left
                      · intro w _; go_simp; with_reducible rfl
                      refine anyE_take (i := 2) (v := ?_) rfl (by kernel_rfl) (by kernel_rfl) (by kernel_rfl) (by kernel_rfl) (by kernel_rfl) (fun c _ _ h => absurd rfl (h.1 c)) (Or.inl ⟨by kernel_rfl, ?_⟩) HS ?_
                      rotate_left
                      · intro w _; go_simp; with_reducible rfl
                      refine anyE_take (i := 3) (v := ?_) rfl (by kernel_rfl) (by kernel_rfl) (by kernel_rfl) (by kernel_rfl) (by kernel_rfl) (fun c _ _ h => absurd rfl (h.1 c)) (Or.inl ⟨by kernel_rfl, ?_⟩) HS ?_
                      rotate_left
                      · intro w hw; have hw := hw.1; go_simp; with_reducible rfl
                      refine anyE_take (i := 4) (v := ?_) rfl (by kernel_rfl) (by kernel_rfl) (by kernel_rfl) (by kernel_rfl) (by kernel_rfl) (fun c _ _ h => absurd rfl (h.1 c)) (Or.inl ⟨by kernel_rfl, ?_⟩) HS ?_
                      rotate_left
                      · intro w _; go_simp; with_reducible rfl
                      refine anyE_take (i := 5) (v := ?_) rfl (by kernel_rfl) (by kernel_rfl) (by kernel_rfl) (by kernel_rfl) (by kernel_rfl) (fun c _ _ h => absurd rfl (h.1 c)) (Or.inl ⟨by kernel_rfl, ?_⟩) HS ?_
                      rotate_left
                      · intro w _; go_simp; with_reducible rfl
                      refine anyE_take (i := 6) (v := ?_) rfl (by kernel_rfl) (by kernel_rfl) (by kernel_rfl) (by kernel_rfl) (by kernel_rfl) (fun c _ _ h => absurd rfl (h.1 c)) (Or.inl ⟨by kernel_rfl, ?_⟩) HS ?_
                      rotate_left
                      · intro w _; go_simp; with_reducible rfl
                      refine anyE_take (i := 7) (v := ?_) rfl (by kernel_rfl) (by kernel_rfl) (by kernel_rfl) (by kernel_rfl) (by kernel_rfl) (fun c _ _ h => absurd rfl (h.1 c)) (Or.inl ⟨by kernel_rfl, ?_⟩) HS ?_
                      rotate_left
                      · intro w _; go_simp; with_reducible rfl
                      refine anyE_take (i := 8) (v := ?_) rfl (by kernel_rfl) (by kernel_rfl) (by kernel_rfl) (by kernel_rfl) (by kernel_rfl) (fun c _ _ h => absurd rfl (h.1 c)) (Or.inl ⟨by kernel_rfl, ?_⟩) HS ?_
                      rotate_left
                      · intro w hw; have hw := hw.1; go_simp; with_reducible rfl
                      refine anyE_take (i := 9) (v := ?_) rfl (by kernel_rfl) (by kernel_rfl) (by kernel_rfl) (by kernel_rfl) (by kernel_rfl) (fun c _ _ h => absurd rfl (h.1 c)) (Or.inl ⟨by kernel_rfl, ?_⟩) HS ?_
                      rotate_left
                      · intro w _; go_simp; with_reducible rfl
                      refine anyE_take (i := 10) (v := ?_) rfl (by kernel_rfl) (by kernel_rfl) (by kernel_rfl) (by kernel_rfl) (by kernel_rfl) (fun c _ _ h => absurd rfl (h.1 c)) (Or.inl ⟨by kernel_rfl, ?_⟩) HS ?_
                      rotate_left
                      · intro w _; go_simp; with_reducible rfl
                      refine anyE_take (i := 11) (v := ?_) rfl (by kernel_rfl) (by kernel_rfl) (by kernel_rfl) (by kernel_rfl) (by kernel_rfl) (fun c _ _ h => absurd rfl (h.1 c)) (Or.inl ⟨by kernel_rfl, ?_⟩) HS ?_
                      rotate_left
                      · intro w hw; have hw := hw.2.1; go_simp; with_reducible rfl
                      refine anyE_take (i := 12) (v := ?_) rfl (by kernel_rfl) (by kernel_rfl) (by kernel_rfl) (by kernel_rfl) (by kernel_rfl) (fun c _ _ h => absurd rfl (h.1 c)) (Or.inl ⟨by kernel_rfl, ?_⟩) HS ?_
                      rotate_left
                      · intro w _; go_simp; with_reducible rfl
                      refine anyE_take (i := 13) (v := ?_) rfl (by kernel_rfl) (by kernel_rfl) (by kernel_rfl) (by kernel_rfl) (by kernel_rfl) (fun c _ _ h => absurd rfl (h.1 c)) (Or.inl ⟨by kernel_rfl, ?_⟩) HS ?_
                      rotate_left
                      · intro w _; go_simp; with_reducible rfl
                      refine anyE_take (i := 14) (v := ?_) rfl (by kernel_rfl) (by kernel_rfl) (by kernel_rfl) (by kernel_rfl) (by kernel_rfl) (fun c _ _ h => absurd rfl (h.1 c)) (Or.inl ⟨by kernel_rfl, ?_⟩) HS ?_
                      rotate_left
                      · intro w _; go_simp; with_reducible rfl
                      refine anyE_take (i := 15) (v := ?_) rfl (by kernel_rfl) (by kernel_rfl) (by kernel_rfl) (by kernel_rfl) (by kernel_rfl) (fun c _ _ h => absurd rfl (h.1 c)) (Or.inl ⟨by kernel_rfl, ?_⟩) HS ?_
                      rotate_left
                      · intro w _; go_simp; with_reducible rfl
                      refine anyE_take (i := 16) (v := ?_) rfl (by kernel_rfl) (by kernel_rfl) (by kernel_rfl) (by kernel_rfl) (by kernel_rfl) (fun c _ _ h => absurd rfl (h.1 c)) (Or.inl ⟨by kernel_rfl, ?_⟩) HS ?_
                      rotate_left
                      · intro w hw; have hw := hw.1; go_simp; with_reducible rfl
                      refine anyE_take (i := 17) (v := ?_) rfl (by kernel_rfl) (by kernel_rfl) (by kernel_rfl) (by kernel_rfl) (by kernel_rfl) (fun c _ _ h => absurd rfl (h.1 c)) (Or.inl ⟨by kernel_rfl, ?_⟩) HS ?_
                      rotate_left
                      · intro w _; go_simp; with_reducible rfl
                      refine anyE_take (i := 18) (v := ?_) rfl (by kernel_rfl) (by kernel_rfl) (by kernel_rfl) (by kernel_rfl) (by kernel_rfl) (fun c _ _ h => absurd rfl (h.1 c)) (Or.inl ⟨by kernel_rfl, ?_⟩) HS ?_
                      rotate_left
                      · intro w _; go_simp; with_reducible rfl
                      refine anyE_take (i := 19) (v := ?_) rfl (by kernel_rfl) (by kernel_rfl) (by kernel_rfl) (by kernel_rfl) (by kernel_rfl) (fun c _ _ h => absurd rfl (h.1 c)) (Or.inl ⟨by kernel_rfl, ?_⟩) HS ?_
                      rotate_left
                      · intro w hw; have hw := hw.2.2.1; go_simp; with_reducible rfl
                      refine anyE_take (i := 20) (v := ?_) rfl (by kernel_rfl) (by kernel_rfl) (by kernel_rfl) (by kernel_rfl) (by kernel_rfl) (fun c _ _ h => absurd rfl (h.1 c)) (Or.inl ⟨by kernel_rfl, ?_⟩) HS ?_
                      rotate_left
                      · intro w _; go_simp; with_reducible rfl
                      refine anyE_take (i := 21) (v := undef) rfl (by kernel_rfl) (by kernel_rfl) (by kernel_rfl) (by kernel_rfl) (by kernel_rfl) (fun c _ _ h => absurd rfl (h.1 c)) (Or.inr ⟨by kernel_rfl, rfl⟩) HS ?_
                      refine anyE_take (i := 22) (v := undef) rfl (by kernel_rfl) (by kernel_rfl) (by kernel_rfl) (by kernel_rfl) (by kernel_rfl) (fun c _ _ h => absurd rfl (h.1 c)) (Or.inr ⟨by kernel_rfl, rfl⟩) HS ?_
                      refine anyE_take (i := 23) (v := undef) rfl (by kernel_rfl) (by kernel_rfl) (by kernel_rfl) (by kernel_rfl) (by kernel_rfl) (fun c _ _ h => absurd rfl (h.1 c)) (Or.inr ⟨by kernel_rfl, rfl⟩) HS ?_
                      refine anyE_take (i := 24) (v := undef) rfl (by kernel_rfl) (by kernel_rfl) (by kernel_rfl) (by kernel_rfl) (by kernel_rfl) (fun c _ _ h => absurd rfl (h.1 c)) (Or.inr ⟨by kernel_rfl, rfl⟩) HS ?_
                      refine anyE_take (i := 25) (v := undef) rfl (by kernel_rfl) (by kernel_rfl) (by kernel_rfl) (by kernel_rfl) (by kernel_rfl) (fun c _ _ h => absurd rfl (h.1 c)) (Or.inr ⟨by kernel_rfl, rfl⟩) HS ?_
                      refine anyE_take (i := 26) (v := undef) rfl (by kernel_rfl) (by kernel_rfl) (by kernel_rfl) (by kernel_rfl) (by kernel_rfl) (fun c _ _ h => absurd rfl (h.1 c)) (Or.inr ⟨by kernel_rfl, rfl⟩) HS ?_
                      refine anyE_take (i := 27) (v := undef) rfl (by kernel_rfl) (by kernel_rfl) (by kernel_rfl) (by kernel_rfl) (by kernel_rfl) (fun c _ _ h => absurd rfl (h.1 c)) (Or.inr ⟨by kernel_rfl, rfl⟩) HS ?_
                      refine anyE_take (i := 28) (v := ?_) rfl (by kernel_rfl) (by kernel_rfl) (by kernel_rfl) (by kernel_rfl) (by kernel_rfl) (fun c _ _ h => absurd rfl (h.1 c)) (Or.inl ⟨by kernel_rfl, ?_⟩) HS ?_
                      rotate_left
                      · intro w _; go_simp; with_reducible rfl
                      refine anyE_take (i := 29) (v := ?_) rfl (by kernel_rfl) (by kernel_rfl) (by kernel_rfl) (by kernel_rfl) (by kernel_rfl) (fun c _ _ h => absurd rfl (h.1 c)) (Or.inl ⟨by kernel_rfl, ?_⟩) HS ?_
                      rotate_left
                      · intro w _; go_simp; with_reducible rfl
                      refine anyE_take (i := 30) (v := ?_) rfl (by kernel_rfl) (by kernel_rfl) (by kernel_rfl) (by kernel_rfl) (by kernel_rfl) (fun c _ _ h => absurd rfl (h.1 c)) (Or.inl ⟨by kernel_rfl, ?_⟩) HS ?_
                      rotate_left
                      · intro w _; go_simp; with_reducible rfl
                      refine anyE_rest (by kernel_rfl) ?_
                      refine wpAny_ready (rs := [31]) (by kernel_rfl) (by simp) ?_
                      refine AllReady.cons rfl (fun K hK => ?_) AllReady.nil
                      go_simp
                      refine hK _ _ ?_
                      clear hK K
                      refine wpAny_done (by kernel_rfl) ?_ _
                      refine ⟨(fun c h => by cases h), ?_⟩
                      go_wp2
                      exact ⟨⟨u + 1, hut, congrArg (Value.int .i64) (by omega), HFIN.out _ (by rfl)⟩, by simp only [intOf]; omega⟩
                    · go_wp2
                      refine wp_region_EQ (fun X => X.cell? ⟨m, v, none⟩ = some (.slice (some ⟨bv, 0, none⟩) k bvc) ∧ X.cell? ⟨bv, u, none⟩ = some (.bool false) ∧ X.cell? ⟨bv, i, none⟩ = some (.bool true) ∧ X.cell? ⟨m, i, none⟩ = some (.slice (some ⟨bk, 0, none⟩) k bkc) ∧ X.cell? ⟨bk, u, none⟩ = some (.bool z)) [31] (by kernel_rfl) ?_
                      have HS : _ := And.intro (DRC Y _ _ hv3) (And.intro (DRC Y _ _ hcx) (And.intro (DRC Y _ _ hcy) (And.intro (DRC Y _ _ hk3) (DRC Y _ _ hcz))))
                      change anyE _ _ _ _ _ _ _ _ _ (World.drew _)
                      refine anyE_take (i := 0) (v := ?_) rfl (by kernel_rfl) (by kernel_rfl) (by kernel_rfl) (by kernel_rfl) (by kernel_rfl) (fun c _ _ h => absurd rfl (h.1 c)) (Or.inl ⟨by kernel_rfl, ?_⟩) HS ?_
                      rotate_left
                      · intro w _; go_simp; with_reducible rfl
                      refine anyE_take (i := 1) (v := ?_) rfl (by kernel_rfl) (by kernel_rfl) (by kernel_rfl) (by kernel_rfl) (by kernel_rfl) (fun c _ _ h => absurd rfl (h.1 c)) (Or.inl ⟨by kernel_rfl, ?_⟩) HS ?_
                      rotate_left
                      · intro w _; go_simp; with_reducible rfl
                      refine anyE_take (i := 2) (v := ?_) rfl (by kernel_rfl) (by kernel_rfl) (by kernel_rfl) (by kernel_rfl) (by kernel_rfl) (fun c _ _ h => absurd rfl (h.1 c)) (Or.inl ⟨by kernel_rfl, ?_⟩) HS ?_
                      rotate_left
                      · intro w _; go_simp; with_reducible rfl
                      refine anyE_take (i := 3) (v := ?_) rfl (by kernel_rfl) (by kernel_rfl) (by kernel_rfl) (by kernel_rfl) (by kernel_rfl) (fun c _ _ h => absurd rfl (h.1 c)) (Or.inl ⟨by kernel_rfl, ?_⟩) HS ?_
                      rotate_left
                      · intro w hw; have hw := hw.1; go_simp; with_reducible rfl
                      refine anyE_take (i := 4) (v := ?_) rfl (by kernel_rfl) (by kernel_rfl) (by kernel_rfl) (by kernel_rfl) (by kernel_rfl) (fun c _ _ h => absurd rfl (h.1 c)) (Or.inl ⟨by kernel_rfl, ?_⟩) HS ?_
                      rotate_left
                      · intro w _; go_simp; with_reducible rfl
                      refine anyE_take (i := 5) (v := ?_) rfl (by kernel_rfl) (by kernel_rfl) (by kernel_rfl) (by kernel_rfl) (by kernel_rfl) (fun c _ _ h => absurd rfl (h.1 c)) (Or.inl ⟨by kernel_rfl, ?_⟩) HS ?_
                      rotate_left
                      · intro w _; go_simp; with_reducible rfl
                      refine anyE_take (i := 6) (v := ?_) rfl (by kernel_rfl) (by kernel_rfl) (by kernel_rfl) (by kernel_rfl) (by kernel_rfl) (fun c _ _ h => absurd rfl (h.1 c)) (Or.inl ⟨by kernel_rfl, ?_⟩) HS ?_
                      rotate_left
                      · intro w _; go_simp; with_reducible rfl
                      refine anyE_take (i := 7) (v := ?_) rfl (by kernel_rfl) (by kernel_rfl) (by kernel_rfl) (by kernel_rfl) (by kernel_rfl) (fun c _ _ h => absurd rfl (h.1 c)) (Or.inl ⟨by kernel_rfl, ?_⟩) HS ?_
                      rotate_left
                      · intro w _; go_simp; with_reducible rfl
                      refine anyE_take (i := 8) (v := ?_) rfl (by kernel_rfl) (by kernel_rfl) (by kernel_rfl) (by kernel_rfl) (by kernel_rfl) (fun c _ _ h => absurd rfl (h.1 c)) (Or.inl ⟨by kernel_rfl, ?_⟩) HS ?_
                      rotate_left
                      · intro w hw; have hw := hw.1; go_simp; with_reducible rfl
                      refine anyE_take (i := 9) (v := ?_) rfl (by kernel_rfl) (by kernel_rfl) (by kernel_rfl) (by kernel_rfl) (by kernel_rfl) (fun c _ _ h => absurd rfl (h.1 c)) (Or.inl ⟨by kernel_rfl, ?_⟩) HS ?_
                      rotate_left
                      · intro w _; go_simp; with_reducible rfl
                      refine anyE_take (i := 10) (v := ?_) rfl (by kernel_rfl) (by kernel_rfl) (by kernel_rfl) (by kernel_rfl) (by kernel_rfl) (fun c _ _ h => absurd rfl (h.1 c)) (Or.inl ⟨by kernel_rfl, ?_⟩) HS ?_
                      rotate_left
                      · intro w _; go_simp; with_reducible rfl
                      refine anyE_take (i := 11) (v := ?_) rfl (by kernel_rfl) (by kernel_rfl) (by kernel_rfl) (by kernel_rfl) (by kernel_rfl) (fun c _ _ h => absurd rfl (h.1 c)) (Or.inl ⟨by kernel_rfl, ?_⟩) HS ?_
                      rotate_left
                      · intro w hw; have hw := hw.2.1; go_simp; with_reducible rfl
                      refine anyE_take (i := 12) (v := ?_) rfl (by kernel_rfl) (by kernel_rfl) (by kernel_rfl) (by kernel_rfl) (by kernel_rfl) (fun c _ _ h => absurd rfl (h.1 c)) (Or.inl ⟨by kernel_rfl, ?_⟩) HS ?_
                      rotate_left
                      · intro w _; go_simp; with_reducible rfl
                      refine anyE_take (i := 13) (v := ?_) rfl (by kernel_rfl) (by kernel_rfl) (by kernel_rfl) (by kernel_rfl) (by kernel_rfl) (fun c _ _ h => absurd rfl (h.1 c)) (Or.inl ⟨by kernel_rfl, ?_⟩) HS ?_
                      rotate_left
                      · intro w _; go_simp; with_reducible rfl
                      refine anyE_take (i := 14) (v := ?_) rfl (by kernel_rfl) (by kernel_rfl) (by kernel_rfl) (by kernel_rfl) (by kernel_rfl) (fun c _ _ h => absurd rfl (h.1 c)) (Or.inl ⟨by kernel_rfl, ?_⟩) HS ?_
                      rotate_left
                      · intro w _; go_simp; with_reducible rfl
                      refine anyE_take (i := 15) (v := ?_) rfl (by kernel_rfl) (by kernel_rfl) (by kernel_rfl) (by kernel_rfl) (by kernel_rfl) (fun c _ _ h => absurd rfl (h.1 c)) (Or.inl ⟨by kernel_rfl, ?_⟩) HS ?_
                      rotate_left
                      · intro w _; go_simp; with_reducible rfl
                      refine anyE_take (i := 16) (v := ?_) rfl (by kernel_rfl) (by kernel_rfl) (by kernel_rfl) (by kernel_rfl) (by kernel_rfl) (fun c _ _ h => absurd rfl (h.1 c)) (Or.inl ⟨by kernel_rfl, ?_⟩) HS ?_
                      rotate_left
                      · intro w hw; have hw := hw.1; go_simp; with_reducible rfl
                      refine anyE_take (i := 17) (v := ?_) rfl (by kernel_rfl) (by kernel_rfl) (by kernel_rfl) (by kernel_rfl) (by kernel_rfl) (fun c _ _ h => absurd rfl (h.1 c)) (Or.inl ⟨by kernel_rfl, ?_⟩) HS ?_
                      rotate_left
                      · intro w _; go_simp; with_reducible rfl
                      refine anyE_take (i := 18) (v := ?_) rfl (by kernel_rfl) (by kernel_rfl) (by kernel_rfl) (by kernel_rfl) (by kernel_rfl) (fun c _ _ h => absurd rfl (h.1 c)) (Or.inl ⟨by kernel_rfl, ?_⟩) HS ?_
                      rotate_left
                      · intro w _; go_simp; with_reducible rfl
                      refine anyE_take (i := 19) (v := ?_) rfl (by kernel_rfl) (by kernel_rfl) (by kernel_rfl) (by kernel_rfl) (by kernel_rfl) (fun c _ _ h => absurd rfl (h.1 c)) (Or.inl ⟨by kernel_rfl, ?_⟩) HS ?_
                      rotate_left
                      · intro w hw; have hw := hw.2.2.1; go_simp; with_reducible rfl
                      refine anyE_take (i := 20) (v := ?_) rfl (by kernel_rfl) (by kernel_rfl) (by kernel_rfl) (by kernel_rfl) (by kernel_rfl) (fun c _ _ h => absurd rfl (h.1 c)) (Or.inl ⟨by kernel_rfl, ?_⟩) HS ?_
                      rotate_left
                      · intro w _; go_simp; with_reducible rfl
                      refine anyE_take (i := 21) (v := ?_) rfl (by kernel_rfl) (by kernel_rfl) (by kernel_rfl) (by kernel_rfl) (by kernel_rfl) (fun c _ _ h => absurd rfl (h.1 c)) (Or.inl ⟨by kernel_rfl, ?_⟩) HS ?_
                      rotate_left
                      · intro w _; go_simp; with_reducible rfl
                      refine anyE_take (i := 22) (v := ?_) rfl (by kernel_rfl) (by kernel_rfl) (by kernel_rfl) (by kernel_rfl) (by kernel_rfl) (fun c _ _ h => absurd rfl (h.1 c)) (Or.inl ⟨by kernel_rfl, ?_⟩) HS ?_
                      rotate_left
                      · intro w _; go_simp; with_reducible rfl
                      refine anyE_take (i := 23) (v := ?_) rfl (by kernel_rfl) (by kernel_rfl) (by kernel_rfl) (by kernel_rfl) (by kernel_rfl) (fun c _ _ h => absurd rfl (h.1 c)) (Or.inl ⟨by kernel_rfl, ?_⟩) HS ?_
                      rotate_left
                      · intro w _; go_simp; with_reducible rfl
                      refine anyE_take (i := 24) (v := ?_) rfl (by kernel_rfl) (by kernel_rfl) (by kernel_rfl) (by kernel_rfl) (by kernel_rfl) (fun c _ _ h => absurd rfl (h.1 c)) (Or.inl ⟨by kernel_rfl, ?_⟩) HS ?_
                      rotate_left
                      · intro w hw; have hw := hw.2.2.2.1; go_simp; with_reducible rfl
                      refine anyE_take (i := 25) (v := ?_) rfl (by kernel_rfl) (by kernel_rfl) (by kernel_rfl) (by kernel_rfl) (by kernel_rfl) (fun c _ _ h => absurd rfl (h.1 c)) (Or.inl ⟨by kernel_rfl, ?_⟩) HS ?_
                      rotate_left
                      · intro w _; go_simp; with_reducible rfl
                      refine anyE_take (i := 26) (v := ?_) rfl (by kernel_rfl) (by kernel_rfl) (by kernel_rfl) (by kernel_rfl) (by kernel_rfl) (fun c _ _ h => absurd rfl (h.1 c)) (Or.inl ⟨by kernel_rfl, ?_⟩) HS ?_
                      rotate_left
                      · intro w _; go_simp; with_reducible rfl
                      refine anyE_take (i := 27) (v := ?_) rfl (by kernel_rfl) (by kernel_rfl) (by kernel_rfl) (by kernel_rfl) (by kernel_rfl) (fun c _ _ h => absurd rfl (h.1 c)) (Or.inl ⟨by kernel_rfl, ?_⟩) HS ?_
                      rotate_left
                      · intro w hw; have hw := hw.2.2.2.2; go_simp; with_reducible rfl
                      refine anyE_take (i := 28) (v := ?_) rfl (by kernel_rfl) (by kernel_rfl) (by kernel_rfl) (by kernel_rfl) (by kernel_rfl) (fun c _ _ h => absurd rfl (h.1 c)) (Or.inl ⟨by kernel_rfl, ?_⟩) HS ?_
                      rotate_left
                      · intro w _; go_simp; with_reducible rfl
                      refine anyE_take (i := 29) (v := ?_) rfl (by kernel_rfl) (by kernel_rfl) (by kernel_rfl) (by kernel_rfl) (by kernel_rfl) (fun c _ _ h => absurd rfl (h.1 c)) (Or.inl ⟨by kernel_rfl, ?_⟩) HS ?_
                      rotate_left
                      · intro w _; go_simp; with_reducible rfl
                      refine anyE_take (i := 30) (v := ?_) rfl (by kernel_rfl) (by kernel_rfl) (by kernel_rfl) (by kernel_rfl) (by kernel_rfl) (fun c _ _ h => absurd rfl (h.1 c)) (Or.inl ⟨by kernel_rfl, ?_⟩) HS ?_
                      rotate_left
                      · intro w _; go_simp; with_reducible rfl
                      refine anyE_rest (by kernel_rfl) ?_
                      refine wpAny_ready (rs := [31]) (by kernel_rfl) (by simp) ?_
                      refine AllReady.cons rfl (fun K hK => ?_) AllReady.nil
                      go_simp
                      refine hK _ _ ?_
                      clear hK K
                      refine wpAny_done (by kernel_rfl) ?_ _
                      refine ⟨(fun c h => by cases h), ?_⟩
                      go_wp2
                      exact ⟨⟨u + 1, hut, congrArg (Value.int .i64) (by omega), HFIN.out _ (by cases z <;> rfl)⟩, by simp only [intOf]; omega⟩
                  · go_wp2
                    refine wp_region_EQ (fun X => X.cell? ⟨m, v, none⟩ = some (.slice (some ⟨bv, 0, none⟩) k bvc) ∧ X.cell? ⟨bv, u, none⟩ = some (.bool true) ∧ X.cell? ⟨bv, i, none⟩ = some (.bool y) ∧ X.cell? ⟨m, i, none⟩ = some (.slice (some ⟨bk, 0, none⟩) k bkc) ∧ X.cell? ⟨bk, u, none⟩ = some (.bool z)) [31] (by kernel_rfl) ?_
                    have HS : _ := And.intro (DRC Y _ _ hv3) (And.intro (DRC Y _ _ hcx) (And.intro (DRC Y _ _ hcy) (And.intro (DRC Y _ _ hk3) (DRC Y _ _ hcz))))
                    change anyE _ _ _ _ _ _ _ _ _ (World.drew _)
                    refine anyE_take (i := 0) (v := ?_) rfl (by kernel_rfl) (by kernel_rfl) (by kernel_rfl) (by kernel_rfl) (by kernel_rfl) (fun c _ _ h => absurd rfl (h.1 c)) (Or.inl ⟨by kernel_rfl, ?_⟩) HS ?_
                    rotate_left
                    · intro w _; go_simp; with_reducible rfl
                    refine anyE_take (i := 1) (v := ?_) rfl (by kernel_rfl) (by kernel_rfl) (by kernel_rfl) (by kernel_rfl) (by kernel_rfl) (fun c _ _ h => absurd rfl (h.1 c)) (Or.inl ⟨by kernel_rfl, ?_⟩) HS ?_
                    rotate_left
                    · intro w _; go_simp; with_reducible rfl
                    refine anyE_take (i := 2) (v := ?_) rfl (by kernel_rfl) (by kernel_rfl) (by kernel_rfl) (by kernel_rfl) (by kernel_rfl) (fun c _ _ h => absurd rfl (h.1 c)) (Or.inl ⟨by kernel_rfl, ?_⟩) HS ?_
                    rotate_left
                    · intro w _; go_simp; with_reducible rfl
                    refine anyE_take (i := 3) (v := ?_) rfl (by kernel_rfl) (by kernel_rfl) (by kernel_rfl) (by kernel_rfl) (by kernel_rfl) (fun c _ _ h => absurd rfl (h.1 c)) (Or.inl ⟨by kernel_rfl, ?_⟩) HS ?_
                    rotate_left
                    · intro w hw; have hw := hw.1; go_simp; with_reducible rfl
                    refine anyE_take (i := 4) (v := ?_) rfl (by kernel_rfl) (by kernel_rfl) (by kernel_rfl) (by kernel_rfl) (by kernel_rfl) (fun c _ _ h => absurd rfl (h.1 c)) (Or.inl ⟨by kernel_rfl, ?_⟩) HS ?_
                    rotate_left
                    · intro w _; go_simp; with_reducible rfl
                    refine anyE_take (i := 5) (v := ?_) rfl (by kernel_rfl) (by kernel_rfl) (by kernel_rfl) (by kernel_rfl) (by kernel_rfl) (fun c _ _ h => absurd rfl (h.1 c)) (Or.inl ⟨by kernel_rfl, ?_⟩) HS ?_
                    rotate_left
                    · intro w _; go_simp; with_reducible rfl
                    refine anyE_take (i := 6) (v := ?_) rfl (by kernel_rfl) (by kernel_rfl) (by kernel_rfl) (by kernel_rfl) (by kernel_rfl) (fun c _ _ h => absurd rfl (h.1 c)) (Or.inl ⟨by kernel_rfl, ?_⟩) HS ?_
                    rotate_left
                    · intro w _; go_simp; with_reducible rfl
                    refine anyE_take (i := 7) (v := ?_) rfl (by kernel_rfl) (by kernel_rfl) (by kernel_rfl) (by kernel_rfl) (by kernel_rfl) (fun c _ _ h => absurd rfl (h.1 c)) (Or.inl ⟨by kernel_rfl, ?_⟩) HS ?_
                    rotate_left
                    · intro w _; go_simp; with_reducible rfl
                    refine anyE_take (i := 8) (v := ?_) rfl (by kernel_rfl) (by kernel_rfl) (by kernel_rfl) (by kernel_rfl) (by kernel_rfl) (fun c _ _ h => absurd rfl (h.1 c)) (Or.inl ⟨by kernel_rfl, ?_⟩) HS ?_
                    rotate_left
                    · intro w hw; have hw := hw.1; go_simp; with_reducible rfl
                    refine anyE_take (i := 9) (v := ?_) rfl (by kernel_rfl) (by kernel_rfl) (by kernel_rfl) (by kernel_rfl) (by kernel_rfl) (fun c _ _ h => absurd rfl (h.1 c)) (Or.inl ⟨by kernel_rfl, ?_⟩) HS ?_
                    rotate_left
                    · intro w _; go_simp; with_reducible rfl
                    refine anyE_take (i := 10) (v := ?_) rfl (by kernel_rfl) (by kernel_rfl) (by kernel_rfl) (by kernel_rfl) (by kernel_rfl) (fun c _ _ h => absurd rfl (h.1 c)) (Or.inl ⟨by kernel_rfl, ?_⟩) HS ?_
                    rotate_left
                    · intro w _; go_simp; with_reducible rfl
                    refine anyE_take (i := 11) (v := ?_) rfl (by kernel_rfl) (by kernel_rfl) (by kernel_rfl) (by kernel_rfl) (by kernel_rfl) (fun c _ _ h => absurd rfl (h.1 c)) (Or.inl ⟨by kernel_rfl, ?_⟩) HS ?_
                    rotate_left
                    · intro w hw; have hw := hw.2.1; go_simp; with_reducible rfl
                    refine anyE_take (i := 12) (v := ?_) rfl (by kernel_rfl) (by kernel_rfl) (by kernel_rfl) (by kernel_rfl) (by kernel_rfl) (fun c _ _ h => absurd rfl (h.1 c)) (Or.inl ⟨by kernel_rfl, ?_⟩) HS ?_
                    rotate_left
                    · intro w _; go_simp; with_reducible rfl
                    refine anyE_take (i := 13) (v := undef) rfl (by kernel_rfl) (by kernel_rfl) (by kernel_rfl) (by kernel_rfl) (by kernel_rfl) (fun c _ _ h => absurd rfl (h.1 c)) (Or.inr ⟨by kernel_rfl, rfl⟩) HS ?_
                    refine anyE_take (i := 14) (v := undef) rfl (by kernel_rfl) (by kernel_rfl) (by kernel_rfl) (by kernel_rfl) (by kernel_rfl) (fun c _ _ h => absurd rfl (h.1 c)) (Or.inr ⟨by kernel_rfl, rfl⟩) HS ?_
                    refine anyE_take (i := 15) (v := undef) rfl (by kernel_rfl) (by kernel_rfl) (by kernel_rfl) (by kernel_rfl) (by kernel_rfl) (fun c _ _ h => absurd rfl (h.1 c)) (Or.inr ⟨by kernel_rfl, rfl⟩) HS ?_
                    refine anyE_take (i := 16) (v := undef) rfl (by kernel_rfl) (by kernel_rfl) (by kernel_rfl) (by kernel_rfl) (by kernel_rfl) (fun c _ _ h => absurd rfl (h.1 c)) (Or.inr ⟨by kernel_rfl, rfl⟩) HS ?_
                    refine anyE_take (i := 17) (v := undef) rfl (by kernel_rfl) (by kernel_rfl) (by kernel_rfl) (by kernel_rfl) (by kernel_rfl) (fun c _ _ h => absurd rfl (h.1 c)) (Or.inr ⟨by kernel_rfl, rfl⟩) HS ?_
                    refine anyE_take (i := 18) (v := undef) rfl (by kernel_rfl) (by kernel_rfl) (by kernel_rfl) (by kernel_rfl) (by kernel_rfl) (fun c _ _ h => absurd rfl (h.1 c)) (Or.inr ⟨by kernel_rfl, rfl⟩) HS ?_
                    refine anyE_take (i := 19) (v := undef) rfl (by kernel_rfl) (by kernel_rfl) (by kernel_rfl) (by kernel_rfl) (by kernel_rfl) (fun c _ _ h => absurd rfl (h.1 c)) (Or.inr ⟨by kernel_rfl, rfl⟩) HS ?_
                    refine anyE_take (i := 20) (v := undef) rfl (by kernel_rfl) (by kernel_rfl) (by kernel_rfl) (by kernel_rfl) (by kernel_rfl) (fun c _ _ h => absurd rfl (h.1 c)) (Or.inr ⟨by kernel_rfl, rfl⟩) HS ?_
                    refine anyE_take (i := 21) (v := undef) rfl (by kernel_rfl) (by kernel_rfl) (by kernel_rfl) (by kernel_rfl) (by kernel_rfl) (fun c _ _ h => absurd rfl (h.1 c)) (Or.inr ⟨by kernel_rfl, rfl⟩) HS ?_
                    refine anyE_take (i := 22) (v := undef) rfl (by kernel_rfl) (by kernel_rfl) (by kernel_rfl) (by kernel_rfl) (by kernel_rfl) (fun c _ _ h => absurd rfl (h.1 c)) (Or.inr ⟨by kernel_rfl, rfl⟩) HS ?_
                    refine anyE_take (i := 23) (v := undef) rfl (by kernel_rfl) (by kernel_rfl) (by kernel_rfl) (by kernel_rfl) (by kernel_rfl) (fun c _ _ h => absurd rfl (h.1 c)) (Or.inr ⟨by kernel_rfl, rfl⟩) HS ?_
                    refine anyE_take (i := 24) (v := undef) rfl (by kernel_rfl) (by kernel_rfl) (by kernel_rfl) (by kernel_rfl) (by kernel_rfl) (fun c _ _ h => absurd rfl (h.1 c)) (Or.inr ⟨by kernel_rfl, rfl⟩) HS ?_
                    refine anyE_take (i := 25) (v := undef) rfl (by kernel_rfl) (by kernel_rfl) (by kernel_rfl) (by kernel_rfl) (by kernel_rfl) (fun c _ _ h => absurd rfl (h.1 c)) (Or.inr ⟨by kernel_rfl, rfl⟩) HS ?_
                    refine anyE_take (i := 26) (v := undef) rfl (by kernel_rfl) (by kernel_rfl) (by kernel_rfl) (by kernel_rfl) (by kernel_rfl) (fun c _ _ h => absurd rfl (h.1 c)) (Or.inr ⟨by kernel_rfl, rfl⟩) HS ?_
                    refine anyE_take (i := 27) (v := undef) rfl (by kernel_rfl) (by kernel_rfl) (by kernel_rfl) (by kernel_rfl) (by kernel_rfl) (fun c _ _ h => absurd rfl (h.1 c)) (Or.inr ⟨by kernel_rfl, rfl⟩) HS ?_
                    refine anyE_take (i := 28) (v := undef) rfl (by kernel_rfl) (by kernel_rfl) (by kernel_rfl) (by kernel_rfl) (by kernel_rfl) (fun c _ _ h => absurd rfl (h.1 c)) (Or.inr ⟨by kernel_rfl, rfl⟩) HS ?_
                    refine anyE_take (i := 29) (v := ?_) rfl (by kernel_rfl) (by kernel_rfl) (by kernel_rfl) (by kernel_rfl) (by kernel_rfl) (fun c _ _ h => absurd rfl (h.1 c)) (Or.inl ⟨by kernel_rfl, ?_⟩) HS ?_
                    rotate_left
                    · intro w _; go_simp; with_reducible rfl
                    refine anyE_take (i := 30) (v := ?_) rfl (by kernel_rfl) (by kernel_rfl) (by kernel_rfl) (by kernel_rfl) (by kernel_rfl) (fun c _ _ h => absurd rfl (h.1 c)) (Or.inl ⟨by kernel_rfl, ?_⟩) HS ?_
                    rotate_left
                    · intro w _; go_simp; with_reducible rfl
                    refine anyE_rest (by kernel_rfl) ?_
                    refine wpAny_ready (rs := [31]) (by kernel_rfl) (by simp) ?_
                    refine AllReady.cons rfl (fun K hK => ?_) AllReady.nil
                    go_simp
                    refine hK _ _ ?_
                    clear hK K
                    refine wpAny_done (by kernel_rfl) ?_ _
                    refine ⟨(fun c h => by cases h), ?_⟩
                    go_wp2
                    exact ⟨⟨u + 1, hut, congrArg (Value.int .i64) (by omega), HFIN.out _ (by rfl)⟩, by simp only [intOf]; omega⟩
                · obtain rfl : u = k := by omega
                  go_wp2
                  exact ⟨⟨v + 1, hvt, congrArg (Value.int .i64) (by omega), ybx, ybw, M, ybm, cinv_row yci⟩, by simp only [intOf]; omega⟩
            · obtain rfl : v = k := by omega
              go_wp2
              obtain ⟨M, h1, h2⟩ := XCR.out
              exact ⟨⟨i + 1, hit, congrArg (Value.int .i64) (by omega), XBX.out, XBW.out, M, h1, cinv_round h2⟩, by simp only [intOf]; omega⟩
        · obtain rfl : i = k := by omega
          go_wp2
          go_ret
          obtain ⟨M, h1, h2⟩ := UCR.out
          exact ⟨_, vs, rfl, by rw [← HEND.out M h2]; exact h1, UBW.out⟩
end Go.Proofs.Ytljkobijoenabaa.dv
