import Derived.Test.YtomikgkoegkofaaGreatDoorUsf
import Derived.Test.YtomikgkoegkofaaGreatDoorUsh
namespace Go.Proofs.YtomikgkoegkofaaGreatDoor.dv
open Go.ChangeShapes Go.WideShapes Go.ChangeAt Go.RowKit Go.Maps Go.WideMaps Go.WideElems
set_option linter.unusedVariables false
set_option linter.unusedSimpArgs false
/-! the document's all -/
attribute [local go_sem] run_store_fl
def okB (S : List Bool) (none : Bool) (s : Int) : Bool := if s < 0 then !none else at_ S s
theorem allB_ok (S : List Bool) (none : Bool) (F : List Int) : allB S none F = F.all (okB S none) := rfl
theorem all_snoc (p : Int → Bool) (F : List Int) (k : Nat) (h : k < F.length) (ht : (F.take k).all p = true) : (F.take (k + 1)).all p = p (F.getD k 0) := by
  rw [List.take_succ_eq_append_getElem h, List.all_append, ht, List.getD_eq_getElem?_getD, List.getElem?_eq_getElem h]
  simp
theorem all_no (p : Int → Bool) (F : List Int) (k : Nat) (h : k < F.length) (hf : p (F.getD k 0) = false) : F.all p = false := by
  rw [List.all_eq_false]
  refine ⟨F.getD k 0, by rw [List.getD_eq_getElem?_getD, List.getElem?_eq_getElem h]; simp, by rw [hf]; decide⟩
set_option maxRecDepth 100000 in
set_option maxHeartbeats 2000000 in
theorem rall_any (w : World) (r : Rl) (ao : Option Addr) (cp : Nat) (v : Value) (S : List Bool) (none : Bool) (hr : RowAt w (.slice ao r.right.length cp) r.right) (hS : ReadB w v S) (hv : ∀ s ∈ r.right, 0 ≤ s → s.toNat < S.length) : Calls Tryz.prog 44 #[RlV r ao cp, v, .bool none] w fun e w' => e = .returned (.bool (allB S none r.right)) ∧ Below w.heap.size w w' := by
  obtain ⟨lf, F, wt⟩ := r
  dsimp only at hr hv
  rw [allB_ok]
  unfold RlV
  show Calls _ _ #[.agg #[.int .i64 lf, .slice ao F.length cp, .float .f64 wt], v, .bool none] w _
  have b0 := Blk.new w 44 #[.int .i64 lf, .slice ao F.length cp, .float .f64 wt]
  have hbl : Below w.heap.size w (w.alloc (.cells #[.int .i64 lf, .slice ao F.length cp, .float .f64 wt] 44)) := (Below.refl _ w).alloc (Nat.le_refl _) _
  have hr1 := hr.below hbl
  have hS1 := hS.below hbl
  generalize hW0 : w.alloc (.cells #[.int .i64 lf, .slice ao F.length cp, .float .f64 wt] 44) = w0 at *
  have c0 := b0.cell 0
  have c1 := b0.cell 1
  have c2 := b0.cell 2
  simp only [List.getElem?_toArray, List.getElem?_cons_zero, List.getElem?_cons_succ] at c0 c1 c2
  obtain ⟨ao', cp', e, hlc, hmx, _, hin, hc⟩ := hr1
  cases e
  obtain ⟨so, sc, rfl, hsm, hsc⟩ := hS1
  have hlen : F.length ≤ 9223372036854775807 := by unfold maxLen at hmx; omega
  have HC := Lib.hid hc
  have HSC := Lib.hid hsc
  have HV := Lib.hid hv
  clear hc hsc hr hS hv hin
  show Calls _ _ _ w fun e w' => e = .returned (.bool (F.all (okB S none))) ∧ Below w.heap.size w w'
  go_enter Tryz.func44, Tryz.ntmps44
  go_wp2
  go_loopw [7] (fun q wr => ∃ k : Nat, k ≤ F.length ∧ q = .int .i64 k ∧ (F.take k).all (okB S none) = true ∧ wr = w0) (fun q _ => F.length - (intOf q).toNat)
  case atStart => exact ⟨0, Nat.zero_le _, rfl, rfl, rfl⟩
  case round =>
    obtain ⟨k, hk, rfl, hall, rfl⟩ := hrel
    have HA := Lib.hid hall
    clear hall
    by_cases hlt : k < F.length
    · obtain ⟨a, rfl, hab, hca⟩ := HC.out k hlt
      have HSN := Lib.hid (all_snoc (okB S none) F k hlt HA.out)
      have HNO := Lib.hid (fun h => all_no (okB S none) F k hlt h)
      have hmem : F.getD k 0 ∈ F := by rw [List.getD_eq_getElem?_getD, List.getElem?_eq_getElem hlt]; simp
      have HVK := Lib.hid (HV.out _ hmem)
      clear hmem
      generalize F.getD k 0 = x at *
      by_cases h0 : x < 0
      · have hok : okB S none x = !none := by unfold okB; rw [if_pos h0]
        have h0' : ¬ 0 ≤ x := by omega
        cases none
        · have HOK := Lib.hid hok
          clear hok
          go_wp2
          exact ⟨⟨k + 1, hlt, congrArg (Value.int .i64) (by omega), by rw [HSN.out, HOK.out]; rfl, trivial⟩, by simp only [intOf]; omega⟩
        · have HF := Lib.hid (HNO.out hok)
          clear hok
          go_wp2
          go_ret
          exact ⟨by rw [HF.out]; rfl, hbl⟩
      · obtain ⟨j, rfl⟩ : ∃ j : Nat, x = j := ⟨x.toNat, by omega⟩
        have hjS : j < S.length := HVK.out (by omega)
        obtain ⟨sa, rfl, hsab, hsca⟩ := HSC.out j hjS
        have hok : okB S none (j : Int) = S.getD j false := by unfold okB; rw [if_neg h0]; rfl
        have hjl : (j : Int) < (S.length : Int) := by omega
        cases hb : S.getD j false
        · rw [hb] at hok hsca
          have HF := Lib.hid (HNO.out hok)
          clear hok hb
          go_wp2
          go_ret
          exact ⟨by rw [HF.out]; rfl, hbl⟩
        · rw [hb] at hok hsca
          have HOK := Lib.hid hok
          clear hok hb
          cases none
          · go_wp2
            exact ⟨⟨k + 1, hlt, congrArg (Value.int .i64) (by omega), by rw [HSN.out, HOK.out], trivial⟩, by simp only [intOf]; omega⟩
          · go_wp2
            exact ⟨⟨k + 1, hlt, congrArg (Value.int .i64) (by omega), by rw [HSN.out, HOK.out], trivial⟩, by simp only [intOf]; omega⟩
    · obtain rfl : k = F.length := by omega
      have h := HA.out
      rw [List.take_length] at h
      have HF := Lib.hid h
      clear h
      go_wp2
      go_ret
      exact ⟨by rw [HF.out]; rfl, hbl⟩
end Go.Proofs.YtomikgkoegkofaaGreatDoor.dv
namespace Go.Proofs.YtomikgkoegkofaaGreatDoor.dv
open Go.ChangeShapes Go.WideShapes Go.ChangeAt Go.RowKit Go.Maps Go.WideMaps Go.WideElems
set_option linter.unusedVariables false
set_option linter.unusedSimpArgs false
/-! the document's rounds -/
attribute [local go_sem] run_store_fl
theorem rounds_snoc (R : List Rl) (none : Bool) : ∀ (k : Nat) (S : List Bool), roundsB R none (k + 1) S = roundB none (roundsB R none k S) R (roundsB R none k S)
  | 0, S => rfl
  | k + 1, S => by
    show roundsB R none (k + 1) (roundB none S R S) = _
    rw [rounds_snoc R none k]
    rfl
theorem roundB_app (none : Bool) (S : List Bool) : ∀ (A C : List Rl) (N : List Bool), roundB none S (A ++ C) N = roundB none S C (roundB none S A N)
  | [], C, N => rfl
  | r :: A, C, N => by
    show roundB none S (A ++ C) _ = _
    rw [roundB_app none S A C]
    rfl
theorem roundB_snoc (none : Bool) (S : List Bool) (R : List Rl) (N : List Bool) (k : Nat) (r : Rl) (h : R[k]? = some r) : roundB none S (R.take (k + 1)) N = if allB S none r.right then (roundB none S (R.take k) N).set r.left.toNat true else roundB none S (R.take k) N := by
  obtain ⟨hk, rfl⟩ := List.getElem?_eq_some_iff.1 h
  rw [List.take_succ_eq_append_getElem hk, roundB_app]
  rfl
theorem marks_of_own {w : World} {B n : Nat} {v : Value} {S : List Bool} (h : w.ownsRow B 4 1 v n (BV S)) (hn : S.length = n) (hv : v ≠ .slice none 0 0) : ∃ m, MarksAt w B m v S ∧ B ≤ m := by
  subst hn
  rcases h.2 with ⟨rfl, _⟩ | ⟨g, cap, cur, rfl, hB, _⟩
  · exact absurd rfl hv
  · exact ⟨g, ⟨⟨cap, rfl⟩, h⟩, hB⟩
theorem one_bv (l : List Bool) : ∀ u ∈ BV l, u.oneCell' = true := by
  intro u hu
  simp [BV] at hu
  obtain ⟨h, rfl⟩ | ⟨h, rfl⟩ := hu <;> rfl
set_option maxRecDepth 100000 in
set_option maxHeartbeats 4000000 in
theorem rounds_any (w : World) (B : Nat) (ta va : Option Addr) (tl tc vl vc : Nat) (rv : Value) (nn : Bool) (R : List Rl) (hR : RulesAt B w rv R) (hB : B ≤ w.heap.size) (hl : ∀ r ∈ R, 0 ≤ r.left ∧ r.left < vl) (hvr : ∀ r ∈ R, ∀ s ∈ r.right, 0 ≤ s → s.toNat < vl) (hv : vl ≤ 1000) :
    Calls Tryz.prog 37 #[.agg #[.slice ta tl tc, .slice va vl vc, rv], .bool nn] w fun e w' => ∃ v m, e = .returned v ∧ MarksAt w' w.heap.size m v (roundsB R nn vl (List.replicate vl false)) ∧ Below w.heap.size w w' := by
  obtain ⟨i0, hi, hz0, hz1, hz2⟩ := info_parts info_bool
  obtain ⟨ra, rc, rfl, hn, hrl⟩ := id hR
  have b0 := Blk.new w 25 #[.slice ta tl tc, .slice va vl vc, .slice ra R.length rc]
  have hbl : Below w.heap.size w (w.alloc (.cells #[.slice ta tl tc, .slice va vl vc, .slice ra R.length rc] 25)) := (Below.refl _ w).alloc (Nat.le_refl _) _
  have HR := Lib.hid hR
  have hn' : R.length ≤ 9223372036854775807 := by unfold maxLen at hn; omega
  generalize hW0 : w.alloc (.cells #[.slice ta tl tc, .slice va vl vc, .slice ra R.length rc] 25) = w0 at *
  have hz : w0.heap.size = w.heap.size + 1 := by rw [← hW0]; simp
  have c0 := b0.cell 0
  have c1 := b0.cell 1
  have c2 := b0.cell 2
  simp only [List.getElem?_toArray, List.getElem?_cons_zero, List.getElem?_cons_succ] at c0 c1 c2
  have HL := Lib.hid hl
  have HVR := Lib.hid hvr
  clear hR hrl hl hvr
  go_enter Tryz.func37, Tryz.ntmps37
  go_wp2_with (at_make; refine wpList_make_full _ rfl _ _ 34 rfl w.heap.size 4 i0 (.bool false) 1 Tryz.underlying34 hi hz0 hz1 .i64 .i64 _ _ vl rfl rfl rfl rfl (by rw [hz2]; omega) (by unfold maxLen; omega) (by omega) ?_; intro w1 hown1 hgrow1)
  rw [show (Value.bool false).cells = #[.bool false] from rfl, toList_madeCells_one, Nat.mul_one, ← bv_rep, hz] at hown1
  have hB1 : Below (w.heap.size + 1) w0 w1 := (Below.refl (w.heap.size + 1) w0).grown hgrow1 (by omega) (fun k e => by cases e)
  have hrpl : (List.replicate vl false).length = vl := by simp
  have hm1 : MarksAt w1 w.heap.size (w.heap.size + 1) (.slice (some ⟨w.heap.size + 1, 0, none⟩) vl vl) (List.replicate vl false) := ⟨⟨vl, by rw [hrpl]⟩, by rw [hrpl]; exact hown1⟩
  go_loopw [5, 6] (fun ov i wr => ∃ (j m : Nat), j ≤ vl ∧ i = .int .i64 j ∧ MarksAt wr w.heap.size m ov (roundsB R nn j (List.replicate vl false)) ∧ Below (w.heap.size + 1) w0 wr) (fun _ i _ => vl - (intOf i).toNat)
  case atStart => exact ⟨0, _, Nat.zero_le _, rfl, hm1, hB1⟩
  case round =>
    obtain ⟨j, m, hj, rfl, hmk, hbr⟩ := hrel
    have hzr := hbr.size
    have hbw : Below w.heap.size w wr := hbl.trans (hbr.mono (by omega))
    have bg := b0.below hbr (by omega)
    have d0 := bg.cell 0
    have d1 := bg.cell 1
    have d2 := bg.cell 2
    simp only [List.getElem?_toArray, List.getElem?_cons_zero, List.getElem?_cons_succ] at d0 d1 d2
    have HSN := Lib.hid (rounds_snoc R nn j (List.replicate vl false))
    have HSL : Hid ((roundsB R nn j (List.replicate vl false)).length = vl) := Lib.hid (by rw [rounds_len]; exact hrpl)
    have HMK := Lib.hid hmk
    clear hm1 hown1 hB1
    by_cases hlt : j < vl
    · generalize hSj : roundsB R nn j (List.replicate vl false) = S at *
      have hmlt := marks_lt hmk
      have hSl : S.length ≤ 1000 := by have := HSL.out; omega
      obtain ⟨⟨cap, rfl⟩, hown⟩ := hmk
      have hcel := (hown.alloc (.cells #[] 4)).cells (g := m) rfl
      have HCEL := Lib.hid hcel
      clear hcel hown hSj
      go_wp2_with (at_builtin; go_must (refine wpList_append_own _ rfl _ _ 34 rfl wr.heap.size 4 i0 (.bool false) 1 1 Tryz.underlying34 hi hz0 hz1 hz2 rfl (by decide) _ _ _ rfl (World.ownsRow_lit wr #[] 0 (Nat.le_refl _) (by decide) rfl) ⟨m, 0, none⟩ S.length cap (BV S) rfl (by simp [BV]) HCEL.out (one_bv S) (by unfold maxLen; omega) (by omega) (by simp) ?_); intro v' w2 hown2 hgrow2 hnil)
      rw [Nat.zero_add, List.nil_append] at hown2
      have hvn : v' ≠ .slice none 0 0 := fun h => absurd (show Value.slice (some ⟨wr.heap.size, 0, none⟩) 0 0 = .slice none 0 0 from (hnil.1 h).1) (by simp)
      have hg2 : (wr.alloc (.cells #[] 4)).grownBy w2 (some wr.heap.size) := hgrow2
      obtain ⟨m2, hm2, hge⟩ := marks_of_own hown2 rfl hvn
      have hm2w := marks_weak hm2 (show w.heap.size ≤ wr.heap.size by omega)
      have hmo := marks_far (marks_alloc HMK.out (.cells #[] 4)) hg2 (by omega)
      have hB2 : Below (w.heap.size + 1) w0 w2 := (hbr.alloc (by omega) (.cells #[] 4)).grown hg2 (by simp; omega) (fun k e => by cases e; omega)
      have HM2 := Lib.hid hm2w
      have HMO := Lib.hid hmo
      have hne : m ≠ m2 := by omega
      obtain ⟨⟨c2', rfl⟩, _⟩ := hm2
      clear hown2 hgrow2 hnil hvn hg2 hm2w hmo HMK d0 d1 d2 bg HCEL
      go_wp2
      go_loopw [8] (fun q wi => ∃ k : Nat, k ≤ R.length ∧ q = .int .i64 k ∧ MarksAt wi w.heap.size m2 (.slice (some ⟨m2, 0, none⟩) S.length c2') (roundB nn S (R.take k) S) ∧ MarksAt wi w.heap.size m (.slice (some ⟨m, 0, none⟩) S.length cap) S ∧ Below (w.heap.size + 1) w0 wi) (fun q _ => R.length - (intOf q).toNat)
      case atStart => exact ⟨0, Nat.zero_le _, rfl, HM2.out, HMO.out, hB2⟩
      case round =>
        obtain ⟨k, hk, rfl, hnx, hou, hbi⟩ := hrel
        have hzi := hbi.size
        have hbwi : Below w.heap.size w wr := hbl.trans (hbi.mono (by omega))
        have bgi := b0.below hbi (by omega)
        have p0 := bgi.cell 0
        have p1 := bgi.cell 1
        have p2 := bgi.cell 2
        simp only [List.getElem?_toArray, List.getElem?_cons_zero, List.getElem?_cons_succ] at p0 p1 p2
        have HNX := Lib.hid hnx
        have HOU := Lib.hid hou
        clear hB2 hnx
        by_cases hlt2 : k < R.length
        · obtain ⟨r, hrk⟩ : ∃ r, R[k]? = some r := ⟨_, List.getElem?_eq_getElem hlt2⟩
          have HRS := Lib.hid (roundB_snoc nn S R S k r hrk)
          have HRL : Hid ((roundB nn S (R.take k) S).length = S.length) := Lib.hid (round_len nn S _ _)
          obtain ⟨hl0, hl1⟩ := HL.out r (List.mem_of_getElem? hrk)
          have hvr' := HVR.out r (List.mem_of_getElem? hrk)
          obtain ⟨ra', rc', er, _, hr2⟩ := HR.out.far (hbwi.mono hB)
          cases er
          obtain ⟨a2, rfl, hab2, ao2, c2, h1, h2, h3, h4, h5, h6, h7, h8⟩ := hr2 k r hrk
          rw [addf a2 (k * 3) 1 (by decide)] at h2
          rw [addf a2 (k * 3) 2 (by decide)] at h3
          have hrow : RowAt wr (.slice ao2 r.right.length c2) r.right := ⟨ao2, c2, rfl, h4, h5, h6, h8.1, fun i hi => by
            obtain ⟨a3, e3, hab3, hca⟩ := h7 i hi
            exact ⟨a3, e3, by omega, hca⟩⟩
          have hall := rall_any wr r ao2 c2 _ S nn hrow hou.read (fun s hs h0 => by have := hvr' s hs h0; have := HSL.out; omega)
          clear hr2 h7 h8 hrow hou h4 h5 h6
          obtain ⟨lf, rt, wt⟩ := r
          dsimp only at *
          obtain ⟨lk, rfl⟩ : ∃ lk : Nat, lf = lk := ⟨lf.toNat, by omega⟩
          have hlk : lk < S.length := by have := HSL.out; omega
          unfold RlV at hall
          dsimp only at hall
          generalize hN : roundB nn S (R.take k) S = N at *
          clear hN
          cases hb : allB S nn rt
          · rw [hb] at hall
            have HRS2 : Hid (roundB nn S (R.take (k + 1)) S = N) := Lib.hid (by have h := HRS.out; rw [hb] at h; exact h)
            go_wp2_with fail
            refine hall.mono ?_
            rintro e w5 ⟨rfl, hb5⟩
            go_wp2
            exact ⟨⟨k + 1, hlt2, congrArg (Value.int .i64) (by omega), by rw [HRS2.out]; exact marks_below HNX.out hb5, marks_below HOU.out hb5, hbi.trans (hb5.mono (by omega))⟩, by simp only [intOf]; omega⟩
          · rw [hb] at hall
            have HRS2 : Hid (roundB nn S (R.take (k + 1)) S = N.set lk true) := Lib.hid (by have h := HRS.out; rw [hb] at h; exact h)
            go_wp2_with fail
            refine hall.mono ?_
            rintro e w5 ⟨rfl, hb5⟩
            have b5 := bgi.below hb5 bgi.lt
            have q0 := b5.cell 0
            have q1 := b5.cell 1
            have q2 := b5.cell 2
            simp only [List.getElem?_toArray, List.getElem?_cons_zero, List.getElem?_cons_succ] at q0 q1 q2
            have h15 := (hb5.cell (p := a2.add (k * 3)) (by rw [add_block]; omega)).trans h1
            have hN5 := marks_below HNX.out hb5
            have hO5 := marks_below HOU.out hb5
            have hown5 := hN5.2
            rw [HRL.out] at hown5
            have hlkN : lk < N.length := by rw [HRL.out]; exact hlk
            have hcw : w5.cell? ⟨m2, lk, none⟩ = some (.bool (N.getD lk false)) := by
              rw [hown5.cellAt lk (by omega)]
              simp [BV, List.getD_eq_getElem?_getD, List.getElem?_eq_getElem hlkN]
            have hfw := hown5.frozenAt lk
            obtain ⟨o1, o2⟩ := hown5.stored lk (.bool true)
            rw [bv_set] at o1
            have hz5 := hb5.size
            have hNf : MarksAt (w5.setCell ⟨m2, lk, none⟩ (.bool true)) w.heap.size m2 (.slice (some ⟨m2, 0, none⟩) S.length c2') (N.set lk true) := ⟨⟨c2', by rw [set_len, HRL.out]⟩, by rw [set_len, HRL.out]; exact o1⟩
            have hOf := marks_far hO5 o2 hne
            have hBf : Below (w.heap.size + 1) w0 (w5.setCell ⟨m2, lk, none⟩ (.bool true)) := (hbi.trans (hb5.mono (by omega))).grown o2 (by omega) (fun k e => by cases e; omega)
            have HNF := Lib.hid hNf
            have HOF := Lib.hid hOf
            have HBF := Lib.hid hBf
            clear hNf hOf hBf o1 o2 hown5 hN5 hO5 hall h1 h2 h3 p0 p1 p2
            generalize N.getD lk false = bb at *
            go_wp2
            exact ⟨⟨k + 1, hlt2, congrArg (Value.int .i64) (by omega), by rw [HRS2.out]; exact HNF.out, HOF.out, HBF.out⟩, by simp only [intOf]; omega⟩
        · obtain rfl : k = R.length := by omega
          have h := HNX.out
          rw [List.take_length] at h
          have H := Lib.hid h
          have hlt' := hlt
          clear h
          go_wp2
          exact ⟨⟨j + 1, m2, hlt', congrArg (Value.int .i64) (by omega), by rw [HSN.out]; exact H.out, hbi⟩, by simp only [intOf]; omega⟩
    · obtain rfl : vl = j := by omega
      obtain ⟨⟨cap, rfl⟩, _⟩ := hmk
      have hmk2 := HMK.out
      go_wp2
      go_ret
      exact ⟨_, m, rfl, HMK.out, hbw⟩
end Go.Proofs.YtomikgkoegkofaaGreatDoor.dv
namespace Go.Proofs.YtomikgkoegkofaaGreatDoor.dv
open Go.ChangeShapes Go.WideShapes Go.ChangeAt Go.RowKit Go.Maps Go.WideMaps Go.WideElems
set_option linter.unusedVariables false
set_option linter.unusedSimpArgs false
/-! the document's Nullable -/
attribute [local go_sem] run_store_fl
set_option maxRecDepth 100000 in
set_option maxHeartbeats 1000000 in
theorem rnullable_any (w : World) (B : Nat) (ta va : Option Addr) (tl tc vl vc : Nat) (rv : Value) (R : List Rl) (hR : RulesAt B w rv R) (hB : B ≤ w.heap.size) (hl : ∀ r ∈ R, 0 ≤ r.left ∧ r.left < vl) (hvr : ∀ r ∈ R, ∀ s ∈ r.right, 0 ≤ s → s.toNat < vl) (hv : vl ≤ 1000) :
    Calls Tryz.prog 16 #[.agg #[.slice ta tl tc, .slice va vl vc, rv]] w fun e w' => ∃ v m, e = .returned v ∧ MarksAt w' w.heap.size m v (roundsB R true vl (List.replicate vl false)) ∧ Below w.heap.size w w' := by
  obtain ⟨ra, rc, rfl, hn, _⟩ := id hR
  have b0 := Blk.new w 25 #[.slice ta tl tc, .slice va vl vc, .slice ra R.length rc]
  have c0 := b0.cell 0
  have c1 := b0.cell 1
  have c2 := b0.cell 2
  simp only [List.getElem?_toArray, List.getElem?_cons_zero, List.getElem?_cons_succ] at c0 c1 c2
  have hbl : Below w.heap.size w (w.alloc (.cells #[.slice ta tl tc, .slice va vl vc, .slice ra R.length rc] 25)) := (Below.refl _ w).alloc (Nat.le_refl _) _
  have hrd := rounds_any (w.alloc (.cells #[.slice ta tl tc, .slice va vl vc, .slice ra R.length rc] 25)) B ta va tl tc vl vc (.slice ra R.length rc) true R (hR.far (hbl.mono hB)) (by rw [World.size_alloc]; omega) hl hvr hv
  clear hR hl hvr
  go_enter Tryz.func16, Tryz.ntmps16
  go_wp2_with fail
  refine hrd.mono ?_
  rintro e w1 ⟨v, m, rfl, hm, hb1⟩
  have HM := Lib.hid (marks_weak hm (show w.heap.size ≤ _ by rw [World.size_alloc]; omega))
  clear hm
  go_wp2
  go_ret
  exact ⟨v, m, rfl, HM.out, hbl.trans (hb1.mono (by rw [World.size_alloc]; omega))⟩
end Go.Proofs.YtomikgkoegkofaaGreatDoor.dv
namespace Go.Proofs.YtomikgkoegkofaaGreatDoor.dv
open Go.ChangeShapes Go.WideShapes Go.ChangeAt Go.RowKit Go.Maps Go.WideMaps Go.WideElems
set_option linter.unusedVariables false
set_option linter.unusedSimpArgs false
/-! the document's Productive -/
attribute [local go_sem] run_store_fl
set_option maxRecDepth 100000 in
set_option maxHeartbeats 1000000 in
theorem rproductive_any (w : World) (B : Nat) (ta va : Option Addr) (tl tc vl vc : Nat) (rv : Value) (R : List Rl) (hR : RulesAt B w rv R) (hB : B ≤ w.heap.size) (hl : ∀ r ∈ R, 0 ≤ r.left ∧ r.left < vl) (hvr : ∀ r ∈ R, ∀ s ∈ r.right, 0 ≤ s → s.toNat < vl) (hv : vl ≤ 1000) :
    Calls Tryz.prog 14 #[.agg #[.slice ta tl tc, .slice va vl vc, rv]] w fun e w' => ∃ v m, e = .returned v ∧ MarksAt w' w.heap.size m v (roundsB R false vl (List.replicate vl false)) ∧ Below w.heap.size w w' := by
  obtain ⟨ra, rc, rfl, hn, _⟩ := id hR
  have b0 := Blk.new w 25 #[.slice ta tl tc, .slice va vl vc, .slice ra R.length rc]
  have c0 := b0.cell 0
  have c1 := b0.cell 1
  have c2 := b0.cell 2
  simp only [List.getElem?_toArray, List.getElem?_cons_zero, List.getElem?_cons_succ] at c0 c1 c2
  have hbl : Below w.heap.size w (w.alloc (.cells #[.slice ta tl tc, .slice va vl vc, .slice ra R.length rc] 25)) := (Below.refl _ w).alloc (Nat.le_refl _) _
  have hrd := rounds_any (w.alloc (.cells #[.slice ta tl tc, .slice va vl vc, .slice ra R.length rc] 25)) B ta va tl tc vl vc (.slice ra R.length rc) false R (hR.far (hbl.mono hB)) (by rw [World.size_alloc]; omega) hl hvr hv
  clear hR hl hvr
  go_enter Tryz.func14, Tryz.ntmps14
  go_wp2_with fail
  refine hrd.mono ?_
  rintro e w1 ⟨v, m, rfl, hm, hb1⟩
  have HM := Lib.hid (marks_weak hm (show w.heap.size ≤ _ by rw [World.size_alloc]; omega))
  clear hm
  go_wp2
  go_ret
  exact ⟨v, m, rfl, HM.out, hbl.trans (hb1.mono (by rw [World.size_alloc]; omega))⟩
end Go.Proofs.YtomikgkoegkofaaGreatDoor.dv
namespace Go.Proofs.YtomikgkoegkofaaGreatDoor.dv
open Go.ChangeShapes Go.WideShapes Go.ChangeAt Go.RowKit Go.Maps Go.WideMaps Go.WideElems
set_option linter.unusedVariables false
set_option linter.unusedSimpArgs false
/-! the document's Useful -/
attribute [local go_sem] run_store_fl
theorem marksR_snoc (W : List Bool) (R : List Rl) : ∀ (k : Nat) (S : List Bool), marksR W R (k + 1) S = markR W R (marksR W R k S)
  | 0, S => rfl
  | k + 1, S => by
    show marksR W R (k + 1) (markR W R S) = _
    rw [marksR_snoc W R k]
    rfl
theorem markR_app (W : List Bool) : ∀ (A C : List Rl) (S : List Bool), markR W (A ++ C) S = markR W C (markR W A S)
  | [], C, S => rfl
  | r :: A, C, S => by
    show markR W (A ++ C) _ = _
    rw [markR_app W A C]
    rfl
theorem markR_snoc (W : List Bool) (R : List Rl) (S : List Bool) (k : Nat) (r : Rl) (h : R[k]? = some r) : markR W (R.take (k + 1)) S = markF W r r.right (markR W (R.take k) S) := by
  obtain ⟨hk, rfl⟩ := List.getElem?_eq_some_iff.1 h
  rw [List.take_succ_eq_append_getElem hk, markR_app]
  rfl
theorem markF_app (W : List Bool) (r : Rl) : ∀ (A C : List Int) (S : List Bool), markF W r (A ++ C) S = markF W r C (markF W r A S)
  | [], C, S => rfl
  | s :: A, C, S => by
    show markF W r (A ++ C) _ = _
    rw [markF_app W r A C]
    rfl
theorem markF_snoc (W : List Bool) (r : Rl) (F : List Int) (S : List Bool) (k : Nat) (h : k < F.length) : markF W r (F.take (k + 1)) S = if 0 ≤ F.getD k 0 ∧ at_ (markF W r (F.take k) S) r.left = true ∧ allB W false r.right = true then (markF W r (F.take k) S).set (F.getD k 0).toNat true else markF W r (F.take k) S := by
  rw [List.take_succ_eq_append_getElem h, markF_app, List.getD_eq_getElem?_getD, List.getElem?_eq_getElem h]
  rfl
theorem bv_setb (S : List Bool) (k : Nat) (b : Bool) : (BV S).set k (.bool b) = BV (S.set k b) := by unfold BV; rw [List.map_set]
theorem start_set (Wd : List Bool) (n : Nat) : (List.replicate n false).set 0 (at_ Wd 0) = startB Wd n := by
  unfold startB
  cases h : at_ Wd 0
  · rw [if_neg (by decide)]
    apply List.ext_getElem (by simp)
    intro i h1 h2
    rw [List.getElem_set]
    split <;> simp
  · rw [if_pos rfl]
theorem start_len (Wd : List Bool) (n : Nat) : (startB Wd n).length = n := by rw [← start_set]; simp
theorem marks_kept {w w' : World} {B m : Nat} {v : Value} {S : List Bool} (h : MarksAt w B m v S) (hg : w.grownBy w' none) : MarksAt w' B m v S := ⟨h.1, ownsRow_keep h.2 (fun g hg' _ => hg.block g hg' (fun e => by cases e))⟩
theorem marks_cell {w : World} {B m : Nat} {v : Value} {S : List Bool} (h : MarksAt w B m v S) (k : Nat) (hk : k < S.length) : w.cell? ⟨m, k, none⟩ = some (.bool (S.getD k false)) ∧ w.frozen? ⟨m, k, none⟩ = false := by
  obtain ⟨⟨cap, rfl⟩, ho⟩ := h
  refine ⟨?_, ho.frozenAt k⟩
  rw [ho.cellAt k (by omega)]
  simp [BV, List.getD_eq_getElem?_getD, List.getElem?_eq_getElem hk]
theorem marks_store {w : World} {B m : Nat} {v : Value} {S : List Bool} (h : MarksAt w B m v S) (k : Nat) (b : Bool) : MarksAt (w.setCell ⟨m, k, none⟩ (.bool b)) B m v (S.set k b) ∧ w.grownBy (w.setCell ⟨m, k, none⟩ (.bool b)) (some m) := by
  obtain ⟨⟨cap, rfl⟩, ho⟩ := h
  obtain ⟨o1, o2⟩ := ho.stored k (.bool b)
  rw [bv_setb] at o1
  have hl : (S.set k b).length = S.length := by simp
  exact ⟨⟨⟨cap, by rw [hl]⟩, by rw [hl]; exact o1⟩, o2⟩
set_option maxRecDepth 100000 in
set_option maxHeartbeats 800000 in
theorem ruseful_any (w : World) (B : Nat) (ta va : Option Addr) (tl tc vl vc : Nat) (rv : Value) (R : List Rl) (hR : RulesAt B w rv R) (hB : B ≤ w.heap.size) (hl : ∀ r ∈ R, 0 ≤ r.left ∧ r.left < vl) (hvr : ∀ r ∈ R, ∀ s ∈ r.right, 0 ≤ s → s.toNat < vl) (hv : vl ≤ 1000) (hv0 : 0 < vl) :
    Calls Tryz.prog 18 #[.agg #[.slice ta tl tc, .slice va vl vc, rv]] w fun e w' => ∃ v m, e = .returned v ∧ MarksAt w' w.heap.size m v (useW R vl) ∧ Below w.heap.size w w' := by
  obtain ⟨i0, hi, hz0, hz1, hz2⟩ := info_parts info_bool
  obtain ⟨ra, rc, rfl, hn, _⟩ := id hR
  have b0 := Blk.new w 25 #[.slice ta tl tc, .slice va vl vc, .slice ra R.length rc]
  have hbl : Below w.heap.size w (w.alloc (.cells #[.slice ta tl tc, .slice va vl vc, .slice ra R.length rc] 25)) := (Below.refl _ w).alloc (Nat.le_refl _) _
  have HR := Lib.hid hR
  have hn' : R.length ≤ 9223372036854775807 := by unfold maxLen at hn; omega
  have hrp := rproductive_any (w.alloc (.cells #[.slice ta tl tc, .slice va vl vc, .slice ra R.length rc] 25)) B ta va tl tc vl vc (.slice ra R.length rc) R (hR.far (hbl.mono hB)) (by rw [World.size_alloc]; omega) hl hvr hv
  generalize hW0 : w.alloc (.cells #[.slice ta tl tc, .slice va vl vc, .slice ra R.length rc] 25) = w0 at *
  have hz : w0.heap.size = w.heap.size + 1 := by rw [← hW0]; simp
  have c0 := b0.cell 0
  have c1 := b0.cell 1
  have c2 := b0.cell 2
  simp only [List.getElem?_toArray, List.getElem?_cons_zero, List.getElem?_cons_succ] at c0 c1 c2
  have HL := Lib.hid hl
  have HVR := Lib.hid hvr
  have hlenW : (roundsB R false vl (List.replicate vl false)).length = vl := by rw [rounds_len]; simp
  have HUW : Hid (useW R vl = marksR (roundsB R false vl (List.replicate vl false)) R vl (startB (roundsB R false vl (List.replicate vl false)) vl)) := Lib.hid rfl
  have HZ := Lib.hid hz
  clear hR hl hvr
  go_enter Tryz.func18, Tryz.ntmps18
  go_wp2_with fail
  refine hrp.mono ?_
  rintro e w1 ⟨wv, mw, rfl, hwm, hb1⟩
  have hB1 : Below (w.heap.size + 1) w0 w1 := hb1.mono (by omega)
  have hz1' := hB1.size
  have bg1 := b0.below hB1 (by omega)
  have p0 := bg1.cell 0
  have p1 := bg1.cell 1
  have p2 := bg1.cell 2
  simp only [List.getElem?_toArray, List.getElem?_cons_zero, List.getElem?_cons_succ] at p0 p1 p2
  have hmwlt := marks_lt hwm
  have HWM := Lib.hid hwm
  obtain ⟨⟨wc, rfl⟩, _⟩ := hwm
  obtain ⟨bw, hbw⟩ : ∃ b, b = (roundsB R false vl (List.replicate vl false)).getD 0 false := ⟨_, rfl⟩
  have HBW := Lib.hid hbw
  clear hrp c0 c1 c2 hz hbw
  go_wp2_with (at_make; refine wpList_make_full _ rfl _ _ 34 rfl w1.heap.size 4 i0 (.bool false) 1 Tryz.underlying34 hi hz0 hz1 .i64 .i64 _ _ vl rfl rfl rfl rfl (by rw [hz2]; omega) (by unfold maxLen; omega) (by omega) ?_; intro w2 hown2 hgrow2; rw [show (Value.bool false).cells = #[.bool false] from rfl, toList_madeCells_one, Nat.mul_one, ← bv_rep] at hown2; have hm2 : MarksAt w2 w1.heap.size w1.heap.size (.slice (some ⟨w1.heap.size, 0, none⟩) vl vl) (List.replicate vl false) := ⟨⟨vl, by simp⟩, by simpa using hown2⟩; have hw2 := marks_kept HWM.out hgrow2; obtain ⟨k1, k2⟩ := marks_cell hm2 0 (by simp; omega); have hw0 := (marks_cell hw2 0 (by omega)).1; rw [← HBW.out] at hw0)
  have hst := marks_store hm2 0 bw
  have hss : (List.replicate vl false).set 0 bw = startB (roundsB R false vl (List.replicate vl false)) vl := by rw [HBW.out]; exact start_set _ vl
  rw [hss] at hst
  have hne : mw ≠ w1.heap.size := by omega
  have hm3 := marks_weak hst.1 (show w.heap.size ≤ w1.heap.size by have := HZ.out; omega)
  have hw3 := marks_weak (marks_far hw2 hst.2 hne) (show w.heap.size ≤ w0.heap.size by have := HZ.out; omega)
  have hB2 : Below (w.heap.size + 1) w0 w2 := hB1.grown hgrow2 (by have := HZ.out; omega) (fun k e => by cases e)
  have hB3 : Below (w.heap.size + 1) w0 (w2.setCell ⟨w1.heap.size, 0, none⟩ (.bool bw)) := hB2.grown hst.2 (by have := HZ.out; have := hB2.size; omega) (fun k e => by cases e; have := HZ.out; omega)
  have HM3 := Lib.hid hm3
  have HW3 := Lib.hid hw3
  have HB3 := Lib.hid hB3
  clear hst hss hm3 hw3 hB2 hB3 hm2 hw2 k1 k2 hw0 hown2 hgrow2
  have hS0 := start_len (roundsB R false vl (List.replicate vl false)) vl
  have HS0 := Lib.hid hS0
  clear hS0 HBW
  generalize hWd : roundsB R false vl (List.replicate vl false) = Wd at *
  generalize startB Wd vl = S0 at *
  clear hWd
  generalize hW3 : w2.setCell ⟨w1.heap.size, 0, none⟩ (.bool bw) = w3 at *
  have HMB : Hid (w.heap.size + 1 ≤ w1.heap.size) := Lib.hid (by have := HZ.out; omega)
  generalize hm : w1.heap.size = m at *
  clear hW3 p0 p1 p2 bg1 hb1 hB1 HWM
  go_loopw [5] (fun q wr => ∃ j : Nat, j ≤ vl ∧ q = .int .i64 j ∧ MarksAt wr w.heap.size m (.slice (some ⟨m, 0, none⟩) vl vl) (marksR Wd R j S0) ∧ MarksAt wr w.heap.size mw (.slice (some ⟨mw, 0, none⟩) Wd.length wc) Wd ∧ Below (w.heap.size + 1) w0 wr) (fun q _ => vl - (intOf q).toNat)
  case atStart => exact ⟨0, Nat.zero_le _, rfl, HM3.out, HW3.out, HB3.out⟩
  case round =>
    obtain ⟨j, hj, rfl, hmk, hwk, hbr⟩ := hrel
    have HSN := Lib.hid (marksR_snoc Wd R j S0)
    have hz := HZ.out
    have hzr := hbr.size
    have bg := b0.below hbr (by omega)
    have d0 := bg.cell 0
    have d1 := bg.cell 1
    have d2 := bg.cell 2
    simp only [List.getElem?_toArray, List.getElem?_cons_zero, List.getElem?_cons_succ] at d0 d1 d2
    have HLJ : Hid ((marksR Wd R j S0).length = vl) := Lib.hid (by rw [marksR_len]; exact HS0.out)
    have HMK := Lib.hid hmk
    have HWK := Lib.hid hwk
    clear hz hmk hwk
    generalize hSj : marksR Wd R j S0 = S1 at *
    by_cases hlt : j < vl
    · go_wp2
      go_loopw [6] (fun q wi => ∃ k : Nat, k ≤ R.length ∧ q = .int .i64 k ∧ MarksAt wi w.heap.size m (.slice (some ⟨m, 0, none⟩) vl vl) (markR Wd (R.take k) S1) ∧ MarksAt wi w.heap.size mw (.slice (some ⟨mw, 0, none⟩) Wd.length wc) Wd ∧ Below (w.heap.size + 1) w0 wi) (fun q _ => R.length - (intOf q).toNat)
      case atStart => exact ⟨0, Nat.zero_le _, rfl, HMK.out, HWK.out, hbr⟩
      case round =>
        obtain ⟨k, hk, rfl, hmk2, hwk2, hbi⟩ := hrel
        clear d0 d1 d2 bg
        have hz := HZ.out
        have hzi := hbi.size
        have bgi := b0.below hbi (by omega)
        have p0 := bgi.cell 0
        have p1 := bgi.cell 1
        have p2 := bgi.cell 2
        simp only [List.getElem?_toArray, List.getElem?_cons_zero, List.getElem?_cons_succ] at p0 p1 p2
        have hbwi : Below w.heap.size w wr := hbl.trans (hbi.mono (by omega))
        have HMK2 := Lib.hid hmk2
        have HWK2 := Lib.hid hwk2
        have hmlt := marks_lt hmk2
        have hwlt := marks_lt hwk2
        have hBwr : w.heap.size < wr.heap.size := by omega
        clear hz hmk2 hwk2
        by_cases hlt2 : k < R.length
        · obtain ⟨r, hrk⟩ : ∃ r, R[k]? = some r := ⟨_, List.getElem?_eq_getElem hlt2⟩
          have HRS := Lib.hid (markR_snoc Wd R S1 k r hrk)
          have HRL : Hid ((markR Wd (R.take k) S1).length = vl) := Lib.hid (by rw [markR_len]; exact HLJ.out)
          obtain ⟨hl0, hl1⟩ := HL.out r (List.mem_of_getElem? hrk)
          have HVR' := Lib.hid (HVR.out r (List.mem_of_getElem? hrk))
          obtain ⟨ra', rc', er, _, hr2⟩ := HR.out.far (hbwi.mono hB)
          cases er
          obtain ⟨a2, rfl, hab2, ao2, c2, h1, h2, h3, h4, h5, h6, h7, h8⟩ := hr2 k r hrk
          rw [addf a2 (k * 3) 1 (by decide)] at h2
          rw [addf a2 (k * 3) 2 (by decide)] at h3
          have hrow : RowAt wr (.slice ao2 r.right.length c2) r.right := ⟨ao2, c2, rfl, h4, h5, h6, h8.1, fun i hi => by
            obtain ⟨a3, e3, hab3, hca⟩ := h7 i hi
            exact ⟨a3, e3, by omega, hca⟩⟩
          have HU : Hid (∀ a : Addr, ao2 = some a → 0 < r.right.length → a.block ≠ m) := Lib.hid (fun a e h0 => by
            obtain ⟨a3, e3, hab3, _⟩ := h7 0 h0
            rw [e] at e3
            cases e3
            have := HMB.out
            omega)
          have HROW := Lib.hid hrow
          have hrn : r.right.length ≤ 9223372036854775807 := by unfold maxLen at h5; omega
          clear hr2 h7 h8 hrow h4 h5 h6
          obtain ⟨lf, rt, wt⟩ := r
          dsimp only at *
          obtain ⟨lk, rfl⟩ : ∃ lk : Nat, lf = lk := ⟨lf.toNat, by omega⟩
          generalize hN : markR Wd (R.take k) S1 = S2 at *
          clear hN
          have bR := Blk.new wr 44 #[.int .i64 lk, .slice ao2 rt.length c2, .float .f64 wt]
          have hWA : Below wr.heap.size wr (wr.alloc (.cells #[.int .i64 lk, .slice ao2 rt.length c2, .float .f64 wt] 44)) := (Below.refl _ wr).alloc (Nat.le_refl _) _
          have hBA : Below (w.heap.size + 1) w0 (wr.alloc (.cells #[.int .i64 lk, .slice ao2 rt.length c2, .float .f64 wt] 44)) := hbi.alloc (by have := HZ.out; omega) _
          have hMA := marks_alloc HMK2.out (.cells #[.int .i64 lk, .slice ao2 rt.length c2, .float .f64 wt] 44)
          have hWK := marks_alloc HWK2.out (.cells #[.int .i64 lk, .slice ao2 rt.length c2, .float .f64 wt] 44)
          have HROWA := Lib.hid (HROW.out.below hWA)
          have HBWA : Hid (wr.heap.size ≠ m ∧ wr.heap.size < (wr.alloc (.cells #[.int .i64 lk, .slice ao2 rt.length c2, .float .f64 wt] 44)).heap.size ∧ w.heap.size < wr.heap.size) := Lib.hid ⟨by omega, by simp, by have := HZ.out; omega⟩
          have HRES := HR
          have hlenWd := Lib.hid hlenW
          have hmB : w.heap.size + 1 ≤ m := HMB.out
          clear hlenW
          go_wp2
          generalize hWW : wr.alloc (.cells #[.int .i64 lk, .slice ao2 rt.length c2, .float .f64 wt] 44) = wx at *
          generalize hqb : wr.heap.size = qb at *
          clear hWW hqb hmlt hwlt h1 h2 h3 p0 p1 p2 hWA
          go_loopw [8] (fun q wi => ∃ i : Nat, i ≤ rt.length ∧ q = .int .i64 i ∧ Blk wi qb 44 #[.int .i64 lk, .slice ao2 rt.length c2, .float .f64 wt] ∧ RowAt wi (.slice ao2 rt.length c2) rt ∧ MarksAt wi w.heap.size m (.slice (some ⟨m, 0, none⟩) vl vl) (markF Wd ⟨lk, rt, wt⟩ (rt.take i) S2) ∧ MarksAt wi w.heap.size mw (.slice (some ⟨mw, 0, none⟩) Wd.length wc) Wd ∧ Below (w.heap.size + 1) w0 wi) (fun q _ => rt.length - (intOf q).toNat)
          case atStart => exact ⟨0, Nat.zero_le _, rfl, bR, HROWA.out, hMA, hWK, hBA⟩
          case round =>
            obtain ⟨i, hi', rfl, hbq, hrw, hmk3, hwk3, hb3'⟩ := hrel
            have hzw : w.heap.size + 1 ≤ wr.heap.size := by have := HZ.out; have := hb3'.size; omega
            clear bR hMA hWK hBA
            have q0 := hbq.cell 0
            have q1 := hbq.cell 1
            have q2 := hbq.cell 2
            simp only [List.getElem?_toArray, List.getElem?_cons_zero, List.getElem?_cons_succ] at q0 q1 q2
            have HRW := Lib.hid hrw
            have HMK3 := Lib.hid hmk3
            have HWK3 := Lib.hid hwk3
            obtain ⟨ao3, cp3, e3, _, hrm3, _, _, hrc3⟩ := hrw
            cases e3
            by_cases hlt3 : i < rt.length
            · obtain ⟨a5, rfl, hab5, hca5⟩ := hrc3 i hlt3
              have HSF := Lib.hid (markF_snoc Wd ⟨lk, rt, wt⟩ rt S2 i hlt3)
              have hmem : rt.getD i 0 ∈ rt := by rw [List.getD_eq_getElem?_getD, List.getElem?_eq_getElem hlt3]; simp
              have HVI := Lib.hid (HVR'.out _ hmem)
              have HML : Hid ((markF Wd ⟨lk, rt, wt⟩ (rt.take i) S2).length = vl) := Lib.hid (by rw [markF_len]; exact HRL.out)
              clear hmem hrc3 hmk3 hwk3
              generalize rt.getD i 0 = x at *
              generalize hM : markF Wd ⟨lk, rt, wt⟩ (rt.take i) S2 = M at *
              clear hM
              by_cases h0 : x < 0
              · have h0' : ¬ 0 ≤ x := by omega
                have HS2 : Hid (markF Wd ⟨lk, rt, wt⟩ (rt.take (i + 1)) S2 = M) := Lib.hid (by rw [HSF.out, if_neg (fun h => h0' h.1)])
                go_wp2
                exact ⟨⟨i + 1, hlt3, congrArg (Value.int .i64) (by omega), hbq, HRW.out, by rw [HS2.out]; exact HMK3.out, HWK3.out, hb3'⟩, by simp only [intOf]; omega⟩
              · obtain ⟨xk, rfl⟩ : ∃ xk : Nat, x = xk := ⟨x.toNat, by omega⟩
                have hxv : xk < vl := HVI.out (by omega)
                have hlv : lk < vl := by omega
                have hxi : (xk : Int) < (vl : Int) := by omega
                have hli : (lk : Int) < (vl : Int) := by omega
                obtain ⟨hc1, hf1⟩ := marks_cell HMK3.out lk (by rw [HML.out]; exact hlv)
                have hat : at_ M (lk : Int) = M.getD lk false := rfl
                have HAT := Lib.hid hat
                clear hat
                cases hb1 : M.getD lk false
                · rw [hb1] at hc1
                  have HS2 : Hid (markF Wd ⟨lk, rt, wt⟩ (rt.take (i + 1)) S2 = M) := Lib.hid (by
                    rw [HSF.out, if_neg]
                    rintro ⟨_, h, _⟩
                    have h' : at_ M (lk : Int) = true := h
                    rw [HAT.out, hb1] at h'
                    cases h')
                  clear hb1
                  go_wp2
                  exact ⟨⟨i + 1, hlt3, congrArg (Value.int .i64) (by omega), hbq, HRW.out, by rw [HS2.out]; exact HMK3.out, HWK3.out, hb3'⟩, by simp only [intOf]; omega⟩
                · rw [hb1] at hc1
                  have hall := rall_any wr ⟨lk, rt, wt⟩ _ c2 _ Wd false HRW.out HWK3.out.read (fun s hs h0 => by rw [hlenWd.out]; exact HVR'.out s hs h0)
                  unfold RlV at hall
                  dsimp only at hall
                  rw [hlenWd.out] at hall
                  have HB1 := Lib.hid hb1
                  clear hb1
                  cases hb2 : allB Wd false rt
                  · rw [hb2] at hall
                    have HS2 : Hid (markF Wd ⟨lk, rt, wt⟩ (rt.take (i + 1)) S2 = M) := Lib.hid (by
                      rw [HSF.out, if_neg]
                      rintro ⟨_, _, h⟩
                      have h' : allB Wd false rt = true := h
                      rw [hb2] at h'
                      cases h')
                    clear hb2
                    go_wp2_with fail
                    refine hall.mono ?_
                    rintro e w5 ⟨rfl, hb5⟩
                    go_wp2
                    exact ⟨⟨i + 1, hlt3, congrArg (Value.int .i64) (by omega), hbq.below hb5 hbq.lt, HRW.out.below hb5, by rw [HS2.out]; exact marks_below HMK3.out hb5, marks_below HWK3.out hb5, hb3'.trans (hb5.mono hzw)⟩, by simp only [intOf]; omega⟩
                  · rw [hb2] at hall
                    have HS2 : Hid (markF Wd ⟨lk, rt, wt⟩ (rt.take (i + 1)) S2 = M.set xk true) := Lib.hid (by
                      rw [HSF.out, if_pos ⟨by omega, by show at_ M (lk : Int) = true; rw [HAT.out]; exact HB1.out, hb2⟩]
                      rfl)
                    clear hb2
                    go_wp2_with fail
                    refine hall.mono ?_
                    rintro e w5 ⟨rfl, hb5⟩
                    have b5 := hbq.below hb5 hbq.lt
                    have u0 := b5.cell 0
                    have u1 := b5.cell 1
                    have u2 := b5.cell 2
                    simp only [List.getElem?_toArray, List.getElem?_cons_zero, List.getElem?_cons_succ] at u0 u1 u2
                    have hca6 := (hb5.cell (p := a5.add i) (by rw [add_block]; exact hab5)).trans hca5
                    have hM5 := marks_below HMK3.out hb5
                    obtain ⟨hc5, hf5⟩ := marks_cell hM5 xk (by rw [HML.out]; exact hxv)
                    obtain ⟨o1, o2⟩ := marks_store hM5 xk true
                    have hz5 := hb5.size
                    have hz3 := hb3'.size
                    have hW5 := marks_far (marks_below HWK3.out hb5) o2 hne
                    have hB5 : Below (w.heap.size + 1) w0 (w5.setCell ⟨m, xk, none⟩ (.bool true)) := (hb3'.trans (hb5.mono hzw)).grown o2 (by omega) (fun k e => by cases e; exact hmB)
                    have hbq5 := b5.grown o2 (fun e => HBWA.out.1 (Option.some.inj e))
                    have hrw5 : RowAt (w5.setCell ⟨m, xk, none⟩ (.bool true)) (.slice (some a5) rt.length c2) rt := by
                      obtain ⟨ao', cp', e, r1, r2, r3, r4, r5⟩ := HRW.out.below hb5
                      cases e
                      refine ⟨some a5, c2, rfl, r1, r2, r3, r4, fun i' hi'' => ?_⟩
                      obtain ⟨a6, e6, hab6, hca7⟩ := r5 i' hi''
                      cases e6
                      exact ⟨a5, rfl, by simpa using hab6, (World.cell?_of_block (o2.block _ (by rw [add_block]; exact hab6) (by rw [add_block]; intro e; exact HU.out a5 rfl (by omega) (Option.some.inj e)))).trans hca7⟩
                    have HO1 := Lib.hid o1
                    clear o1 o2 hM5 hall q0 q1 q2 hc1
                    generalize M.getD xk false = bb at *
                    go_wp2
                    exact ⟨⟨i + 1, hlt3, congrArg (Value.int .i64) (by omega), hbq5, hrw5, by rw [HS2.out]; exact HO1.out, hW5, hB5⟩, by simp only [intOf]; omega⟩
            · obtain rfl : i = rt.length := by omega
              have h := HMK3.out
              rw [List.take_length] at h
              have H := Lib.hid h
              clear h hrc3 hmk3 hwk3
              go_wp2
              exact ⟨⟨k + 1, hlt2, congrArg (Value.int .i64) (by omega), by rw [HRS.out]; exact H.out, HWK3.out, hb3'⟩, by simp only [intOf]; omega⟩
        · obtain rfl : k = R.length := by omega
          have h := HMK2.out
          rw [List.take_length] at h
          have H := Lib.hid h
          clear h
          go_wp2
          exact ⟨⟨j + 1, hlt, congrArg (Value.int .i64) (by omega), by rw [HSN.out]; exact H.out, HWK2.out, hbi⟩, by simp only [intOf]; omega⟩
    · obtain rfl : vl = j := by omega
      have HU2 : Hid (useW R vl = S1) := Lib.hid (by rw [HUW.out, hSj])
      go_wp2
      go_ret
      exact ⟨_, m, rfl, by rw [HU2.out]; exact HMK.out, hbl.trans (hbr.mono (by omega))⟩
end Go.Proofs.YtomikgkoegkofaaGreatDoor.dv
