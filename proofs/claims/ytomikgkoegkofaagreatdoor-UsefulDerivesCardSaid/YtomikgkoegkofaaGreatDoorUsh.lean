import Derived.Test.YtomikgkoegkofaaGreatDoorUsg
namespace Go.Proofs.YtomikgkoegkofaaGreatDoor.dv
open Go.ChangeShapes Go.WideShapes Go.ChangeAt Go.RowKit Go.Maps Go.WideMaps Go.WideElems
set_option linter.unusedVariables false
set_option linter.unusedSimpArgs false
/-! Useful -/
/-- the first ones: the start, if it becomes a word -/
def startB (Wd : List Bool) (n : Nat) : List Bool := if at_ Wd 0 = true then (List.replicate n false).set 0 true else List.replicate n false
def useW (R : List Rl) (n : Nat) : List Bool := marksR (roundsB R false n (List.replicate n false)) R n (startB (roundsB R false n (List.replicate n false)) n)
theorem satU_closed {R : List Rl} {Wd S : List Bool} (h : ∀ i, i < R.length → SatU R Wd S i) : ClosedU R Wd S := fun r hr h1 h2 s hs h0 => by
  obtain ⟨i, hi, rfl⟩ := List.mem_iff_getElem.1 hr
  exact h i hi _ (List.getElem?_eq_getElem hi) h1 h2 s hs h0
theorem at_none (n : Nat) (s : Int) : at_ (List.replicate n false) s = false := by
  unfold at_
  rw [List.getD_eq_getElem?_getD, List.getElem?_replicate]
  split <;> rfl
theorem use_none {R : List Rl} {n : Nat} (h : at_ (roundsB R false n (List.replicate n false)) 0 = false) (hv : ∀ r ∈ R, ∀ s ∈ r.right, 0 ≤ s → s.toNat < n) : useW R n = List.replicate n false := by
  unfold useW startB
  rw [if_neg (by rw [h]; decide)]
  refine (least_marks (by simp) (by simp) hv (fun r hr h1 => ?_) (le.refl _) (fun X _ _ h0 => h0)).symm
  rw [at_none] at h1
  cases h1
set_option maxRecDepth 100000 in
set_option maxHeartbeats 1000000 in
theorem useful_any (w : World) (B : Nat) (ta va : Option Addr) (tl tc vl vc : Nat) (rv : Value) (R : List Rl) (hR : RulesAt B w rv R) (hB : B ≤ w.heap.size) (hl : ∀ r ∈ R, 0 ≤ r.left ∧ r.left < vl) (hvr : ∀ r ∈ R, ∀ s ∈ r.right, 0 ≤ s → s.toNat < vl) (hv : vl ≤ 1000) :
    Calls Tryz.prog 17 #[.agg #[.slice ta tl tc, .slice va vl vc, rv]] w fun e w' => ∃ v, e = .returned v ∧ MarksAt w' w.heap.size (w.heap.size + 1) v (useW R vl) ∧ Below w.heap.size w w' := by
  obtain ⟨i0, hi, hz0, hz1, hz2⟩ := info_parts info_bool
  obtain ⟨ra, rc, rfl, hn, hrl⟩ := id hR
  have b0 := Blk.new w 25 #[.slice ta tl tc, .slice va vl vc, .slice ra R.length rc]
  have hbl : Below w.heap.size w (w.alloc (.cells #[.slice ta tl tc, .slice va vl vc, .slice ra R.length rc] 25)) := (Below.refl _ w).alloc (Nat.le_refl _) _
  have HR := Lib.hid hR
  generalize hW0 : w.alloc (.cells #[.slice ta tl tc, .slice va vl vc, .slice ra R.length rc] 25) = w0 at *
  have hz : w0.heap.size = w.heap.size + 1 := by rw [← hW0]; simp
  have c0 := b0.cell 0
  have c1 := b0.cell 1
  have c2 := b0.cell 2
  simp only [List.getElem?_toArray, List.getElem?_cons_zero, List.getElem?_cons_succ] at c0 c1 c2
  have HL := Lib.hid hl
  have HVR := Lib.hid hvr
  have HBG := Lib.hid b0
  clear hR hrl hl hvr
  go_enter Tryz.func17, Tryz.ntmps17
  go_wp2_with (at_make; refine wpList_make_full _ rfl _ _ 34 rfl w.heap.size 4 i0 (.bool false) 1 Tryz.underlying34 hi hz0 hz1 .i64 .i64 _ _ vl rfl rfl rfl rfl (by rw [hz2]; omega) (by unfold maxLen; omega) (by omega) ?_; intro w1 hown1 hgrow1; have bg := b0.grown hgrow1 (fun e => by cases e); have pa0 : ∀ o, (w1.alloc o).cell? ⟨w.heap.size, 0, none⟩ = some (.slice ta tl tc) := fun o => (bg.alloc o).cell 0; have pa1 : ∀ o, (w1.alloc o).cell? ⟨w.heap.size, 1, none⟩ = some (.slice va vl vc) := fun o => (bg.alloc o).cell 1; have pa2 : ∀ o, (w1.alloc o).cell? ⟨w.heap.size, 2, none⟩ = some (.slice ra R.length rc) := fun o => (bg.alloc o).cell 2)
  rw [show (Value.bool false).cells = #[.bool false] from rfl, toList_madeCells_one, Nat.mul_one, ← bv_rep, hz] at hown1
  have hz1' := hgrow1.size
  have hB1 : Below w.heap.size w w1 := hbl.trans ((Below.refl w.heap.size w0).grown hgrow1 (by omega) (fun k e => by cases e))
  have hrpl : (List.replicate vl false).length = vl := by simp
  have hm1 : MarksAt w1 w.heap.size (w.heap.size + 1) (.slice (some ⟨w.heap.size + 1, 0, none⟩) vl vl) (List.replicate vl false) := ⟨⟨vl, by rw [hrpl]⟩, by rw [hrpl]; exact hown1⟩
  have hmlt := marks_lt hm1
  have bx := Blk.new w1 34 #[.slice (some ⟨w.heap.size + 1, 0, none⟩) vl vl]
  have hB2 : Below w.heap.size w (w1.alloc (.cells #[.slice (some ⟨w.heap.size + 1, 0, none⟩) vl vl] 34)) := hB1.alloc hB1.size _
  have hm2 := marks_alloc hm1 (.cells #[.slice (some ⟨w.heap.size + 1, 0, none⟩) vl vl] 34)
  have bg2 := bg.alloc (.cells #[.slice (some ⟨w.heap.size + 1, 0, none⟩) vl vl] 34)
  have hW2s : (w1.alloc (.cells #[.slice (some ⟨w.heap.size + 1, 0, none⟩) vl vl] 34)).heap.size = w1.heap.size + 1 := by simp
  generalize hW2 : w1.alloc (.cells #[.slice (some ⟨w.heap.size + 1, 0, none⟩) vl vl] 34) = w2 at *
  have HW2S := Lib.hid hW2s
  clear hW2s
  have hpr := productive_any w2 B ta va tl tc vl vc (.slice ra R.length rc) R (HR.out.far (hB2.mono hB)) (by have := hB2.size; omega) HL.out hv
  clear pa0 pa1 pa2 bg hown1
  refine hpr.mono ?_
  rintro e w3 ⟨wv, rfl, hwm, hb3⟩
  have hB3 : Below w.heap.size w w3 := hB2.trans (hb3.mono hB2.size)
  have bg3 := bg2.below hb3 bg2.lt
  have bx3 := bx.below hb3 bx.lt
  have hm3 := marks_below hm2 hb3
  have hlenW : (roundsB R false vl (List.replicate vl false)).length = vl := by rw [rounds_len]; exact hrpl
  have HWM := Lib.hid hwm
  have HM3 := Lib.hid hm3
  have HBG3 := Lib.hid bg3
  have HBX3 := Lib.hid bx3
  have hUN : at_ (roundsB R false vl (List.replicate vl false)) 0 = false → useW R vl = List.replicate vl false := fun h => use_none h HVR.out
  have HUN := Lib.hid hUN
  have hUY : at_ (roundsB R false vl (List.replicate vl false)) 0 = true → useW R vl = marksR (roundsB R false vl (List.replicate vl false)) R vl ((List.replicate vl false).set 0 true) := fun h => by unfold useW startB; rw [if_pos h]
  have HUY := Lib.hid hUY
  have b4 := Blk.new w3 34 #[wv]
  have hB4 : Below w.heap.size w (w3.alloc (.cells #[wv] 34)) := hB3.alloc hB3.size _
  have hmk := marked_any (w3.alloc (.cells #[wv] 34)) wv _ 0 (marks_alloc hwm (.cells #[wv] 34)).read
  have hz3 := hb3.size
  obtain ⟨⟨wc, rfl⟩, _⟩ := hwm
  rw [hlenW] at hmk b4 hB4 ⊢
  generalize hWd : roundsB R false vl (List.replicate vl false) = Wd at *
  clear hpr bg2 bx hm1 hm2 bg3 bx3 hm3 hUN hUY
  have pg0 : ∀ o, (w3.alloc o).cell? ⟨w.heap.size, 0, none⟩ = some (.slice ta tl tc) := fun o => (HBG3.out.alloc o).cell 0
  have pg1 : ∀ o, (w3.alloc o).cell? ⟨w.heap.size, 1, none⟩ = some (.slice va vl vc) := fun o => (HBG3.out.alloc o).cell 1
  have pg2 : ∀ o, (w3.alloc o).cell? ⟨w.heap.size, 2, none⟩ = some (.slice ra R.length rc) := fun o => (HBG3.out.alloc o).cell 2
  have px0 : ∀ o, (w3.alloc o).cell? ⟨w1.heap.size, 0, none⟩ = some (.slice (some ⟨w.heap.size + 1, 0, none⟩) vl vl) := fun o => (HBX3.out.alloc o).cell 0
  cases h0 : at_ Wd 0
  · rw [h0] at hmk
    have HU := Lib.hid (HUN.out h0)
    go_wp2_with fail
    refine hmk.mono ?_
    rintro e w4 ⟨rfl, rfl⟩
    go_wp2
    go_ret
    refine ⟨_, rfl, ?_, hB4⟩
    rw [HU.out]
    have h := marks_alloc HM3.out (.cells #[.slice (some ⟨w2.heap.size + 1, 0, none⟩) vl wc] 34)
    exact h
  · rw [h0] at hmk
    have HU := Lib.hid (HUY.out h0)
    go_wp2_with fail
    refine hmk.mono ?_
    rintro e w4 ⟨rfl, rfl⟩
    have e2 : (decide ((0 : Int) ≤ 0) && true) = true := rfl
    rw [e2]
    have hvl : 0 < vl := by
      rcases Nat.eq_zero_or_pos vl with h | h
      · have h1 : at_ Wd 0 = false := by
          unfold at_
          rw [List.getD_eq_getElem?_getD, List.getElem?_eq_none (by rw [hlenW, h]; exact Nat.zero_le _)]
          rfl
        rw [h1] at h0
        cases h0
      · exact h
    have hw2s := HW2S.out
    have hz4 : w.heap.size + 1 < w1.heap.size := hmlt
    have hm4 := marks_alloc HM3.out (.cells #[.slice (some ⟨w2.heap.size + 1, 0, none⟩) vl wc] 34)
    have hwm4 : MarksAt (w3.alloc (.cells #[.slice (some ⟨w2.heap.size + 1, 0, none⟩) vl wc] 34)) w.heap.size (w2.heap.size + 1) (.slice (some ⟨w2.heap.size + 1, 0, none⟩) vl wc) Wd := by
      have := HWM.out
      rw [hlenW] at this
      exact marks_weak (marks_alloc this _) (by have := hB2.size; omega)
    have bg4 := HBG3.out.alloc (.cells #[.slice (some ⟨w2.heap.size + 1, 0, none⟩) vl wc] 34)
    have bx4 := HBX3.out.alloc (.cells #[.slice (some ⟨w2.heap.size + 1, 0, none⟩) vl wc] 34)
    have hW4s : (w3.alloc (.cells #[.slice (some ⟨w2.heap.size + 1, 0, none⟩) vl wc] 34)).heap.size = w3.heap.size + 1 := by simp
    clear pg0 pg1 pg2 px0 hmk
    generalize hW4 : w3.alloc (.cells #[.slice (some ⟨w2.heap.size + 1, 0, none⟩) vl wc] 34) = w4 at *
    have hown4 := hm4.2
    rw [hrpl] at hown4
    have hc0 : w4.cell? ⟨w.heap.size + 1, 0, none⟩ = some (.bool false) := by
      rw [hown4.cellAt 0 (by omega)]
      simp [BV, hvl]
    have hf0 := hown4.frozenAt 0
    obtain ⟨o1, o2⟩ := hown4.stored 0 (.bool true)
    rw [bv_set] at o1
    have hne1 : w.heap.size ≠ w.heap.size + 1 := by omega
    have bg5 := bg4.grown o2 (fun e => hne1 (Option.some.inj e))
    have bx5 := bx4.grown o2 (fun e => by have := Option.some.inj e; omega)
    have bw5 := b4.grown o2 (fun e => by have := Option.some.inj e; omega)
    have hwm5 := marks_far hwm4 o2 (by omega)
    have hB5 : Below w.heap.size w (w4.setCell ⟨w.heap.size + 1, 0, none⟩ (.bool true)) := hB4.grown o2 hB4.size (fun k e => by cases e; omega)
    have hs5 : (w4.setCell ⟨w.heap.size + 1, 0, none⟩ (.bool true)).heap.size = w3.heap.size + 1 := by rw [← hW4s]; simp
    have q0 := bg5.cell 0
    have q1 := bg5.cell 1
    have q2 := bg5.cell 2
    have qx := bx4.cell 0
    have qg0 := bg4.cell 0
    have qg1 := bg4.cell 1
    have qg2 := bg4.cell 2
    simp only [List.getElem?_toArray, List.getElem?_cons_zero, List.getElem?_cons_succ] at q0 q1 q2 qx qg0 qg1 qg2
    have hrl5 : ((List.replicate vl false).set 0 true).length = vl := by simp
    have hst0 : StU vl w.heap.size (w.heap.size + 1) w1.heap.size w3.heap.size (w2.heap.size + 1) Wd (LeastU R Wd ((List.replicate vl false).set 0 true) vl) ((List.replicate vl false).set 0 true) (w4.setCell ⟨w.heap.size + 1, 0, none⟩ (.bool true)) :=
      ⟨⟨hrl5, ⟨le.refl _, fun X _ _ h => h⟩, by rw [hs5]; omega, by omega, _, bx5, ⟨⟨vl, by rw [hrl5]⟩, by rw [hrl5]; exact o1⟩⟩, by rw [hs5]; omega, by omega, by omega, _, bw5, hwm5⟩
    have hset := settle_any (w4.setCell ⟨w.heap.size + 1, 0, none⟩ (.bool true)) B (w.heap.size + 1) ta va tl tc vl vc (.slice ra R.length rc) R (HR.out.far (hB5.mono hB)) (by omega) (by rw [hs5]; omega) HL.out 42 #[.pointer (some ⟨w1.heap.size, 0, none⟩), .pointer (some ⟨w3.heap.size, 0, none⟩)] goes_use1 (StU vl w.heap.size (w.heap.size + 1) w1.heap.size w3.heap.size (w2.heap.size + 1) Wd (LeastU R Wd ((List.replicate vl false).set 0 true) vl)) (fun S => vl - cnt S) (SatU R Wd) (fun x y W h k => stB_mu x y W h.1 k.1) (fun x W o h => stU_alloc o h) (use1_step R vl w.heap.size (w.heap.size + 1) w1.heap.size w3.heap.size (w2.heap.size + 1) B Wd _ _ (by omega) HL.out HVR.out) ((List.replicate vl false).set 0 true) hst0
    have HSET := Lib.hid hset
    have HB5 := Lib.hid hB5
    clear hset hst0 hwm5 hwm4 o1 o2 bg5 bx5 bw5 bg4 bx4 hown4 hm4 hs5 hB5 hW4s hw2s
    go_wp2_with fail
    refine HSET.out.mono ?_
    rintro e w6 ⟨⟨v, rfl⟩, hg6, S, ⟨⟨hSn, hSP, hSb, hSne, u, hSu, hSm⟩, _⟩, hsat⟩
    have hcu := (show Blk w6 w1.heap.size 34 #[u] from hSu).cell 0
    simp only [List.getElem?_toArray, List.getElem?_cons_zero, List.getElem?_cons_succ] at hcu
    have hS : S = marksR Wd R vl ((List.replicate vl false).set 0 true) := least_marks hrl5 hSn HVR.out (satU_closed hsat) hSP.1 (fun X hX hc h => hSP.2 X hX hc h)
    have hB6 : Below w.heap.size w w6 := HB5.out.grown hg6 HB5.out.size (fun k e => by cases e; omega)
    have HSM := Lib.hid hSm
    obtain ⟨⟨uc, rfl⟩, _⟩ := hSm
    rw [hSn] at hcu
    have hsm := HSM.out
    rw [hSn, hS, ← HU.out] at hsm
    have HSM2 := Lib.hid hsm
    clear hsm hS
    go_wp2
    go_ret
    exact ⟨_, rfl, HSM2.out, hB6⟩
end Go.Proofs.YtomikgkoegkofaaGreatDoor.dv
