import Derived.Test.YtomikgkoegkofaaGreatDoorUsd
namespace Go.Proofs.YtomikgkoegkofaaGreatDoor.dv
open Go.ChangeShapes Go.WideShapes Go.ChangeAt Go.RowKit Go.Maps Go.WideMaps Go.WideElems
set_option linter.unusedVariables false
set_option linter.unusedSimpArgs false
/-! Nullable -/
theorem goes_isTerm : Goes 40 := fun args w => enters_of Tryz.func40 (by kernel_rfl) rfl args w
theorem goes_nul1 : Goes 38 := fun args w => enters_of Tryz.func38 (by kernel_rfl) rfl args w
theorem all_none (S : List Bool) : ∀ (F : List Int), allB S true F = (!(F.any fun x => decide (x < 0)) && allB S false F)
  | [] => rfl
  | s :: F => by
    have ih := all_none S F
    unfold allB at *
    rw [List.all_cons, List.any_cons, List.all_cons, ih]
    by_cases h : s < 0
    · simp [h]
    · simp [h]
      cases at_ S s <;> simp
set_option maxRecDepth 100000 in
set_option maxHeartbeats 2000000 in
theorem nul1_step (R : List Rl) (n B m bx B0 : Nat) (w : World) (hl : ∀ r ∈ R, 0 ≤ r.left ∧ r.left < n) : StepOf R 38 #[.pointer (some ⟨bx, 0, none⟩)] m (StB n B m bx (LeastB R true n)) (fun S => n - cnt S) (SatB R true) B0 w := by
  intro S i r ao cp W hbw hSt hrk hrow _
  obtain ⟨hn, hP, hbx, hne, v, hbox, hmk⟩ := hSt
  obtain ⟨hl0, hl1⟩ := hl r (List.mem_of_getElem? hrk)
  have hA : Below W.heap.size W (W.alloc (.cells #[.int .i64 r.left, .slice ao r.right.length cp, .float .f64 r.wt] 44)) := (Below.refl _ W).alloc (Nat.le_refl _) _
  have b0 := Blk.new W 44 #[.int .i64 r.left, .slice ao r.right.length cp, .float .f64 r.wt]
  have hbx2 : Blk W bx 34 #[v] := hbox
  have hbec := becomes_any (W.alloc (.cells #[.int .i64 r.left, .slice ao r.right.length cp, .float .f64 r.wt] 44)) r ao cp v S (hrow.below hA) (hmk.read.below hA)
  have hct := contains_any (W.alloc (.cells #[.int .i64 r.left, .slice ao r.right.length cp, .float .f64 r.wt] 44)) _ r.right 40 #[] (fun x => decide (x < 0)) goes_isTerm (fun x W' hW => (isTerm_any W' x).mono fun e w' h => ⟨h.1, by rw [h.2]; exact hW⟩) (hrow.below hA)
  have c0 := b0.cell 0
  have c1 := b0.cell 1
  have c2 := b0.cell 2
  have c3 := (hbx2.below hA hbx).cell 0
  have c4 := hbx2.cell 0
  simp only [List.getElem?_toArray, List.getElem?_cons_zero, List.getElem?_cons_succ] at c0 c1 c2 c3 c4
  have HMK := Lib.hid hmk
  obtain ⟨⟨vc, rfl⟩, _⟩ := hmk
  obtain ⟨k, hk⟩ : ∃ k : Nat, r.left = k := ⟨r.left.toNat, by omega⟩
  have hkS : k < S.length := by omega
  have HK := Lib.hid hk
  have HN := Lib.hid hn
  have HP := Lib.hid hP
  have HB := Lib.hid hbox
  have HLS := Lib.hid (fun ha => least_set (r := r) hP (List.mem_of_getElem? hrk) ha)
  unfold RlV at hbec ⊢
  have hall := all_none S r.right
  have HRW := Lib.hid hrow
  clear hP hbox hbx2 hk hn
  have hsatF : allB S true r.right = false → Hid (SatB R true S i) := fun h => Lib.hid (fun q hq ha => by
    rw [hrk] at hq
    cases hq
    rw [h] at ha
    cases ha)
  cases hb1 : r.right.any fun x => decide (x < 0)
  · rw [hb1] at hct hall
    cases hb : allB S false r.right
    · rw [hb] at hbec hall
      have HSAT := hsatF hall
      clear hsatF hall HLS
      go_enter Tryz.func38, Tryz.ntmps38
      go_wp2_with fail
      refine hct.mono ?_
      rintro e w2 ⟨rfl, hb2⟩
      have hW := hA.trans (hb2.mono (by simp))
      have b2 := b0.below hb2 (by simp)
      have d0 := b2.cell 0
      have d1 := b2.cell 1
      have d2 := b2.cell 2
      have d3 := ((show Blk W bx 34 #[_] from HB.out).below hW hbx).cell 0
      simp only [List.getElem?_toArray, List.getElem?_cons_zero, List.getElem?_cons_succ] at d0 d1 d2 d3
      have hbec2 := becomes_any w2 r ao cp _ S (HRW.out.below hW) (HMK.out.read.below hW)
      rw [hb] at hbec2
      unfold RlV at hbec2
      clear hbec hct c0 c1 c2 c3 c4
      go_wp2_with fail
      refine hbec2.mono ?_
      rintro e w3 ⟨rfl, hb3⟩
      have hW3 := hW.trans (hb3.mono hW.size)
      go_wp2
      go_ret
      exact ⟨grown_below hW3 _, .inr ⟨rfl, stB_below ⟨HN.out, HP.out, hbx, hne, _, HB.out, HMK.out⟩ hW3, HSAT.out⟩⟩
    · rw [hb] at hbec hall
      have hP2 := HLS.out hall
      rw [HK.out, Int.toNat_natCast] at hP2
      have HP2 := Lib.hid hP2
      clear hP2 hsatF hall
      go_enter Tryz.func38, Tryz.ntmps38
      go_wp2_with fail
      refine hct.mono ?_
      rintro e w2 ⟨rfl, hb2⟩
      have hW := hA.trans (hb2.mono (by simp))
      have b2 := b0.below hb2 (by simp)
      have d0 := b2.cell 0
      have d1 := b2.cell 1
      have d2 := b2.cell 2
      have d3 := ((show Blk W bx 34 #[_] from HB.out).below hW hbx).cell 0
      simp only [List.getElem?_toArray, List.getElem?_cons_zero, List.getElem?_cons_succ] at d0 d1 d2 d3
      have hbec2 := becomes_any w2 r ao cp _ S (HRW.out.below hW) (HMK.out.read.below hW)
      rw [hb] at hbec2
      unfold RlV at hbec2
      clear hbec hct c0 c1 c2 c3 c4
      go_wp2_with fail
      refine hbec2.mono ?_
      rintro e w3 ⟨rfl, hb3⟩
      have hW3 := hW.trans (hb3.mono hW.size)
      have b3 := b2.below hb3 b2.lt
      have f0 := b3.cell 0
      have f1 := b3.cell 1
      have f2 := b3.cell 2
      have f3 := ((show Blk W bx 34 #[_] from HB.out).below hW3 hbx).cell 0
      simp only [List.getElem?_toArray, List.getElem?_cons_zero, List.getElem?_cons_succ] at f0 f1 f2 f3
      have hmark := mark_any w3 B m _ S k hkS (marks_below HMK.out hW3)
      rw [← HK.out] at hmark
      clear d0 d1 d2 d3 hbec2
      go_wp2_with fail
      refine hmark.mono ?_
      rintro e w4 ⟨rfl, hmk3, hg3⟩
      have hgr : W.grownBy w4 (some m) := (grown_below hW3 (some m)).trans hg3
      have hbox3 : w4.heap[bx]? = some (.cells #[.slice (some ⟨m, 0, none⟩) S.length vc] 34 (0, 0)) := (hgr.block bx hbx (fun e => hne (Option.some.inj e))).trans HB.out
      cases ha : at_ S r.left
      · go_wp2
        go_ret
        refine ⟨hgr, .inl ⟨rfl, S.set k true, ⟨by simpa using HN.out, HP2.out, Nat.lt_of_lt_of_le hbx hgr.size, hne, _, hbox3, hmk3⟩, ?_⟩⟩
        have hn := HN.out
        have := cnt_le_set S k hkS (by rw [HK.out] at ha; exact ha)
        omega
      · have hss : S.set k true = S := set_same S k (by rw [HK.out] at ha; exact ha)
        rw [hss] at hmk3
        go_wp2
        go_ret
        refine ⟨hgr, .inr ⟨rfl, ⟨HN.out, HP.out, Nat.lt_of_lt_of_le hbx hgr.size, hne, _, hbox3, hmk3⟩, fun q hq _ => ?_⟩⟩
        rw [hrk] at hq
        cases hq
        exact ha
  · rw [hb1] at hct hall
    have HSAT := hsatF (by rw [hall]; simp)
    clear hsatF hall HLS hbec
    go_enter Tryz.func38, Tryz.ntmps38
    go_wp2_with fail
    refine hct.mono ?_
    rintro e w2 ⟨rfl, hb2⟩
    have hW := hA.trans (hb2.mono (by simp))
    go_wp2
    go_ret
    exact ⟨grown_below hW _, .inr ⟨rfl, stB_below ⟨HN.out, HP.out, hbx, hne, _, HB.out, HMK.out⟩ hW, HSAT.out⟩⟩
set_option maxRecDepth 100000 in
set_option maxHeartbeats 2000000 in
theorem nullable_any (w : World) (B : Nat) (ta va : Option Addr) (tl tc vl vc : Nat) (rv : Value) (R : List Rl) (hR : RulesAt B w rv R) (hB : B ≤ w.heap.size) (hl : ∀ r ∈ R, 0 ≤ r.left ∧ r.left < vl) (hv : vl ≤ 1000) :
    Calls Tryz.prog 15 #[.agg #[.slice ta tl tc, .slice va vl vc, rv]] w fun e w' => ∃ v, e = .returned v ∧ MarksAt w' w.heap.size (w.heap.size + 1) v (roundsB R true vl (List.replicate vl false)) ∧ Below w.heap.size w w' := by
  obtain ⟨i0, hi, hz0, hz1, hz2⟩ := info_parts info_bool
  obtain ⟨ra, rc, rfl, hn, hrl⟩ := id hR
  have b0 := Blk.new w 25 #[.slice ta tl tc, .slice va vl vc, .slice ra R.length rc]
  have hbl : Below w.heap.size w (w.alloc (.cells #[.slice ta tl tc, .slice va vl vc, .slice ra R.length rc] 25)) := (Below.refl _ w).alloc (Nat.le_refl _) _
  have HR := Lib.hid hR
  generalize hW0 : w.alloc (.cells #[.slice ta tl tc, .slice va vl vc, .slice ra R.length rc] 25) = w0 at *
  have hz : w0.heap.size = w.heap.size + 1 := by rw [← hW0]; simp
  have c0 := b0.cell 0
  have c1 := b0.cell 1
  have c2 := b0.cell 2
  simp only [List.getElem?_toArray, List.getElem?_cons_zero, List.getElem?_cons_succ] at c0 c1 c2
  clear hR hrl
  go_enter Tryz.func15, Tryz.ntmps15
  go_wp2_with (at_make; refine wpList_make_full _ rfl _ _ 34 rfl w.heap.size 4 i0 (.bool false) 1 Tryz.underlying34 hi hz0 hz1 .i64 .i64 _ _ vl rfl rfl rfl rfl (by rw [hz2]; omega) (by unfold maxLen; omega) (by omega) ?_; intro w1 hown1 hgrow1; have bg := b0.grown hgrow1 (fun e => by cases e); have pa0 : ∀ o, (w1.alloc o).cell? ⟨w.heap.size, 0, none⟩ = some (.slice ta tl tc) := fun o => (bg.alloc o).cell 0; have pa1 : ∀ o, (w1.alloc o).cell? ⟨w.heap.size, 1, none⟩ = some (.slice va vl vc) := fun o => (bg.alloc o).cell 1; have pa2 : ∀ o, (w1.alloc o).cell? ⟨w.heap.size, 2, none⟩ = some (.slice ra R.length rc) := fun o => (bg.alloc o).cell 2)
  rw [show (Value.bool false).cells = #[.bool false] from rfl, toList_madeCells_one, Nat.mul_one, ← bv_rep, hz] at hown1
  have hz1' := hgrow1.size
  have hB1 : Below w.heap.size w w1 := hbl.trans ((Below.refl w.heap.size w0).grown hgrow1 (by omega) (fun k e => by cases e))
  have hrl : (List.replicate vl false).length = vl := by simp
  have hm1 : MarksAt w1 w.heap.size (w.heap.size + 1) (.slice (some ⟨w.heap.size + 1, 0, none⟩) vl vl) (List.replicate vl false) := ⟨⟨vl, by rw [hrl]⟩, by rw [hrl]; exact hown1⟩
  have hmlt := marks_lt hm1
  have bx := Blk.new w1 34 #[.slice (some ⟨w.heap.size + 1, 0, none⟩) vl vl]
  have hst0 : StB vl w.heap.size (w.heap.size + 1) w1.heap.size (LeastB R true vl) (List.replicate vl false) (w1.alloc (.cells #[.slice (some ⟨w.heap.size + 1, 0, none⟩) vl vl] 34)) := ⟨hrl, least_none R true vl, by simp, by omega, _, bx, marks_alloc hm1 _⟩
  have hB2 : Below w.heap.size w (w1.alloc (.cells #[.slice (some ⟨w.heap.size + 1, 0, none⟩) vl vl] 34)) := hB1.alloc hB1.size _
  have hset := settle_any (w1.alloc (.cells #[.slice (some ⟨w.heap.size + 1, 0, none⟩) vl vl] 34)) B (w.heap.size + 1) ta va tl tc vl vc (.slice ra R.length rc) R (by
      obtain ⟨ao', cap', e, hn2, hr⟩ := HR.out
      have hbw := hB2.mono hB
      refine ⟨ao', cap', e, hn2, fun j q hj => ?_⟩
      obtain ⟨a, ea, hab, ao2, c2, h1, h2, h3, h4, h5, h6, h7, h8⟩ := hr j q hj
      have hc : ∀ n v, w.cell? (a.add n) = some v → (w1.alloc (.cells #[.slice (some ⟨w.heap.size + 1, 0, none⟩) vl vl] 34)).cell? (a.add n) = some v := fun n v hv => (hbw.cell (p := a.add n) (by rw [add_block]; exact hab)).trans hv
      refine ⟨a, ea, hab, ao2, c2, hc _ _ h1, hc _ _ h2, hc _ _ h3, h4, h5, h6, fun i hi => ?_, h8⟩
      obtain ⟨a2, e2, hab2, hca⟩ := h7 i hi
      exact ⟨a2, e2, hab2, (hbw.cell (p := a2.add i) (by rw [add_block]; exact hab2)).trans hca⟩) (by omega) (by rw [World.size_alloc]; omega) hl 38 #[.pointer (some ⟨w1.heap.size, 0, none⟩)] goes_nul1 (StB vl w.heap.size (w.heap.size + 1) w1.heap.size (LeastB R true vl)) (fun S => vl - cnt S) (SatB R true) (fun x y W h k => stB_mu x y W h k) (fun x W o h => stB_alloc o h) (nul1_step R vl w.heap.size (w.heap.size + 1) w1.heap.size B _ hl) (List.replicate vl false) hst0
  have HSET := Lib.hid hset
  have HL := Lib.hid hl
  clear hset hl hst0 hm1 hown1 bx bg
  refine HSET.out.mono ?_
  rintro e w3 ⟨⟨v, rfl⟩, hg3, S, ⟨hSn, hSP, hSb, hSne, u, hSu, hSm⟩, hsat⟩
  have hcu := (show Blk w3 w1.heap.size 34 #[u] from hSu).cell 0
  simp only [List.getElem?_toArray, List.getElem?_cons_zero, List.getElem?_cons_succ] at hcu
  have hS : S = roundsB R true vl (List.replicate vl false) := least_rounds hSn (fun r hr => by have := HL.out r hr; omega) (sat_closed hsat) hSP
  have HSM := Lib.hid hSm
  have hB3 : Below w.heap.size w w3 := hB2.grown hg3 hB2.size (fun k e => by cases e; omega)
  obtain ⟨⟨uc, rfl⟩, _⟩ := hSm
  subst hS
  have hsm := HSM.out
  rw [hSn] at hsm
  have HSM2 := Lib.hid hsm
  clear hsm
  go_wp2
  go_ret
  exact ⟨_, rfl, HSM2.out, hB3⟩
end Go.Proofs.YtomikgkoegkofaaGreatDoor.dv
