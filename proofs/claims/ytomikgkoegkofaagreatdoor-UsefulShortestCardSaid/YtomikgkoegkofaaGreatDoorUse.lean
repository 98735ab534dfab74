import Derived.Test.YtomikgkoegkofaaGreatDoorUsd
namespace Go.Proofs.YtomikgkoegkofaaGreatDoor.dv
open Go.ChangeShapes Go.WideShapes Go.ChangeAt Go.RowKit Go.Maps Go.WideMaps Go.WideElems
set_option linter.unusedVariables false
set_option linter.unusedSimpArgs false
/-! Productive -/
attribute [local go_sem] run_store_fl
set_option maxRecDepth 100000 in
set_option maxHeartbeats 2000000 in
theorem prod1_step (R : List Rl) (n B m bx B0 : Nat) (w : World) (hl : ∀ r ∈ R, 0 ≤ r.left ∧ r.left < n) : StepOf R 34 #[.pointer (some ⟨bx, 0, none⟩)] m (StB n B m bx (LeastB R false n)) (fun S => n - cnt S) (SatB R false) B0 w := by
  intro S i r ao cp W hbw hSt hrk hrow _
  obtain ⟨hn, hP, hbx, hne, v, hbox, hmk⟩ := hSt
  obtain ⟨hl0, hl1⟩ := hl r (List.mem_of_getElem? hrk)
  have hA : Below W.heap.size W (W.alloc (.cells #[.int .i64 r.left, .slice ao r.right.length cp, .float .f64 r.wt] 44)) := (Below.refl _ W).alloc (Nat.le_refl _) _
  have b0 := Blk.new W 44 #[.int .i64 r.left, .slice ao r.right.length cp, .float .f64 r.wt]
  have hbx2 : Blk W bx 34 #[v] := hbox
  have hbec := becomes_any (W.alloc (.cells #[.int .i64 r.left, .slice ao r.right.length cp, .float .f64 r.wt] 44)) r ao cp v S (hrow.below hA) (hmk.read.below hA)
  have c0 := b0.cell 0
  have c1 := b0.cell 1
  have c2 := b0.cell 2
  have c3 := (hbx2.below hA hbx).cell 0
  have c4 := hbx2.cell 0
  simp only [List.getElem?_toArray, List.getElem?_cons_zero, List.getElem?_cons_succ] at c0 c1 c2 c3 c4
  have HMK := Lib.hid hmk
  obtain ⟨⟨vc, rfl⟩, _⟩ := hmk
  obtain ⟨k, hk⟩ : ∃ k : Nat, r.left = k := ⟨r.left.toNat, by omega⟩
  have hkS : k < S.length := by omega
  have HK := Lib.hid hk
  have HN := Lib.hid hn
  have HP := Lib.hid hP
  have HB := Lib.hid hbox
  have HLS := Lib.hid (fun ha => least_set (r := r) hP (List.mem_of_getElem? hrk) ha)
  unfold RlV at hbec ⊢
  clear hP hbox hbx2 hk hn
  cases hb : allB S false r.right
  · rw [hb] at hbec
    have HSAT : Hid (SatB R false S i) := Lib.hid (fun q hq ha => by
      rw [hrk] at hq
      cases hq
      rw [hb] at ha
      cases ha)
    go_enter Tryz.func34, Tryz.ntmps34
    go_wp2_with fail
    refine hbec.mono ?_
    rintro e w2 ⟨rfl, hb2⟩
    have hW := hA.trans (hb2.mono (by simp))
    go_wp2
    go_ret
    exact ⟨grown_below hW _, .inr ⟨rfl, stB_below ⟨HN.out, HP.out, hbx, hne, _, HB.out, HMK.out⟩ hW, HSAT.out⟩⟩
  · rw [hb] at hbec
    have hP2 := HLS.out hb
    rw [HK.out, Int.toNat_natCast] at hP2
    have HP2 := Lib.hid hP2
    clear hP2
    go_enter Tryz.func34, Tryz.ntmps34
    go_wp2_with fail
    refine hbec.mono ?_
    rintro e w2 ⟨rfl, hb2⟩
    have hW := hA.trans (hb2.mono (by simp))
    have b2 := b0.below hb2 (by simp)
    have d0 := b2.cell 0
    have d1 := b2.cell 1
    have d2 := b2.cell 2
    have d3 := ((show Blk W bx 34 #[_] from HB.out).below hW hbx).cell 0
    simp only [List.getElem?_toArray, List.getElem?_cons_zero, List.getElem?_cons_succ] at d0 d1 d2 d3
    have hmark := mark_any w2 B m _ S k hkS (marks_below HMK.out hW)
    rw [← HK.out] at hmark
    go_wp2_with fail
    refine hmark.mono ?_
    rintro e w3 ⟨rfl, hmk3, hg3⟩
    have hgr : W.grownBy w3 (some m) := (grown_below hW (some m)).trans hg3
    have hbox3 : w3.heap[bx]? = some (.cells #[.slice (some ⟨m, 0, none⟩) S.length vc] 34 (0, 0)) := (hgr.block bx hbx (fun e => hne (Option.some.inj e))).trans HB.out
    cases ha : at_ S r.left
    · go_wp2
      go_ret
      refine ⟨hgr, .inl ⟨rfl, S.set k true, ⟨by simpa using HN.out, HP2.out, Nat.lt_of_lt_of_le hbx hgr.size, hne, _, hbox3, hmk3⟩, ?_⟩⟩
      have hn := HN.out
      have := cnt_le_set S k hkS (by rw [HK.out] at ha; exact ha)
      omega
    · have hss : S.set k true = S := set_same S k (by rw [HK.out] at ha; exact ha)
      rw [hss] at hmk3
      go_wp2
      go_ret
      refine ⟨hgr, .inr ⟨rfl, ⟨HN.out, HP.out, Nat.lt_of_lt_of_le hbx hgr.size, hne, _, hbox3, hmk3⟩, fun q hq _ => ?_⟩⟩
      rw [hrk] at hq
      cases hq
      exact ha
theorem goes_prod1 : Goes 34 := fun args w => enters_of Tryz.func34 (by kernel_rfl) rfl args w
set_option maxRecDepth 100000 in
set_option maxHeartbeats 2000000 in
theorem productive_any (w : World) (B : Nat) (ta va : Option Addr) (tl tc vl vc : Nat) (rv : Value) (R : List Rl) (hR : RulesAt B w rv R) (hB : B ≤ w.heap.size) (hl : ∀ r ∈ R, 0 ≤ r.left ∧ r.left < vl) (hv : vl ≤ 1000) :
    Calls Tryz.prog 13 #[.agg #[.slice ta tl tc, .slice va vl vc, rv]] w fun e w' => ∃ v, e = .returned v ∧ MarksAt w' w.heap.size (w.heap.size + 1) v (roundsB R false vl (List.replicate vl false)) ∧ Below w.heap.size w w' := by
  obtain ⟨i0, hi, hz0, hz1, hz2⟩ := info_parts info_bool
  obtain ⟨ra, rc, rfl, hn, hrl⟩ := id hR
  have b0 := Blk.new w 25 #[.slice ta tl tc, .slice va vl vc, .slice ra R.length rc]
  have hbl : Below w.heap.size w (w.alloc (.cells #[.slice ta tl tc, .slice va vl vc, .slice ra R.length rc] 25)) := (Below.refl _ w).alloc (Nat.le_refl _) _
  have HR := Lib.hid hR
  generalize hW0 : w.alloc (.cells #[.slice ta tl tc, .slice va vl vc, .slice ra R.length rc] 25) = w0 at *
  have hz : w0.heap.size = w.heap.size + 1 := by rw [← hW0]; simp
  have c0 := b0.cell 0
  have c1 := b0.cell 1
  have c2 := b0.cell 2
  simp only [List.getElem?_toArray, List.getElem?_cons_zero, List.getElem?_cons_succ] at c0 c1 c2
  clear hR hrl
  go_enter Tryz.func13, Tryz.ntmps13
  go_wp2_with (at_make; refine wpList_make_full _ rfl _ _ 34 rfl w.heap.size 4 i0 (.bool false) 1 Tryz.underlying34 hi hz0 hz1 .i64 .i64 _ _ vl rfl rfl rfl rfl (by rw [hz2]; omega) (by unfold maxLen; omega) (by omega) ?_; intro w1 hown1 hgrow1; have bg := b0.grown hgrow1 (fun e => by cases e); have pa0 : ∀ o, (w1.alloc o).cell? ⟨w.heap.size, 0, none⟩ = some (.slice ta tl tc) := fun o => (bg.alloc o).cell 0; have pa1 : ∀ o, (w1.alloc o).cell? ⟨w.heap.size, 1, none⟩ = some (.slice va vl vc) := fun o => (bg.alloc o).cell 1; have pa2 : ∀ o, (w1.alloc o).cell? ⟨w.heap.size, 2, none⟩ = some (.slice ra R.length rc) := fun o => (bg.alloc o).cell 2)
  rw [show (Value.bool false).cells = #[.bool false] from rfl, toList_madeCells_one, Nat.mul_one, ← bv_rep, hz] at hown1
  have hz1' := hgrow1.size
  have hB1 : Below w.heap.size w w1 := hbl.trans ((Below.refl w.heap.size w0).grown hgrow1 (by omega) (fun k e => by cases e))
  have hrl : (List.replicate vl false).length = vl := by simp
  have hm1 : MarksAt w1 w.heap.size (w.heap.size + 1) (.slice (some ⟨w.heap.size + 1, 0, none⟩) vl vl) (List.replicate vl false) := ⟨⟨vl, by rw [hrl]⟩, by rw [hrl]; exact hown1⟩
  have hmlt := marks_lt hm1
  have bx := Blk.new w1 34 #[.slice (some ⟨w.heap.size + 1, 0, none⟩) vl vl]
  have hst0 : StB vl w.heap.size (w.heap.size + 1) w1.heap.size (LeastB R false vl) (List.replicate vl false) (w1.alloc (.cells #[.slice (some ⟨w.heap.size + 1, 0, none⟩) vl vl] 34)) := ⟨hrl, least_none R false vl, by simp, by omega, _, bx, marks_alloc hm1 _⟩
  have hB2 : Below w.heap.size w (w1.alloc (.cells #[.slice (some ⟨w.heap.size + 1, 0, none⟩) vl vl] 34)) := hB1.alloc hB1.size _
  have hset := settle_any (w1.alloc (.cells #[.slice (some ⟨w.heap.size + 1, 0, none⟩) vl vl] 34)) B (w.heap.size + 1) ta va tl tc vl vc (.slice ra R.length rc) R (by
      obtain ⟨ao', cap', e, hn2, hr⟩ := HR.out
      have hbw := hB2.mono hB
      refine ⟨ao', cap', e, hn2, fun j q hj => ?_⟩
      obtain ⟨a, ea, hab, ao2, c2, h1, h2, h3, h4, h5, h6, h7, h8⟩ := hr j q hj
      have hc : ∀ n v, w.cell? (a.add n) = some v → (w1.alloc (.cells #[.slice (some ⟨w.heap.size + 1, 0, none⟩) vl vl] 34)).cell? (a.add n) = some v := fun n v hv => (hbw.cell (p := a.add n) (by rw [add_block]; exact hab)).trans hv
      refine ⟨a, ea, hab, ao2, c2, hc _ _ h1, hc _ _ h2, hc _ _ h3, h4, h5, h6, fun i hi => ?_, h8⟩
      obtain ⟨a2, e2, hab2, hca⟩ := h7 i hi
      exact ⟨a2, e2, hab2, (hbw.cell (p := a2.add i) (by rw [add_block]; exact hab2)).trans hca⟩) (by omega) (by rw [World.size_alloc]; omega) hl 34 #[.pointer (some ⟨w1.heap.size, 0, none⟩)] goes_prod1 (StB vl w.heap.size (w.heap.size + 1) w1.heap.size (LeastB R false vl)) (fun S => vl - cnt S) (SatB R false) (fun x y W h k => stB_mu x y W h k) (fun x W o h => stB_alloc o h) (prod1_step R vl w.heap.size (w.heap.size + 1) w1.heap.size B _ hl) (List.replicate vl false) hst0
  have HSET := Lib.hid hset
  have HL := Lib.hid hl
  clear hset hl hst0 hm1 hown1 bx bg
  refine HSET.out.mono ?_
  rintro e w3 ⟨⟨v, rfl⟩, hg3, S, ⟨hSn, hSP, hSb, hSne, u, hSu, hSm⟩, hsat⟩
  have hcu := (show Blk w3 w1.heap.size 34 #[u] from hSu).cell 0
  simp only [List.getElem?_toArray, List.getElem?_cons_zero, List.getElem?_cons_succ] at hcu
  have hS : S = roundsB R false vl (List.replicate vl false) := least_rounds hSn (fun r hr => by have := HL.out r hr; omega) (sat_closed hsat) hSP
  have HSM := Lib.hid hSm
  have hB3 : Below w.heap.size w w3 := hB2.grown hg3 hB2.size (fun k e => by cases e; omega)
  obtain ⟨⟨uc, rfl⟩, _⟩ := hSm
  subst hS
  have hsm := HSM.out
  rw [hSn] at hsm
  have HSM2 := Lib.hid hsm
  clear hsm
  go_wp2
  go_ret
  exact ⟨_, rfl, HSM2.out, hB3⟩
end Go.Proofs.YtomikgkoegkofaaGreatDoor.dv
