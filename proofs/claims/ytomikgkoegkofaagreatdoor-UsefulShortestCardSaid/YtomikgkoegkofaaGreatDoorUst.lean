import Derived.Test.YtomikgkoegkofaaGreatDoorUss
namespace Go.Proofs.YtomikgkoegkofaaGreatDoor.dv
open Go.ChangeShapes Go.WideShapes Go.ChangeAt Go.RowKit Go.Maps Go.WideMaps Go.WideElems
set_option linter.unusedVariables false
set_option linter.unusedSimpArgs false
/-! ways -/
theorem rep_no (n v : Nat) : (List.replicate n noW).getD v noW = noW := by
  rw [List.getD_eq_getElem?_getD, List.getElem?_replicate]
  split <;> rfl
theorem inv_no (R : List Rl) (n : Nat) : Inv R n (List.replicate n noW) := by
  refine ⟨by simp, fun v => by rw [rep_no]; exact ⟨Nat.le_refl _, Nat.le_refl _⟩, fun v => .inl (rep_no n v), fun _ => 0, fun v k r h => ?_⟩
  rw [rep_no] at h
  unfold noW at h
  simp only at h
  omega
theorem done_of {R : List Rl} {S : List Way} {n : Nat} (hI : Inv R n S) (hp : AtW R n 0 S) (h : ∀ i, i < R.length → SatW R S i) : Done R S := ⟨fun i r hr => h i (List.getElem?_eq_some_iff.1 hr).1 r hr, by rw [hI.len]; exact hp⟩
theorem ways_set {w : World} {B m : Nat} {v : Value} {S : List Way} (h : WaysAt w B m v S) (p : Addr) (u : Value) (hp : p.block ≠ m) : WaysAt (w.setCell p u) B m v S := by
  obtain ⟨⟨cap, rfl⟩, ho⟩ := h
  exact ⟨⟨cap, rfl⟩, ownsRow_keep ho (fun g hg hv => Below.heap_setCell w p u g (fun e => by
    have e1 : m = g := by simpa [Value.ownBlock] using hv
    omega))⟩
set_option maxRecDepth 100000 in
set_option maxHeartbeats 4000000 in
theorem ways_any (w : World) (B : Nat) (ta va : Option Addr) (tl tc vl vc : Nat) (rv : Value) (R : List Rl) (hR : RulesAt B w rv R) (hB : B ≤ w.heap.size) (hl : ∀ r ∈ R, 0 ≤ r.left ∧ r.left < vl) (hv : vl ≤ 1000) :
    Calls Tryz.prog 31 #[.agg #[.slice ta tl tc, .slice va vl vc, rv]] w fun e w' => ∃ v m S, e = .returned v ∧ WaysAt w' w.heap.size m v S ∧ Inv R vl S ∧ Done R S ∧ Below w.heap.size w w' := by
  obtain ⟨ra, rc, rfl, hn, _⟩ := id hR
  have b0 := Blk.new w 25 #[.slice ta tl tc, .slice va vl vc, .slice ra R.length rc]
  have hbl : Below w.heap.size w (w.alloc (.cells #[.slice ta tl tc, .slice va vl vc, .slice ra R.length rc] 25)) := (Below.refl _ w).alloc (Nat.le_refl _) _
  have HR := Lib.hid hR
  have HL := Lib.hid hl
  have HN := Lib.hid hn
  generalize hW0 : w.alloc (.cells #[.slice ta tl tc, .slice va vl vc, .slice ra R.length rc] 25) = w0 at *
  have hz : w0.heap.size = w.heap.size + 1 := by rw [← hW0]; simp
  have HZ := Lib.hid hz
  clear hR hl hn hz
  go_enter Tryz.func31, Tryz.ntmps31
  have HB0 := Lib.hid b0
  have c1 := b0.cell 1
  simp only [List.getElem?_toArray, List.getElem?_cons_zero, List.getElem?_cons_succ] at c1
  go_wp2
  refine wp_region_E (fun U => U.cell? ⟨w.heap.size, 1, none⟩ = some (.slice va vl vc)) [] (by kernel_rfl) ?_
  have HS : _ := DRC w0 _ _ c1
  have hA0 : Below w0.heap.size w0 w0.drew := (Below.refl _ _).drew
  change anyE _ _ _ _ _ _ _ _ _ (World.drew _)
  generalize World.drew w0 = y0 at *
  refine anyE_take (i := 2) (v := ?_) rfl (by kernel_rfl) (by kernel_rfl) (by kernel_rfl) (by kernel_rfl) (by kernel_rfl) (fun _ _ _ h => h) (Or.inl ⟨by kernel_rfl, ?_⟩) HS ?_
  rotate_left
  · intro w _; go_simp; with_reducible rfl
  refine anyE_take (i := 3) (v := ?_) rfl (by kernel_rfl) (by kernel_rfl) (by kernel_rfl) (by kernel_rfl) (by kernel_rfl) (fun _ _ _ h => h) (Or.inl ⟨by kernel_rfl, ?_⟩) HS ?_
  rotate_left
  · intro w hw; have hw := hw; go_simp; with_reducible rfl
  refine anyE_take (i := 4) (v := ?_) rfl (by kernel_rfl) (by kernel_rfl) (by kernel_rfl) (by kernel_rfl) (by kernel_rfl) (fun _ _ _ h => h) (Or.inl ⟨by kernel_rfl, ?_⟩) HS ?_
  rotate_left
  · intro w _; go_simp; with_reducible rfl
  refine anyE_ready (rs := [0, 6]) (by kernel_rfl) (by simp) ?_
  refine ReadyE.cons rfl (by kernel_rfl) (fun K hK => ?_) (ReadyE.cons rfl (by kernel_rfl) (fun K hK => ?_) ReadyE.nil)
  · go_simp
    go_at_call 64
    refine (none_any y0).mono ?_
    rintro e x1 ⟨rfl, hx1⟩
    unfold WayV noW Far
    have hA1 := hA0.trans (hx1.mono hA0.size)
    have hS1 : World.cell? x1 ⟨w.heap.size, 1, none⟩ = some (.slice va vl vc) := ((HB0.out.below hA1 HB0.out.lt).cell 1)
    refine hK.out _ _ (fun _ => hS1) ?_
    clear hK K
    refine anyE_ready (rs := [1, 6]) (by kernel_rfl) (by simp) ?_
    refine ReadyE.cons rfl (by kernel_rfl) (fun K hK => ?_) (ReadyE.cons rfl (by kernel_rfl) (fun K hK => ?_) ReadyE.nil)
    · go_simp
      have hA2 := hA1.alloc hA1.size (.cells #[.int .i64 1073741824, .int .i64 1073741824, .int .i64 (-1)] 57)
      have hsrc2 := Blk.new x1 57 #[.int .i64 1073741824, .int .i64 1073741824, .int .i64 (-1)]
      have hS2 : World.cell? (x1.alloc (.cells #[.int .i64 1073741824, .int .i64 1073741824, .int .i64 (-1)] 57)) ⟨w.heap.size, 1, none⟩ = some (.slice va vl vc) := ((HB0.out.below hA2 HB0.out.lt).cell 1)
      refine hK.out _ _ (fun _ => hS2) ?_
      clear hK K
      generalize hE2 : x1.alloc (.cells #[.int .i64 1073741824, .int .i64 1073741824, .int .i64 (-1)] 57) = x2 at *
      clear hE2
      refine anyE_ready (rs := [5, 6]) (by kernel_rfl) (by simp) ?_
      refine ReadyE.cons rfl (by kernel_rfl) (fun K hK => ?_) (ReadyE.cons rfl (by kernel_rfl) (fun K hK => ?_) ReadyE.nil)
      · go_simp
        go_at_call 63
        refine (repeat_any x2 ⟨x1.heap.size, 0, none⟩ noW vl hv (hsrc2).lt (fun j u hj => by rw [zero_add_addr]; exact ((hsrc2).cell j).trans (by simpa [cW, noW, Far] using hj))).mono ?_
        rintro e x3 ⟨v3, rfl, hw3, hx3⟩
        have HWK3 := Lib.hid hw3
        obtain ⟨⟨cp3, hv3⟩, _⟩ := hw3
        rw [List.length_replicate] at hv3
        subst hv3
        have hA3 := hA2.trans (hx3.mono hA2.size)
        have hsrc3 := (hsrc2).below hx3 (hsrc2).lt
        have hS3 : World.cell? x3 ⟨w.heap.size, 1, none⟩ = some (.slice va vl vc) := ((HB0.out.below hA3 HB0.out.lt).cell 1)
        refine hK.out _ _ (fun _ => hS3) ?_
        clear hK K
        refine anyE_ready (rs := [6]) (by kernel_rfl) (by simp) ?_
        refine ReadyE.cons rfl (by kernel_rfl) (fun K hK => ?_) ReadyE.nil
        go_simp
        have hA4 := hA3.alloc hA3.size (.cells #[.slice none 0 0] 54)
        have hsrc4 := (hsrc3).alloc (.cells #[.slice none 0 0] 54)
        have hways4 := ways_alloc HWK3.out (.cells #[.slice none 0 0] 54)
        have hlw4 := ways_lt HWK3.out
        have hbox4 := Blk.new x3 54 #[.slice none 0 0]
        have hS4 : World.cell? (x3.alloc (.cells #[.slice none 0 0] 54)) ⟨w.heap.size, 1, none⟩ = some (.slice va vl vc) := ((HB0.out.below hA4 HB0.out.lt).cell 1)
        refine hK.out _ _ (fun _ => hS4) ?_
        clear hK K
        generalize hE4 : x3.alloc (.cells #[.slice none 0 0] 54) = x4 at *
        clear hE4
        refine anyE_ready (rs := [7]) (by kernel_rfl) (by simp) ?_
        refine ReadyE.cons rfl (by kernel_rfl) (fun K hK => ?_) ReadyE.nil
        have qc5 := (hbox4).cell 0
        have qf5 := (hbox4).frozen 0
        simp only [List.getElem?_toArray, List.getElem?_cons_zero] at qc5
        go_simp
        clear qc5 qf5
        have hA5 := hA4.setCell (p := ⟨x3.heap.size, 0, none⟩) hA3.size (.slice (some ⟨x2.heap.size, 0, none⟩) vl cp3)
        have hb5 := (hbox4).set_ 0 (.slice (some ⟨x2.heap.size, 0, none⟩) vl cp3)
        have hw5 := ways_set hways4 ⟨x3.heap.size, 0, none⟩ (.slice (some ⟨x2.heap.size, 0, none⟩) vl cp3) (Nat.ne_of_gt hlw4)
        have hS5 : World.cell? (x4.setCell ⟨x3.heap.size, 0, none⟩ (.slice (some ⟨x2.heap.size, 0, none⟩) vl cp3)) ⟨w.heap.size, 1, none⟩ = some (.slice va vl vc) := ((HB0.out.below hA5 HB0.out.lt).cell 1)
        refine hK.out _ _ (fun _ => hS5) ?_
        clear hK K
        generalize hE5 : x4.setCell ⟨x3.heap.size, 0, none⟩ (.slice (some ⟨x2.heap.size, 0, none⟩) vl cp3) = x5 at *
        clear hE5
        refine anyE_done (by kernel_rfl) ?_ _
        have hBU : Below w.heap.size w x5 := hbl.trans (hA5.mono (by have := HZ.out; omega))
        have hgU := HB0.out.below hA5 HB0.out.lt
        have hmm : w.heap.size ≤ x2.heap.size ∧ x2.heap.size < x5.heap.size := ⟨by have := HZ.out; have := hA2.size; omega, ways_lt hw5⟩
        have hst0 : StW R vl w.heap.size x2.heap.size x3.heap.size (List.replicate vl noW) x5 := ⟨inv_no R vl, (hb5).lt, (Nat.ne_of_gt hlw4), _, hb5, ways_weak hw5 (by have := HZ.out; omega)⟩
        have hset := settleP_any x5 B x2.heap.size ta va tl tc vl vc (.slice ra R.length rc) R (HR.out.far (hBU.mono hB)) (by omega) hmm.2 HL.out 65 #[.pointer (some ⟨x3.heap.size, 0, none⟩)] goes_ways1 (StW R vl w.heap.size x2.heap.size x3.heap.size) muS (SatW R) (AtW R vl) (fun x h => h.turn) (fun x y W h k => stW_mu x y W h k) (fun x W o h => stW_alloc o h) (ways1_step R vl w.heap.size x2.heap.size x3.heap.size B _ HL.out HN.out (by omega)) (List.replicate vl noW) hst0 (AtW.start R vl)
        have HSET := Lib.hid hset
        have g0 := hgU.cell 0
        have g1 := hgU.cell 1
        have g2 := hgU.cell 2
        simp only [List.getElem?_toArray, List.getElem?_cons_zero, List.getElem?_cons_succ] at g0 g1 g2
        have HBU := Lib.hid hBU
        clear hset hst0 hgU hBU
        go_wp2_with fail
        refine HSET.out.mono ?_
        rintro e w9 ⟨⟨v9, rfl⟩, hg9, S, ⟨hSi, hSb, hSn, u, hSu, hSm⟩, hpz, hsat⟩
        have hcu := (show Blk w9 x3.heap.size 54 #[u] from hSu).cell 0
        simp only [List.getElem?_toArray, List.getElem?_cons_zero, List.getElem?_cons_succ] at hcu
        have HF : Hid (Inv R vl S ∧ Done R S ∧ Below w.heap.size w w9) := Lib.hid ⟨hSi, done_of hSi hpz hsat, HBU.out.grown hg9 HBU.out.size (fun k e => by cases e; exact hmm.1)⟩
        have HSM := Lib.hid hSm
        obtain ⟨⟨uc, rfl⟩, _⟩ := hSm
        clear hSi hsat hSu hg9
        go_wp2
        go_ret
        exact ⟨_, _, S, rfl, HSM.out, HF.out⟩
      · go_simp
        have hA6 := hA2.alloc hA2.size (.cells #[.slice none 0 0] 54)
        have hsrc6 := (hsrc2).alloc (.cells #[.slice none 0 0] 54)
        have hbox6 := Blk.new x2 54 #[.slice none 0 0]
        have hS6 : World.cell? (x2.alloc (.cells #[.slice none 0 0] 54)) ⟨w.heap.size, 1, none⟩ = some (.slice va vl vc) := ((HB0.out.below hA6 HB0.out.lt).cell 1)
        refine hK.out _ _ (fun _ => hS6) ?_
        clear hK K
        generalize hE6 : x2.alloc (.cells #[.slice none 0 0] 54) = x6 at *
        clear hE6
        refine anyE_ready (rs := [5]) (by kernel_rfl) (by simp) ?_
        refine ReadyE.cons rfl (by kernel_rfl) (fun K hK => ?_) ReadyE.nil
        go_simp
        go_at_call 63
        refine (repeat_any x6 ⟨x1.heap.size, 0, none⟩ noW vl hv (hsrc6).lt (fun j u hj => by rw [zero_add_addr]; exact ((hsrc6).cell j).trans (by simpa [cW, noW, Far] using hj))).mono ?_
        rintro e x7 ⟨v7, rfl, hw7, hx7⟩
        have HWK7 := Lib.hid hw7
        obtain ⟨⟨cp7, hv7⟩, _⟩ := hw7
        rw [List.length_replicate] at hv7
        subst hv7
        have hA7 := hA6.trans (hx7.mono hA6.size)
        have hsrc7 := (hsrc6).below hx7 (hsrc6).lt
        have hbox7 := (hbox6).below hx7 (hbox6).lt
        have hS7 : World.cell? x7 ⟨w.heap.size, 1, none⟩ = some (.slice va vl vc) := ((HB0.out.below hA7 HB0.out.lt).cell 1)
        refine hK.out _ _ (fun _ => hS7) ?_
        clear hK K
        refine anyE_ready (rs := [7]) (by kernel_rfl) (by simp) ?_
        refine ReadyE.cons rfl (by kernel_rfl) (fun K hK => ?_) ReadyE.nil
        have qc8 := (hbox7).cell 0
        have qf8 := (hbox7).frozen 0
        simp only [List.getElem?_toArray, List.getElem?_cons_zero] at qc8
        go_simp
        clear qc8 qf8
        have hA8 := hA7.setCell (p := ⟨x2.heap.size, 0, none⟩) hA2.size (.slice (some ⟨x6.heap.size, 0, none⟩) vl cp7)
        have hb8 := (hbox7).set_ 0 (.slice (some ⟨x6.heap.size, 0, none⟩) vl cp7)
        have hw8 := ways_set HWK7.out ⟨x2.heap.size, 0, none⟩ (.slice (some ⟨x6.heap.size, 0, none⟩) vl cp7) (Nat.ne_of_lt (hbox6).lt)
        have hS8 : World.cell? (x7.setCell ⟨x2.heap.size, 0, none⟩ (.slice (some ⟨x6.heap.size, 0, none⟩) vl cp7)) ⟨w.heap.size, 1, none⟩ = some (.slice va vl vc) := ((HB0.out.below hA8 HB0.out.lt).cell 1)
        refine hK.out _ _ (fun _ => hS8) ?_
        clear hK K
        generalize hE8 : x7.setCell ⟨x2.heap.size, 0, none⟩ (.slice (some ⟨x6.heap.size, 0, none⟩) vl cp7) = x8 at *
        clear hE8
        refine anyE_done (by kernel_rfl) ?_ _
        have hBU : Below w.heap.size w x8 := hbl.trans (hA8.mono (by have := HZ.out; omega))
        have hgU := HB0.out.below hA8 HB0.out.lt
        have hmm : w.heap.size ≤ x6.heap.size ∧ x6.heap.size < x8.heap.size := ⟨by have := HZ.out; have := hA6.size; omega, ways_lt hw8⟩
        have hst0 : StW R vl w.heap.size x6.heap.size x2.heap.size (List.replicate vl noW) x8 := ⟨inv_no R vl, (hb8).lt, (Nat.ne_of_lt (hbox6).lt), _, hb8, ways_weak hw8 (by have := HZ.out; omega)⟩
        have hset := settleP_any x8 B x6.heap.size ta va tl tc vl vc (.slice ra R.length rc) R (HR.out.far (hBU.mono hB)) (by omega) hmm.2 HL.out 65 #[.pointer (some ⟨x2.heap.size, 0, none⟩)] goes_ways1 (StW R vl w.heap.size x6.heap.size x2.heap.size) muS (SatW R) (AtW R vl) (fun x h => h.turn) (fun x y W h k => stW_mu x y W h k) (fun x W o h => stW_alloc o h) (ways1_step R vl w.heap.size x6.heap.size x2.heap.size B _ HL.out HN.out (by omega)) (List.replicate vl noW) hst0 (AtW.start R vl)
        have HSET := Lib.hid hset
        have g0 := hgU.cell 0
        have g1 := hgU.cell 1
        have g2 := hgU.cell 2
        simp only [List.getElem?_toArray, List.getElem?_cons_zero, List.getElem?_cons_succ] at g0 g1 g2
        have HBU := Lib.hid hBU
        clear hset hst0 hgU hBU
        go_wp2_with fail
        refine HSET.out.mono ?_
        rintro e w9 ⟨⟨v9, rfl⟩, hg9, S, ⟨hSi, hSb, hSn, u, hSu, hSm⟩, hpz, hsat⟩
        have hcu := (show Blk w9 x2.heap.size 54 #[u] from hSu).cell 0
        simp only [List.getElem?_toArray, List.getElem?_cons_zero, List.getElem?_cons_succ] at hcu
        have HF : Hid (Inv R vl S ∧ Done R S ∧ Below w.heap.size w w9) := Lib.hid ⟨hSi, done_of hSi hpz hsat, HBU.out.grown hg9 HBU.out.size (fun k e => by cases e; exact hmm.1)⟩
        have HSM := Lib.hid hSm
        obtain ⟨⟨uc, rfl⟩, _⟩ := hSm
        clear hSi hsat hSu hg9
        go_wp2
        go_ret
        exact ⟨_, _, S, rfl, HSM.out, HF.out⟩
    · go_simp
      have hA9 := hA1.alloc hA1.size (.cells #[.slice none 0 0] 54)
      have hbox9 := Blk.new x1 54 #[.slice none 0 0]
      have hS9 : World.cell? (x1.alloc (.cells #[.slice none 0 0] 54)) ⟨w.heap.size, 1, none⟩ = some (.slice va vl vc) := ((HB0.out.below hA9 HB0.out.lt).cell 1)
      refine hK.out _ _ (fun _ => hS9) ?_
      clear hK K
      generalize hE9 : x1.alloc (.cells #[.slice none 0 0] 54) = x9 at *
      clear hE9
      refine anyE_ready (rs := [1]) (by kernel_rfl) (by simp) ?_
      refine ReadyE.cons rfl (by kernel_rfl) (fun K hK => ?_) ReadyE.nil
      go_simp
      have hA10 := hA9.alloc hA9.size (.cells #[.int .i64 1073741824, .int .i64 1073741824, .int .i64 (-1)] 57)
      have hbox10 := (hbox9).alloc (.cells #[.int .i64 1073741824, .int .i64 1073741824, .int .i64 (-1)] 57)
      have hsrc10 := Blk.new x9 57 #[.int .i64 1073741824, .int .i64 1073741824, .int .i64 (-1)]
      have hS10 : World.cell? (x9.alloc (.cells #[.int .i64 1073741824, .int .i64 1073741824, .int .i64 (-1)] 57)) ⟨w.heap.size, 1, none⟩ = some (.slice va vl vc) := ((HB0.out.below hA10 HB0.out.lt).cell 1)
      refine hK.out _ _ (fun _ => hS10) ?_
      clear hK K
      generalize hE10 : x9.alloc (.cells #[.int .i64 1073741824, .int .i64 1073741824, .int .i64 (-1)] 57) = x10 at *
      clear hE10
      refine anyE_ready (rs := [5]) (by kernel_rfl) (by simp) ?_
      refine ReadyE.cons rfl (by kernel_rfl) (fun K hK => ?_) ReadyE.nil
      go_simp
      go_at_call 63
      refine (repeat_any x10 ⟨x9.heap.size, 0, none⟩ noW vl hv (hsrc10).lt (fun j u hj => by rw [zero_add_addr]; exact ((hsrc10).cell j).trans (by simpa [cW, noW, Far] using hj))).mono ?_
      rintro e x11 ⟨v11, rfl, hw11, hx11⟩
      have HWK11 := Lib.hid hw11
      obtain ⟨⟨cp11, hv11⟩, _⟩ := hw11
      rw [List.length_replicate] at hv11
      subst hv11
      have hA11 := hA10.trans (hx11.mono hA10.size)
      have hsrc11 := (hsrc10).below hx11 (hsrc10).lt
      have hbox11 := (hbox10).below hx11 (hbox10).lt
      have hS11 : World.cell? x11 ⟨w.heap.size, 1, none⟩ = some (.slice va vl vc) := ((HB0.out.below hA11 HB0.out.lt).cell 1)
      refine hK.out _ _ (fun _ => hS11) ?_
      clear hK K
      refine anyE_ready (rs := [7]) (by kernel_rfl) (by simp) ?_
      refine ReadyE.cons rfl (by kernel_rfl) (fun K hK => ?_) ReadyE.nil
      have qc12 := (hbox11).cell 0
      have qf12 := (hbox11).frozen 0
      simp only [List.getElem?_toArray, List.getElem?_cons_zero] at qc12
      go_simp
      clear qc12 qf12
      have hA12 := hA11.setCell (p := ⟨x1.heap.size, 0, none⟩) hA1.size (.slice (some ⟨x10.heap.size, 0, none⟩) vl cp11)
      have hb12 := (hbox11).set_ 0 (.slice (some ⟨x10.heap.size, 0, none⟩) vl cp11)
      have hw12 := ways_set HWK11.out ⟨x1.heap.size, 0, none⟩ (.slice (some ⟨x10.heap.size, 0, none⟩) vl cp11) (Nat.ne_of_lt (hbox10).lt)
      have hS12 : World.cell? (x11.setCell ⟨x1.heap.size, 0, none⟩ (.slice (some ⟨x10.heap.size, 0, none⟩) vl cp11)) ⟨w.heap.size, 1, none⟩ = some (.slice va vl vc) := ((HB0.out.below hA12 HB0.out.lt).cell 1)
      refine hK.out _ _ (fun _ => hS12) ?_
      clear hK K
      generalize hE12 : x11.setCell ⟨x1.heap.size, 0, none⟩ (.slice (some ⟨x10.heap.size, 0, none⟩) vl cp11) = x12 at *
      clear hE12
      refine anyE_done (by kernel_rfl) ?_ _
      have hBU : Below w.heap.size w x12 := hbl.trans (hA12.mono (by have := HZ.out; omega))
      have hgU := HB0.out.below hA12 HB0.out.lt
      have hmm : w.heap.size ≤ x10.heap.size ∧ x10.heap.size < x12.heap.size := ⟨by have := HZ.out; have := hA10.size; omega, ways_lt hw12⟩
      have hst0 : StW R vl w.heap.size x10.heap.size x1.heap.size (List.replicate vl noW) x12 := ⟨inv_no R vl, (hb12).lt, (Nat.ne_of_lt (hbox10).lt), _, hb12, ways_weak hw12 (by have := HZ.out; omega)⟩
      have hset := settleP_any x12 B x10.heap.size ta va tl tc vl vc (.slice ra R.length rc) R (HR.out.far (hBU.mono hB)) (by omega) hmm.2 HL.out 65 #[.pointer (some ⟨x1.heap.size, 0, none⟩)] goes_ways1 (StW R vl w.heap.size x10.heap.size x1.heap.size) muS (SatW R) (AtW R vl) (fun x h => h.turn) (fun x y W h k => stW_mu x y W h k) (fun x W o h => stW_alloc o h) (ways1_step R vl w.heap.size x10.heap.size x1.heap.size B _ HL.out HN.out (by omega)) (List.replicate vl noW) hst0 (AtW.start R vl)
      have HSET := Lib.hid hset
      have g0 := hgU.cell 0
      have g1 := hgU.cell 1
      have g2 := hgU.cell 2
      simp only [List.getElem?_toArray, List.getElem?_cons_zero, List.getElem?_cons_succ] at g0 g1 g2
      have HBU := Lib.hid hBU
      clear hset hst0 hgU hBU
      go_wp2_with fail
      refine HSET.out.mono ?_
      rintro e w9 ⟨⟨v9, rfl⟩, hg9, S, ⟨hSi, hSb, hSn, u, hSu, hSm⟩, hpz, hsat⟩
      have hcu := (show Blk w9 x1.heap.size 54 #[u] from hSu).cell 0
      simp only [List.getElem?_toArray, List.getElem?_cons_zero, List.getElem?_cons_succ] at hcu
      have HF : Hid (Inv R vl S ∧ Done R S ∧ Below w.heap.size w w9) := Lib.hid ⟨hSi, done_of hSi hpz hsat, HBU.out.grown hg9 HBU.out.size (fun k e => by cases e; exact hmm.1)⟩
      have HSM := Lib.hid hSm
      obtain ⟨⟨uc, rfl⟩, _⟩ := hSm
      clear hSi hsat hSu hg9
      go_wp2
      go_ret
      exact ⟨_, _, S, rfl, HSM.out, HF.out⟩
  · go_simp
    have hA13 := hA0.alloc hA0.size (.cells #[.slice none 0 0] 54)
    have hbox13 := Blk.new y0 54 #[.slice none 0 0]
    have hS13 : World.cell? (y0.alloc (.cells #[.slice none 0 0] 54)) ⟨w.heap.size, 1, none⟩ = some (.slice va vl vc) := ((HB0.out.below hA13 HB0.out.lt).cell 1)
    refine hK.out _ _ (fun _ => hS13) ?_
    clear hK K
    generalize hE13 : y0.alloc (.cells #[.slice none 0 0] 54) = x13 at *
    clear hE13
    refine anyE_ready (rs := [0]) (by kernel_rfl) (by simp) ?_
    refine ReadyE.cons rfl (by kernel_rfl) (fun K hK => ?_) ReadyE.nil
    go_simp
    go_at_call 64
    refine (none_any x13).mono ?_
    rintro e x14 ⟨rfl, hx14⟩
    unfold WayV noW Far
    have hA14 := hA13.trans (hx14.mono hA13.size)
    have hbox14 := (hbox13).below hx14 (hbox13).lt
    have hS14 : World.cell? x14 ⟨w.heap.size, 1, none⟩ = some (.slice va vl vc) := ((HB0.out.below hA14 HB0.out.lt).cell 1)
    refine hK.out _ _ (fun _ => hS14) ?_
    clear hK K
    refine anyE_ready (rs := [1]) (by kernel_rfl) (by simp) ?_
    refine ReadyE.cons rfl (by kernel_rfl) (fun K hK => ?_) ReadyE.nil
    go_simp
    have hA15 := hA14.alloc hA14.size (.cells #[.int .i64 1073741824, .int .i64 1073741824, .int .i64 (-1)] 57)
    have hbox15 := (hbox14).alloc (.cells #[.int .i64 1073741824, .int .i64 1073741824, .int .i64 (-1)] 57)
    have hsrc15 := Blk.new x14 57 #[.int .i64 1073741824, .int .i64 1073741824, .int .i64 (-1)]
    have hS15 : World.cell? (x14.alloc (.cells #[.int .i64 1073741824, .int .i64 1073741824, .int .i64 (-1)] 57)) ⟨w.heap.size, 1, none⟩ = some (.slice va vl vc) := ((HB0.out.below hA15 HB0.out.lt).cell 1)
    refine hK.out _ _ (fun _ => hS15) ?_
    clear hK K
    generalize hE15 : x14.alloc (.cells #[.int .i64 1073741824, .int .i64 1073741824, .int .i64 (-1)] 57) = x15 at *
    clear hE15
    refine anyE_ready (rs := [5]) (by kernel_rfl) (by simp) ?_
    refine ReadyE.cons rfl (by kernel_rfl) (fun K hK => ?_) ReadyE.nil
    go_simp
    go_at_call 63
    refine (repeat_any x15 ⟨x14.heap.size, 0, none⟩ noW vl hv (hsrc15).lt (fun j u hj => by rw [zero_add_addr]; exact ((hsrc15).cell j).trans (by simpa [cW, noW, Far] using hj))).mono ?_
    rintro e x16 ⟨v16, rfl, hw16, hx16⟩
    have HWK16 := Lib.hid hw16
    obtain ⟨⟨cp16, hv16⟩, _⟩ := hw16
    rw [List.length_replicate] at hv16
    subst hv16
    have hA16 := hA15.trans (hx16.mono hA15.size)
    have hsrc16 := (hsrc15).below hx16 (hsrc15).lt
    have hbox16 := (hbox15).below hx16 (hbox15).lt
    have hS16 : World.cell? x16 ⟨w.heap.size, 1, none⟩ = some (.slice va vl vc) := ((HB0.out.below hA16 HB0.out.lt).cell 1)
    refine hK.out _ _ (fun _ => hS16) ?_
    clear hK K
    refine anyE_ready (rs := [7]) (by kernel_rfl) (by simp) ?_
    refine ReadyE.cons rfl (by kernel_rfl) (fun K hK => ?_) ReadyE.nil
    have qc17 := (hbox16).cell 0
    have qf17 := (hbox16).frozen 0
    simp only [List.getElem?_toArray, List.getElem?_cons_zero] at qc17
    go_simp
    clear qc17 qf17
    have hA17 := hA16.setCell (p := ⟨y0.heap.size, 0, none⟩) hA0.size (.slice (some ⟨x15.heap.size, 0, none⟩) vl cp16)
    have hb17 := (hbox16).set_ 0 (.slice (some ⟨x15.heap.size, 0, none⟩) vl cp16)
    have hw17 := ways_set HWK16.out ⟨y0.heap.size, 0, none⟩ (.slice (some ⟨x15.heap.size, 0, none⟩) vl cp16) (Nat.ne_of_lt (hbox15).lt)
    have hS17 : World.cell? (x16.setCell ⟨y0.heap.size, 0, none⟩ (.slice (some ⟨x15.heap.size, 0, none⟩) vl cp16)) ⟨w.heap.size, 1, none⟩ = some (.slice va vl vc) := ((HB0.out.below hA17 HB0.out.lt).cell 1)
    refine hK.out _ _ (fun _ => hS17) ?_
    clear hK K
    generalize hE17 : x16.setCell ⟨y0.heap.size, 0, none⟩ (.slice (some ⟨x15.heap.size, 0, none⟩) vl cp16) = x17 at *
    clear hE17
    refine anyE_done (by kernel_rfl) ?_ _
    have hBU : Below w.heap.size w x17 := hbl.trans (hA17.mono (by have := HZ.out; omega))
    have hgU := HB0.out.below hA17 HB0.out.lt
    have hmm : w.heap.size ≤ x15.heap.size ∧ x15.heap.size < x17.heap.size := ⟨by have := HZ.out; have := hA15.size; omega, ways_lt hw17⟩
    have hst0 : StW R vl w.heap.size x15.heap.size y0.heap.size (List.replicate vl noW) x17 := ⟨inv_no R vl, (hb17).lt, (Nat.ne_of_lt (hbox15).lt), _, hb17, ways_weak hw17 (by have := HZ.out; omega)⟩
    have hset := settleP_any x17 B x15.heap.size ta va tl tc vl vc (.slice ra R.length rc) R (HR.out.far (hBU.mono hB)) (by omega) hmm.2 HL.out 65 #[.pointer (some ⟨y0.heap.size, 0, none⟩)] goes_ways1 (StW R vl w.heap.size x15.heap.size y0.heap.size) muS (SatW R) (AtW R vl) (fun x h => h.turn) (fun x y W h k => stW_mu x y W h k) (fun x W o h => stW_alloc o h) (ways1_step R vl w.heap.size x15.heap.size y0.heap.size B _ HL.out HN.out (by omega)) (List.replicate vl noW) hst0 (AtW.start R vl)
    have HSET := Lib.hid hset
    have g0 := hgU.cell 0
    have g1 := hgU.cell 1
    have g2 := hgU.cell 2
    simp only [List.getElem?_toArray, List.getElem?_cons_zero, List.getElem?_cons_succ] at g0 g1 g2
    have HBU := Lib.hid hBU
    clear hset hst0 hgU hBU
    go_wp2_with fail
    refine HSET.out.mono ?_
    rintro e w9 ⟨⟨v9, rfl⟩, hg9, S, ⟨hSi, hSb, hSn, u, hSu, hSm⟩, hpz, hsat⟩
    have hcu := (show Blk w9 y0.heap.size 54 #[u] from hSu).cell 0
    simp only [List.getElem?_toArray, List.getElem?_cons_zero, List.getElem?_cons_succ] at hcu
    have HF : Hid (Inv R vl S ∧ Done R S ∧ Below w.heap.size w w9) := Lib.hid ⟨hSi, done_of hSi hpz hsat, HBU.out.grown hg9 HBU.out.size (fun k e => by cases e; exact hmm.1)⟩
    have HSM := Lib.hid hSm
    obtain ⟨⟨uc, rfl⟩, _⟩ := hSm
    clear hSi hsat hSu hg9
    go_wp2
    go_ret
    exact ⟨_, _, S, rfl, HSM.out, HF.out⟩
end Go.Proofs.YtomikgkoegkofaaGreatDoor.dv
