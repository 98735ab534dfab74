import Derived.Test.YtomikgkoegkofaaGreatDoorUso
namespace Go.Proofs.YtomikgkoegkofaaGreatDoor.dv
open Go.ChangeShapes Go.WideShapes Go.ChangeAt Go.RowKit Go.Maps Go.WideMaps Go.WideElems
set_option linter.unusedVariables false
set_option linter.unusedSimpArgs false
/-! the way by a rule -/
attribute [local go_sem] run_store_fl
theorem DRC (W : World) (a : Addr) (v : Value) (h : W.cell? a = some v) : W.drew.cell? a = some v := h
def SmallW (S : List Way) : Prop := ∀ x : Int, (wat S x).1 ≤ Far ∧ (wat S x).2.1 ≤ Far
theorem cS_snoc (S : List Way) (F : List Int) (k : Nat) (h : k < F.length) : cS S (F.take (k + 1)) = cS S (F.take k) + (wat S (F.getD k 0)).1 := by
  unfold cS
  rw [List.take_succ_eq_append_getElem h, List.map_append, List.sum_append, List.getD_eq_getElem?_getD, List.getElem?_eq_getElem h]
  simp
theorem sS_snoc (S : List Way) (F : List Int) (k : Nat) (h : k < F.length) : sS S (F.take (k + 1)) = sS S (F.take k) + (wat S (F.getD k 0)).2.1 := by
  unfold sS
  rw [List.take_succ_eq_append_getElem h, List.map_append, List.sum_append, List.getD_eq_getElem?_getD, List.getElem?_eq_getElem h]
  simp
def WbR (B : Nat) (S : List Way) (F : List Int) (i : Nat) (rb : Array Value) (w : World) (k : Nat) (wr : World) : Prop :=
  Below B w wr ∧ Blk wr B 44 rb ∧ Blk wr (B + 1) 57 #[.int .i64 0, .int .i64 0, .int .i64 0] ∧ Blk wr (B + 2) 57 #[.int .i64 ((min (cS S (F.take k)) Far : Nat) : Int), .int .i64 ((min (1 + sS S (F.take k)) Far : Nat) : Int), .int .i64 i] ∧ B + 3 ≤ wr.heap.size
set_option maxRecDepth 100000 in
set_option maxHeartbeats 4000000 in
theorem wayBy_any (w : World) (i : Nat) (r : Rl) (ao : Option Addr) (cp : Nat) (v : Value) (S : List Way) (hr : RowAt w (.slice ao r.right.length cp) r.right) (hS : ReadW w v S) (hs : SmallW S) : Calls Tryz.prog 66 #[.int .i64 i, RlV r ao cp, v] w fun e w' => e = .returned (WayV (wayB S i r.right)) ∧ Below w.heap.size w w' := by
  obtain ⟨lf, F, wt⟩ := r
  dsimp only at hr
  unfold RlV
  show Calls _ _ #[_, .agg #[.int .i64 lf, .slice ao F.length cp, .float .f64 wt], v] w fun e w' => e = .returned (WayV (wayB S i F)) ∧ Below w.heap.size w w'
  have b0 := Blk.new w 44 #[.int .i64 lf, .slice ao F.length cp, .float .f64 wt]
  have b1 := Blk.new (w.alloc (.cells #[.int .i64 lf, .slice ao F.length cp, .float .f64 wt] 44)) 57 #[.int .i64 0, .int .i64 0, .int .i64 0]
  have b2 := Blk.new ((w.alloc (.cells #[.int .i64 lf, .slice ao F.length cp, .float .f64 wt] 44)).alloc (.cells #[.int .i64 0, .int .i64 0, .int .i64 0] 57)) 57 #[.int .i64 0, .int .i64 1, .int .i64 i]
  simp only [World.size_alloc] at b1 b2
  have b0' := (b0.alloc (.cells #[.int .i64 0, .int .i64 0, .int .i64 0] 57)).alloc (.cells #[.int .i64 0, .int .i64 1, .int .i64 i] 57)
  have b1' := b1.alloc (.cells #[.int .i64 0, .int .i64 1, .int .i64 i] 57)
  have hbl : Below w.heap.size w (((w.alloc (.cells #[.int .i64 lf, .slice ao F.length cp, .float .f64 wt] 44)).alloc (.cells #[.int .i64 0, .int .i64 0, .int .i64 0] 57)).alloc (.cells #[.int .i64 0, .int .i64 1, .int .i64 i] 57)) := (((Below.refl _ w).alloc (Nat.le_refl _) _).alloc (by simp) _).alloc (by simp; omega) _
  have hw0 : WbR w.heap.size S F i #[.int .i64 lf, .slice ao F.length cp, .float .f64 wt] w 0 (((w.alloc (.cells #[.int .i64 lf, .slice ao F.length cp, .float .f64 wt] 44)).alloc (.cells #[.int .i64 0, .int .i64 0, .int .i64 0] 57)).alloc (.cells #[.int .i64 0, .int .i64 1, .int .i64 i] 57)) := ⟨hbl, b0', b1', b2, by simp only [World.size_alloc]; omega⟩
  obtain ⟨ro, rc, e, hrl, hmx, _, hin, hc⟩ := id hr
  cases e
  have hlen : F.length ≤ 9223372036854775807 := by unfold maxLen at hmx; omega
  have hadd : ∀ (W : World) (a b : Nat), a ≤ Far → b ≤ Far → Calls Tryz.prog 93 #[.int .i64 a, .int .i64 b] W fun e w' => e = .returned (.int .i64 (min (a + b) Far : Nat)) ∧ w' = W := fun W a b ha hb => add_any W a b ha hb
  have HW := Lib.hid (fun (W : World) (hb : Below w.heap.size w W) (x : Int) => wayOf_any W _ S x (hS.below hb))
  have HC := Lib.hid hc
  have HSM := Lib.hid hs
  have c0 := b0'.cell 0
  have c1 := b0'.cell 1
  have c2 := b0'.cell 2
  simp only [List.getElem?_toArray, List.getElem?_cons_zero, List.getElem?_cons_succ] at c0 c1 c2
  obtain ⟨vo, vc, rfl, _⟩ := id hS
  clear b0 b1 b2 b0' b1' hc hs hr hin
  have HW0 := Lib.hid hw0
  have HBL := Lib.hid hbl
  clear hw0 hbl hS
  go_enter Tryz.func66, Tryz.ntmps66
  go_wp2
  go_loopw [16] (fun q wr => ∃ k : Nat, k ≤ F.length ∧ q = .int .i64 k ∧ WbR w.heap.size S F i #[.int .i64 lf, .slice ao F.length cp, .float .f64 wt] w k wr) (fun q _ => F.length - (intOf q).toNat)
  case atStart => exact ⟨0, Nat.zero_le _, rfl, HW0.out⟩
  case round =>
    obtain ⟨k, hk, rfl, hB, k0, k1, k2, hz⟩ := hrel
    have d0 := k2.cell 0
    have d1 := k2.cell 1
    have d2 := k2.cell 2
    have f0 := k2.frozen 0
    have f1 := k2.frozen 1
    simp only [List.getElem?_toArray, List.getElem?_cons_zero, List.getElem?_cons_succ] at d0 d1 d2
    by_cases hlt : k < F.length
    · obtain ⟨a, rfl, hab, hca⟩ := HC.out k hlt
      have hcw := (hB.cell (p := a.add k) (by rw [add_block]; exact hab)).trans hca
      clear hca
      have HS1 := Lib.hid (cS_snoc S F k hlt)
      have HS2 := Lib.hid (sS_snoc S F k hlt)
      generalize F.getD k 0 = x at *
      have hwo := HW.out wr hB x
      obtain ⟨hy1, hy2⟩ := HSM.out x
      generalize wat S x = y at *
      obtain ⟨yc, ys, yr⟩ := y
      simp only at hy1 hy2
      generalize hcn : min (cS S (F.take k)) Far = cn at *
      generalize hsn : min (1 + sS S (F.take k)) Far = sn at *
      have hcf : cn ≤ Far := by omega
      have hsf : sn ≤ Far := by omega
      have HCN := Lib.hid hcn
      have HSN := Lib.hid hsn
      clear hcn hsn d0 d1 d2 f0 f1
      go_wp2_with fail
      refine hwo.mono ?_
      rintro e w3 ⟨rfl, hb3⟩
      unfold WayV
      have bn := Blk.new w3 57 #[.int .i64 yc, .int .i64 ys, .int .i64 yr]
      have k2' := (k2.below hb3 k2.lt).alloc (.cells #[.int .i64 yc, .int .i64 ys, .int .i64 yr] 57)
      have d0 := k2'.cell 0
      have d1 := k2'.cell 1
      have f0 := k2'.frozen 0
      have f1 := k2'.frozen 1
      have e0 := bn.cell 0
      have e1 := bn.cell 1
      simp only [List.getElem?_toArray, List.getElem?_cons_zero, List.getElem?_cons_succ] at d0 d1 e0 e1
      go_wp2
      refine wp_region_E (fun W => W.cell? ⟨w.heap.size + 2, 0, none⟩ = some (.int .i64 cn) ∧ W.cell? ⟨w.heap.size + 2, 1, none⟩ = some (.int .i64 sn) ∧ W.cell? ⟨w3.heap.size, 0, none⟩ = some (.int .i64 yc) ∧ W.cell? ⟨w3.heap.size, 1, none⟩ = some (.int .i64 ys)) [11, 12, 13] (by kernel_rfl) ?_
      have HS : _ := And.intro (DRC _ _ _ d0) (And.intro (DRC _ _ _ d1) (And.intro (DRC _ _ _ e0) (DRC _ _ _ e1)))
      change anyE _ _ _ _ _ _ _ _ _ (World.drew _)
      refine anyE_take (i := 0) (v := ?_) rfl (by kernel_rfl) (by kernel_rfl) (by kernel_rfl) (by kernel_rfl) (by kernel_rfl) (fun _ _ _ h => h) (Or.inl ⟨by kernel_rfl, ?_⟩) HS ?_
      rotate_left
      · intro w _; go_simp; with_reducible rfl
      refine anyE_take (i := 2) (v := ?_) rfl (by kernel_rfl) (by kernel_rfl) (by kernel_rfl) (by kernel_rfl) (by kernel_rfl) (fun _ _ _ h => h) (Or.inl ⟨by kernel_rfl, ?_⟩) HS ?_
      rotate_left
      · intro w _; go_simp; with_reducible rfl
      refine anyE_take (i := 5) (v := ?_) rfl (by kernel_rfl) (by kernel_rfl) (by kernel_rfl) (by kernel_rfl) (by kernel_rfl) (fun _ _ _ h => h) (Or.inl ⟨by kernel_rfl, ?_⟩) HS ?_
      rotate_left
      · intro w _; go_simp; with_reducible rfl
      refine anyE_take (i := 7) (v := ?_) rfl (by kernel_rfl) (by kernel_rfl) (by kernel_rfl) (by kernel_rfl) (by kernel_rfl) (fun _ _ _ h => h) (Or.inl ⟨by kernel_rfl, ?_⟩) HS ?_
      rotate_left
      · intro w _; go_simp; with_reducible rfl
      refine anyE_take (i := 1) (v := ?_) rfl (by kernel_rfl) (by kernel_rfl) (by kernel_rfl) (by kernel_rfl) (by kernel_rfl) (fun _ _ _ h => h) (Or.inl ⟨by kernel_rfl, ?_⟩) HS ?_
      rotate_left
      · intro w hw; have hw := hw.1; go_simp; with_reducible rfl
      refine anyE_take (i := 3) (v := ?_) rfl (by kernel_rfl) (by kernel_rfl) (by kernel_rfl) (by kernel_rfl) (by kernel_rfl) (fun _ _ _ h => h) (Or.inl ⟨by kernel_rfl, ?_⟩) HS ?_
      rotate_left
      · intro w hw; have hw := hw.2.2.1; go_simp; with_reducible rfl
      refine anyE_take (i := 6) (v := ?_) rfl (by kernel_rfl) (by kernel_rfl) (by kernel_rfl) (by kernel_rfl) (by kernel_rfl) (fun _ _ _ h => h) (Or.inl ⟨by kernel_rfl, ?_⟩) HS ?_
      rotate_left
      · intro w hw; have hw := hw.2.1; go_simp; with_reducible rfl
      refine anyE_take (i := 8) (v := ?_) rfl (by kernel_rfl) (by kernel_rfl) (by kernel_rfl) (by kernel_rfl) (by kernel_rfl) (fun _ _ _ h => h) (Or.inl ⟨by kernel_rfl, ?_⟩) HS ?_
      rotate_left
      · intro w hw; have hw := hw.2.2.2; go_simp; with_reducible rfl
      refine anyE_ready (rs := [4]) (by kernel_rfl) (by simp) ?_
      refine ReadyE.cons rfl (by kernel_rfl) (fun K hK => ?_) ReadyE.nil
      go_simp
      go_at_call 93
      refine (hadd _ _ _ hcf hy1).mono ?_
      rintro e w5 ⟨rfl, rfl⟩
      refine hK.out _ _ (fun _ => HS) ?_
      clear hK K
      refine anyE_take (i := 10) (v := ?_) rfl (by kernel_rfl) (by kernel_rfl) (by kernel_rfl) (by kernel_rfl) (by kernel_rfl) (fun _ _ _ h => h) (Or.inl ⟨by kernel_rfl, ?_⟩) HS ?_
      rotate_left
      · intro w _; go_simp; with_reducible rfl
      refine anyE_ready (rs := [9]) (by kernel_rfl) (by simp) ?_
      refine ReadyE.cons rfl (by kernel_rfl) (fun K hK => ?_) ReadyE.nil
      go_simp
      go_at_call 93
      refine (hadd _ _ _ hsf hy2).mono ?_
      rintro e w5 ⟨rfl, rfl⟩
      refine hK.out _ _ (fun _ => HS) ?_
      clear hK K
      refine anyE_rest (by kernel_rfl) ?_
      refine wpAny_ready (rs := [11]) (by kernel_rfl) (by simp) ?_
      refine AllReady.cons rfl (fun K hK => ?_) AllReady.nil
      go_simp
      refine hK _ _ ?_
      clear hK K
      refine wpAny_take (i := 12) (v := ?_) rfl (by kernel_rfl) (by kernel_rfl) (by kernel_rfl) (fun _ _ _ h => h) (Or.inl ⟨by kernel_rfl, ?_⟩) ?_
      rotate_left
      · intro w; go_simp; with_reducible rfl
      refine wpAny_ready (rs := [13]) (by kernel_rfl) (by simp) ?_
      refine AllReady.cons rfl (fun K hK => ?_) AllReady.nil
      go_simp
      refine hK _ _ ?_
      clear hK K
      refine wpAny_done (by kernel_rfl) ?_ _
      have kA := ((k0.below hb3 k0.lt).alloc (.cells #[.int .i64 yc, .int .i64 ys, .int .i64 yr] 57))
      have kB := ((k1.below hb3 k1.lt).alloc (.cells #[.int .i64 yc, .int .i64 ys, .int .i64 yr] 57))
      have hsz := hb3.size
      have hB4 : Below w.heap.size w (w3.alloc (.cells #[.int .i64 yc, .int .i64 ys, .int .i64 yr] 57)) := (hB.trans (hb3.mono hB.size)).alloc (by omega) _
      have HE : Hid (WbR w.heap.size S F i #[.int .i64 lf, .slice (some a) F.length cp, .float .f64 wt] w (k + 1) (((w3.alloc (.cells #[.int .i64 yc, .int .i64 ys, .int .i64 yr] 57)).setCell ⟨w.heap.size + 2, 0, none⟩ (.int .i64 (min (cn + yc) Far : Nat))).setCell ⟨w.heap.size + 2, 1, none⟩ (.int .i64 (min (sn + ys) Far : Nat))).drew) := Lib.hid (by
        have e1 : min (cS S (F.take (k + 1))) Far = min (cn + yc) Far := by have h1 := HS1.out; have h2 := HCN.out; omega
        have e2 : min (1 + sS S (F.take (k + 1))) Far = min (sn + ys) Far := by have h1 := HS2.out; have h2 := HSN.out; omega
        refine ⟨(((hB4.setCell (p := ⟨w.heap.size + 2, 0, none⟩) (by show w.heap.size ≤ w.heap.size + 2; omega) _).setCell (p := ⟨w.heap.size + 2, 1, none⟩) (by show w.heap.size ≤ w.heap.size + 2; omega) _)).drew, ?_, ?_, ?_, ?_⟩
        · exact (kA.far (p := ⟨w.heap.size + 2, 0, none⟩) (by show w.heap.size ≠ w.heap.size + 2; omega) _).far (p := ⟨w.heap.size + 2, 1, none⟩) (by show w.heap.size ≠ w.heap.size + 2; omega) _
        · exact (kB.far (p := ⟨w.heap.size + 2, 0, none⟩) (by show w.heap.size + 1 ≠ w.heap.size + 2; omega) _).far (p := ⟨w.heap.size + 2, 1, none⟩) (by show w.heap.size + 1 ≠ w.heap.size + 2; omega) _
        · rw [e1, e2]
          exact (k2'.set_ 0 _).set_ 1 _
        · show w.heap.size + 3 ≤ ((((w3.alloc _).setCell _ _).setCell _ _).drew).heap.size
          have : (((w3.alloc (.cells #[.int .i64 yc, .int .i64 ys, .int .i64 yr] 57)).setCell ⟨w.heap.size + 2, 0, none⟩ (.int .i64 (min (cn + yc) Far : Nat))).setCell ⟨w.heap.size + 2, 1, none⟩ (.int .i64 (min (sn + ys) Far : Nat))).drew.heap.size = w3.heap.size + 1 := by simp
          rw [this]; omega)
      clear kA kB hB4 HS d0 d1 e0 e1 f0 f1
      go_wp2
      exact ⟨⟨k + 1, hlt, congrArg (Value.int .i64) (by omega), HE.out⟩, by simp only [intOf]; omega⟩
    · obtain rfl : k = F.length := by omega
      rw [List.take_length] at k2 d0 d1
      by_cases hc : Far ≤ cS S F
      · have hway : wayB S i F = noW := by unfold wayB; rw [if_pos hc]
        have e1 : ((min (cS S F) Far : Nat) : Int) = 1073741824 := by rw [Nat.min_eq_right hc]; rfl
        rw [e1] at k2 d0
        have HWY := Lib.hid hway
        clear e1 hway d1 d2 f0 f1
        go_wp2_with fail
        refine (none_any _).mono ?_
        rintro e w4 ⟨rfl, hb4⟩
        have k4 := k1.below hb4 k1.lt
        have g0 := k4.cell 0
        have g1 := k4.cell 1
        have g2 := k4.cell 2
        have g3 := k4.frozen 0
        have g4 := k4.frozen 1
        have g5 := k4.frozen 2
        simp only [List.getElem?_toArray, List.getElem?_cons_zero, List.getElem?_cons_succ] at g0 g1 g2
        unfold WayV
        go_wp2
        refine bodyPost_ret (v := WayV noW) (by simp [results, Tryz.results66, go_sem, WayV, noW, Far, *]) rfl ?_
        exact ⟨by rw [HWY.out], (((hB.trans (hb4.mono hB.size)).setCell (p := ⟨w.heap.size + 1, 0, none⟩) (by show w.heap.size ≤ w.heap.size + 1; omega) _).setCell (p := ⟨w.heap.size + 1, 1, none⟩) (by show w.heap.size ≤ w.heap.size + 1; omega) _).setCell (p := ⟨w.heap.size + 1, 2, none⟩) (by show w.heap.size ≤ w.heap.size + 1; omega) _⟩
      · have hway : wayB S i F = (cS S F, min (1 + sS S F) Far, (i : Int)) := by unfold wayB; rw [if_neg hc]
        have e1 : min (cS S F) Far = cS S F := by omega
        rw [e1] at k2 d0
        have hne : (((cS S F : Nat) : Int) == 1073741824) = false := by rw [beq_eq_false_iff_ne]; unfold Far at hc; omega
        have HWY := Lib.hid hway
        clear e1 hway hc
        generalize cS S F = cf at *
        generalize min (1 + sS S F) Far = sf at *
        have g0 := k1.cell 0
        have g1 := k1.cell 1
        have g2 := k1.cell 2
        have g3 := k1.frozen 0
        have g4 := k1.frozen 1
        have g5 := k1.frozen 2
        simp only [List.getElem?_toArray, List.getElem?_cons_zero, List.getElem?_cons_succ] at g0 g1 g2
        go_wp2
        refine bodyPost_ret (v := WayV (cf, sf, (i : Int))) (by simp [results, Tryz.results66, go_sem, WayV, *]) rfl ?_
        exact ⟨by rw [HWY.out], ((hB.setCell (p := ⟨w.heap.size + 1, 0, none⟩) (by show w.heap.size ≤ w.heap.size + 1; omega) _).setCell (p := ⟨w.heap.size + 1, 1, none⟩) (by show w.heap.size ≤ w.heap.size + 1; omega) _).setCell (p := ⟨w.heap.size + 1, 2, none⟩) (by show w.heap.size ≤ w.heap.size + 1; omega) _⟩
end Go.Proofs.YtomikgkoegkofaaGreatDoor.dv
