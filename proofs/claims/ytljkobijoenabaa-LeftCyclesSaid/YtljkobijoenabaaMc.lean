import Derived.Shelf.Bits.Mul64
import Derived.Laws.CopyOwn
import Derived.Test.YtljkobijoenabaaMb
namespace Go.Proofs.Ytljkobijoenabaa.dv
open Go.ChangeShapes Go.WideShapes Go.ChangeAt Go.RowKit Go.Maps Go.WideMaps Go.WideElems
set_option linter.unusedVariables false
set_option linter.unusedSimpArgs false
/-! the way by a rule -/
attribute [local go_sem] run_store_fl
theorem DRC (W : World) (a : Addr) (v : Value) (h : W.cell? a = some v) : W.drew.cell? a = some v := h
def SmallW (S : List Way) : Prop := ∀ x : Int, (wat S x).1 ≤ Far ∧ (wat S x).2.1 ≤ Far
theorem cS_snoc (S : List Way) (F : List Int) (k : Nat) (h : k < F.length) : cS S (F.take (k + 1)) = cS S (F.take k) + (wat S (F.getD k 0)).1 := by
  unfold cS
  rw [List.take_succ_eq_append_getElem h, List.map_append, List.sum_append, List.getD_eq_getElem?_getD, List.getElem?_eq_getElem h]
  simp
theorem sS_snoc (S : List Way) (F : List Int) (k : Nat) (h : k < F.length) : sS S (F.take (k + 1)) = sS S (F.take k) + (wat S (F.getD k 0)).2.1 := by
  unfold sS
  rw [List.take_succ_eq_append_getElem h, List.map_append, List.sum_append, List.getD_eq_getElem?_getD, List.getElem?_eq_getElem h]
  simp
def WbR (B : Nat) (S : List Way) (F : List Int) (i : Nat) (rb : Array Value) (w : World) (k : Nat) (wr : World) : Prop :=
  Below B w wr ∧ Blk wr B 52 rb ∧ Blk wr (B + 1) 115 #[.int .i64 0, .int .i64 0, .int .i64 0] ∧ Blk wr (B + 2) 115 #[.int .i64 ((min (cS S (F.take k)) Far : Nat) : Int), .int .i64 ((min (1 + sS S (F.take k)) Far : Nat) : Int), .int .i64 i] ∧ B + 3 ≤ wr.heap.size
set_option maxRecDepth 100000 in
set_option maxHeartbeats 4000000 in
theorem wayBy_any (w : World) (i : Nat) (r : Rl) (ao : Option Addr) (cp : Nat) (v : Value) (S : List Way) (hr : RowAt w (.slice ao r.right.length cp) r.right) (hS : ReadW w v S) (hs : SmallW S) : Calls Try.prog 108 #[.int .i64 i, RlV r ao cp, v] w fun e w' => e = .returned (WayV (wayB S i r.right)) ∧ Below w.heap.size w w' := by
  obtain ⟨lf, F, wt⟩ := r
  dsimp only at hr
  unfold RlV
  show Calls _ _ #[_, .agg #[.int .i64 lf, .slice ao F.length cp, .float .f64 wt], v] w fun e w' => e = .returned (WayV (wayB S i F)) ∧ Below w.heap.size w w'
  have b0 := Blk.new w 52 #[.int .i64 lf, .slice ao F.length cp, .float .f64 wt]
  have b1 := Blk.new (w.alloc (.cells #[.int .i64 lf, .slice ao F.length cp, .float .f64 wt] 52)) 115 #[.int .i64 0, .int .i64 0, .int .i64 0]
  have b2 := Blk.new ((w.alloc (.cells #[.int .i64 lf, .slice ao F.length cp, .float .f64 wt] 52)).alloc (.cells #[.int .i64 0, .int .i64 0, .int .i64 0] 115)) 115 #[.int .i64 0, .int .i64 1, .int .i64 i]
  simp only [World.size_alloc] at b1 b2
  have b0' := (b0.alloc (.cells #[.int .i64 0, .int .i64 0, .int .i64 0] 115)).alloc (.cells #[.int .i64 0, .int .i64 1, .int .i64 i] 115)
  have b1' := b1.alloc (.cells #[.int .i64 0, .int .i64 1, .int .i64 i] 115)
  have hbl : Below w.heap.size w (((w.alloc (.cells #[.int .i64 lf, .slice ao F.length cp, .float .f64 wt] 52)).alloc (.cells #[.int .i64 0, .int .i64 0, .int .i64 0] 115)).alloc (.cells #[.int .i64 0, .int .i64 1, .int .i64 i] 115)) := (((Below.refl _ w).alloc (Nat.le_refl _) _).alloc (by simp) _).alloc (by simp; omega) _
  have hw0 : WbR w.heap.size S F i #[.int .i64 lf, .slice ao F.length cp, .float .f64 wt] w 0 (((w.alloc (.cells #[.int .i64 lf, .slice ao F.length cp, .float .f64 wt] 52)).alloc (.cells #[.int .i64 0, .int .i64 0, .int .i64 0] 115)).alloc (.cells #[.int .i64 0, .int .i64 1, .int .i64 i] 115)) := ⟨hbl, b0', b1', b2, by simp only [World.size_alloc]; omega⟩
  obtain ⟨ro, rc, e, hrl, hmx, _, hin, hc⟩ := id hr
  cases e
  have hlen : F.length ≤ 9223372036854775807 := by unfold maxLen at hmx; omega
  have hadd : ∀ (W : World) (a b : Nat), a ≤ Far → b ≤ Far → Calls Try.prog 113 #[.int .i64 a, .int .i64 b] W fun e w' => e = .returned (.int .i64 (min (a + b) Far : Nat)) ∧ w' = W := fun W a b ha hb => add_any W a b ha hb
  have HW := Lib.hid (fun (W : World) (hb : Below w.heap.size w W) (x : Int) => wayOf_any W _ S x (hS.below hb))
  have HC := Lib.hid hc
  have HSM := Lib.hid hs
  have c0 := b0'.cell 0
  have c1 := b0'.cell 1
  have c2 := b0'.cell 2
  simp only [List.getElem?_toArray, List.getElem?_cons_zero, List.getElem?_cons_succ] at c0 c1 c2
  obtain ⟨vo, vc, rfl, _⟩ := id hS
  clear b0 b1 b2 b0' b1' hc hs hr hin
  have HW0 := Lib.hid hw0
  have HBL := Lib.hid hbl
  clear hw0 hbl hS
  go_enter Try.func108, Try.ntmps108
  go_wp2
  go_loopw [16] (fun q wr => ∃ k : Nat, k ≤ F.length ∧ q = .int .i64 k ∧ WbR w.heap.size S F i #[.int .i64 lf, .slice ao F.length cp, .float .f64 wt] w k wr) (fun q _ => F.length - (intOf q).toNat)
  case atStart => exact ⟨0, Nat.zero_le _, rfl, HW0.out⟩
  case round =>
    obtain ⟨k, hk, rfl, hB, k0, k1, k2, hz⟩ := hrel
    have d0 := k2.cell 0
    have d1 := k2.cell 1
    have d2 := k2.cell 2
    have f0 := k2.frozen 0
    have f1 := k2.frozen 1
    simp only [List.getElem?_toArray, List.getElem?_cons_zero, List.getElem?_cons_succ] at d0 d1 d2
    by_cases hlt : k < F.length
    · obtain ⟨a, rfl, hab, hca⟩ := HC.out k hlt
      have hcw := (hB.cell (p := a.add k) (by rw [add_block]; exact hab)).trans hca
      clear hca
      have HS1 := Lib.hid (cS_snoc S F k hlt)
      have HS2 := Lib.hid (sS_snoc S F k hlt)
      generalize F.getD k 0 = x at *
      have hwo := HW.out wr hB x
      obtain ⟨hy1, hy2⟩ := HSM.out x
      generalize wat S x = y at *
      obtain ⟨yc, ys, yr⟩ := y
      simp only at hy1 hy2
      generalize hcn : min (cS S (F.take k)) Far = cn at *
      generalize hsn : min (1 + sS S (F.take k)) Far = sn at *
      have hcf : cn ≤ Far := by omega
      have hsf : sn ≤ Far := by omega
      have HCN := Lib.hid hcn
      have HSN := Lib.hid hsn
      clear hcn hsn d0 d1 d2 f0 f1
      go_wp2_with fail
      refine hwo.mono ?_
      rintro e w3 ⟨rfl, hb3⟩
      unfold WayV
      have bn := Blk.new w3 115 #[.int .i64 yc, .int .i64 ys, .int .i64 yr]
      have k2' := (k2.below hb3 k2.lt).alloc (.cells #[.int .i64 yc, .int .i64 ys, .int .i64 yr] 115)
      have d0 := k2'.cell 0
      have d1 := k2'.cell 1
      have f0 := k2'.frozen 0
      have f1 := k2'.frozen 1
      have e0 := bn.cell 0
      have e1 := bn.cell 1
      simp only [List.getElem?_toArray, List.getElem?_cons_zero, List.getElem?_cons_succ] at d0 d1 e0 e1
      go_wp2
      refine wp_region_E (fun W => W.cell? ⟨w.heap.size + 2, 0, none⟩ = some (.int .i64 cn) ∧ W.cell? ⟨w.heap.size + 2, 1, none⟩ = some (.int .i64 sn) ∧ W.cell? ⟨w3.heap.size, 0, none⟩ = some (.int .i64 yc) ∧ W.cell? ⟨w3.heap.size, 1, none⟩ = some (.int .i64 ys)) [11, 12, 13] (by kernel_rfl) ?_
      have HS : _ := And.intro (DRC _ _ _ d0) (And.intro (DRC _ _ _ d1) (And.intro (DRC _ _ _ e0) (DRC _ _ _ e1)))
      change anyE _ _ _ _ _ _ _ _ _ (World.drew _)
      refine anyE_take (i := 0) (v := ?_) rfl (by kernel_rfl) (by kernel_rfl) (by kernel_rfl) (by kernel_rfl) (by kernel_rfl) (fun _ _ _ h => h) (Or.inl ⟨by kernel_rfl, ?_⟩) HS ?_
      rotate_left
      · intro w _; go_simp; with_reducible rfl
      refine anyE_take (i := 2) (v := ?_) rfl (by kernel_rfl) (by kernel_rfl) (by kernel_rfl) (by kernel_rfl) (by kernel_rfl) (fun _ _ _ h => h) (Or.inl ⟨by kernel_rfl, ?_⟩) HS ?_
      rotate_left
      · intro w _; go_simp; with_reducible rfl
      refine anyE_take (i := 5) (v := ?_) rfl (by kernel_rfl) (by kernel_rfl) (by kernel_rfl) (by kernel_rfl) (by kernel_rfl) (fun _ _ _ h => h) (Or.inl ⟨by kernel_rfl, ?_⟩) HS ?_
      rotate_left
      · intro w _; go_simp; with_reducible rfl
      refine anyE_take (i := 7) (v := ?_) rfl (by kernel_rfl) (by kernel_rfl) (by kernel_rfl) (by kernel_rfl) (by kernel_rfl) (fun _ _ _ h => h) (Or.inl ⟨by kernel_rfl, ?_⟩) HS ?_
      rotate_left
      · intro w _; go_simp; with_reducible rfl
      refine anyE_take (i := 1) (v := ?_) rfl (by kernel_rfl) (by kernel_rfl) (by kernel_rfl) (by kernel_rfl) (by kernel_rfl) (fun _ _ _ h => h) (Or.inl ⟨by kernel_rfl, ?_⟩) HS ?_
      rotate_left
      · intro w hw; have hw := hw.1; go_simp; with_reducible rfl
      refine anyE_take (i := 3) (v := ?_) rfl (by kernel_rfl) (by kernel_rfl) (by kernel_rfl) (by kernel_rfl) (by kernel_rfl) (fun _ _ _ h => h) (Or.inl ⟨by kernel_rfl, ?_⟩) HS ?_
      rotate_left
      · intro w hw; have hw := hw.2.2.1; go_simp; with_reducible rfl
      refine anyE_take (i := 6) (v := ?_) rfl (by kernel_rfl) (by kernel_rfl) (by kernel_rfl) (by kernel_rfl) (by kernel_rfl) (fun _ _ _ h => h) (Or.inl ⟨by kernel_rfl, ?_⟩) HS ?_
      rotate_left
      · intro w hw; have hw := hw.2.1; go_simp; with_reducible rfl
      refine anyE_take (i := 8) (v := ?_) rfl (by kernel_rfl) (by kernel_rfl) (by kernel_rfl) (by kernel_rfl) (by kernel_rfl) (fun _ _ _ h => h) (Or.inl ⟨by kernel_rfl, ?_⟩) HS ?_
      rotate_left
      · intro w hw; have hw := hw.2.2.2; go_simp; with_reducible rfl
      refine anyE_ready (rs := [4]) (by kernel_rfl) (by simp) ?_
      refine ReadyE.cons rfl (by kernel_rfl) (fun K hK => ?_) ReadyE.nil
      go_simp
      go_at_call 113
      refine (hadd _ _ _ hcf hy1).mono ?_
      rintro e w5 ⟨rfl, rfl⟩
      refine hK.out _ _ (fun _ => HS) ?_
      clear hK K
      refine anyE_take (i := 10) (v := ?_) rfl (by kernel_rfl) (by kernel_rfl) (by kernel_rfl) (by kernel_rfl) (by kernel_rfl) (fun _ _ _ h => h) (Or.inl ⟨by kernel_rfl, ?_⟩) HS ?_
      rotate_left
      · intro w _; go_simp; with_reducible rfl
      refine anyE_ready (rs := [9]) (by kernel_rfl) (by simp) ?_
      refine ReadyE.cons rfl (by kernel_rfl) (fun K hK => ?_) ReadyE.nil
      go_simp
      go_at_call 113
      refine (hadd _ _ _ hsf hy2).mono ?_
      rintro e w5 ⟨rfl, rfl⟩
      refine hK.out _ _ (fun _ => HS) ?_
      clear hK K
      refine anyE_rest (by kernel_rfl) ?_
      refine wpAny_ready (rs := [11]) (by kernel_rfl) (by simp) ?_
      refine AllReady.cons rfl (fun K hK => ?_) AllReady.nil
      go_simp
      refine hK _ _ ?_
      clear hK K
      refine wpAny_take (i := 12) (v := ?_) rfl (by kernel_rfl) (by kernel_rfl) (by kernel_rfl) (fun _ _ _ h => h) (Or.inl ⟨by kernel_rfl, ?_⟩) ?_
      rotate_left
      · intro w; go_simp; with_reducible rfl
      refine wpAny_ready (rs := [13]) (by kernel_rfl) (by simp) ?_
      refine AllReady.cons rfl (fun K hK => ?_) AllReady.nil
      go_simp
      refine hK _ _ ?_
      clear hK K
      refine wpAny_done (by kernel_rfl) ?_ _
      have kA := ((k0.below hb3 k0.lt).alloc (.cells #[.int .i64 yc, .int .i64 ys, .int .i64 yr] 115))
      have kB := ((k1.below hb3 k1.lt).alloc (.cells #[.int .i64 yc, .int .i64 ys, .int .i64 yr] 115))
      have hsz := hb3.size
      have hB4 : Below w.heap.size w (w3.alloc (.cells #[.int .i64 yc, .int .i64 ys, .int .i64 yr] 115)) := (hB.trans (hb3.mono hB.size)).alloc (by omega) _
      have HE : Hid (WbR w.heap.size S F i #[.int .i64 lf, .slice (some a) F.length cp, .float .f64 wt] w (k + 1) (((w3.alloc (.cells #[.int .i64 yc, .int .i64 ys, .int .i64 yr] 115)).setCell ⟨w.heap.size + 2, 0, none⟩ (.int .i64 (min (cn + yc) Far : Nat))).setCell ⟨w.heap.size + 2, 1, none⟩ (.int .i64 (min (sn + ys) Far : Nat))).drew) := Lib.hid (by
        have e1 : min (cS S (F.take (k + 1))) Far = min (cn + yc) Far := by have h1 := HS1.out; have h2 := HCN.out; omega
        have e2 : min (1 + sS S (F.take (k + 1))) Far = min (sn + ys) Far := by have h1 := HS2.out; have h2 := HSN.out; omega
        refine ⟨(((hB4.setCell (p := ⟨w.heap.size + 2, 0, none⟩) (by show w.heap.size ≤ w.heap.size + 2; omega) _).setCell (p := ⟨w.heap.size + 2, 1, none⟩) (by show w.heap.size ≤ w.heap.size + 2; omega) _)).drew, ?_, ?_, ?_, ?_⟩
        · exact (kA.far (p := ⟨w.heap.size + 2, 0, none⟩) (by show w.heap.size ≠ w.heap.size + 2; omega) _).far (p := ⟨w.heap.size + 2, 1, none⟩) (by show w.heap.size ≠ w.heap.size + 2; omega) _
        · exact (kB.far (p := ⟨w.heap.size + 2, 0, none⟩) (by show w.heap.size + 1 ≠ w.heap.size + 2; omega) _).far (p := ⟨w.heap.size + 2, 1, none⟩) (by show w.heap.size + 1 ≠ w.heap.size + 2; omega) _
        · rw [e1, e2]
          exact (k2'.set_ 0 _).set_ 1 _
        · show w.heap.size + 3 ≤ ((((w3.alloc _).setCell _ _).setCell _ _).drew).heap.size
          have : (((w3.alloc (.cells #[.int .i64 yc, .int .i64 ys, .int .i64 yr] 115)).setCell ⟨w.heap.size + 2, 0, none⟩ (.int .i64 (min (cn + yc) Far : Nat))).setCell ⟨w.heap.size + 2, 1, none⟩ (.int .i64 (min (sn + ys) Far : Nat))).drew.heap.size = w3.heap.size + 1 := by simp
          rw [this]; omega)
      clear kA kB hB4 HS d0 d1 e0 e1 f0 f1
      go_wp2
      exact ⟨⟨k + 1, hlt, congrArg (Value.int .i64) (by omega), HE.out⟩, by simp only [intOf]; omega⟩
    · obtain rfl : k = F.length := by omega
      rw [List.take_length] at k2 d0 d1
      by_cases hc : Far ≤ cS S F
      · have hway : wayB S i F = noW := by unfold wayB; rw [if_pos hc]
        have e1 : ((min (cS S F) Far : Nat) : Int) = 1073741824 := by rw [Nat.min_eq_right hc]; rfl
        rw [e1] at k2 d0
        have HWY := Lib.hid hway
        clear e1 hway d1 d2 f0 f1
        go_wp2_with fail
        refine (none_any _).mono ?_
        rintro e w4 ⟨rfl, hb4⟩
        have k4 := k1.below hb4 k1.lt
        have g0 := k4.cell 0
        have g1 := k4.cell 1
        have g2 := k4.cell 2
        have g3 := k4.frozen 0
        have g4 := k4.frozen 1
        have g5 := k4.frozen 2
        simp only [List.getElem?_toArray, List.getElem?_cons_zero, List.getElem?_cons_succ] at g0 g1 g2
        unfold WayV
        go_wp2
        refine bodyPost_ret (v := WayV noW) (by simp [results, Try.results108, go_sem, WayV, noW, Far, *]) rfl ?_
        exact ⟨by rw [HWY.out], (((hB.trans (hb4.mono hB.size)).setCell (p := ⟨w.heap.size + 1, 0, none⟩) (by show w.heap.size ≤ w.heap.size + 1; omega) _).setCell (p := ⟨w.heap.size + 1, 1, none⟩) (by show w.heap.size ≤ w.heap.size + 1; omega) _).setCell (p := ⟨w.heap.size + 1, 2, none⟩) (by show w.heap.size ≤ w.heap.size + 1; omega) _⟩
      · have hway : wayB S i F = (cS S F, min (1 + sS S F) Far, (i : Int)) := by unfold wayB; rw [if_neg hc]
        have e1 : min (cS S F) Far = cS S F := by omega
        rw [e1] at k2 d0
        have hne : (((cS S F : Nat) : Int) == 1073741824) = false := by rw [beq_eq_false_iff_ne]; unfold Far at hc; omega
        have HWY := Lib.hid hway
        clear e1 hway hc
        generalize cS S F = cf at *
        generalize min (1 + sS S F) Far = sf at *
        have g0 := k1.cell 0
        have g1 := k1.cell 1
        have g2 := k1.cell 2
        have g3 := k1.frozen 0
        have g4 := k1.frozen 1
        have g5 := k1.frozen 2
        simp only [List.getElem?_toArray, List.getElem?_cons_zero, List.getElem?_cons_succ] at g0 g1 g2
        go_wp2
        refine bodyPost_ret (v := WayV (cf, sf, (i : Int))) (by simp [results, Try.results108, go_sem, WayV, *]) rfl ?_
        exact ⟨by rw [HWY.out], ((hB.setCell (p := ⟨w.heap.size + 1, 0, none⟩) (by show w.heap.size ≤ w.heap.size + 1; omega) _).setCell (p := ⟨w.heap.size + 1, 1, none⟩) (by show w.heap.size ≤ w.heap.size + 1; omega) _).setCell (p := ⟨w.heap.size + 1, 2, none⟩) (by show w.heap.size ≤ w.heap.size + 1; omega) _⟩
end Go.Proofs.Ytljkobijoenabaa.dv
namespace Go.Proofs
section
open Go.Shelf
def Try.lays212_ren : Go.Shelf.Ren := ⟨fun | 212 => 98 | 263 => 110 | 264 => 111 | n => n, fun | 46 => 105 | 51 => 127 | 146 => 128 | 53 => 94 | 148 => 130 | n => n, fun | n => n⟩
theorem Try.lays212 : Go.Proofs.Lays.n212 Try.prog Try.lays212_ren := {
  mixed := by kernel_rfl
  f212 := Try.func98.trans (congrArg some (by kernel_rfl))
  f263 := Try.func110.trans (congrArg some (by kernel_rfl))
  f264 := Try.func111.trans (congrArg some (by kernel_rfl))
  t46 := Try.underlying105
  a46 := Try.isAgg105
  z46 := Try.sizeOf105
  v46 := Try.zeroValue105
  t51 := Try.underlying127
  a51 := Try.isAgg127
  z51 := Try.sizeOf127
  v51 := Try.zeroValue127
  t53 := Try.underlying94
  a53 := Try.isAgg94
  z53 := Try.sizeOf94
  v53 := Try.zeroValue94
  t146 := Try.underlying128
  a146 := Try.isAgg128
  z146 := Try.sizeOf128
  v146 := Try.zeroValue128
  t148 := Try.underlying130
  a148 := Try.isAgg130
  z148 := Try.sizeOf130
  v148 := Try.zeroValue130 }
end
namespace Ytljkobijoenabaa.dv
open Go.ChangeShapes Go.WideShapes Go.ChangeAt Go.RowKit Go.Maps Go.WideMaps Go.WideElems Go.Shelf
set_option linter.unusedVariables false
set_option linter.unusedSimpArgs false
/-! ways in a row of one's own; slices.Repeat of one -/
def cW (x : Way) : List Value := [.int .i64 (x.1 : Int), .int .i64 (x.2.1 : Int), .int .i64 x.2.2]
def WV (S : List Way) : List Value := S.flatMap cW
theorem wv_cons (x : Way) (S : List Way) : WV (x :: S) = .int .i64 (x.1 : Int) :: .int .i64 (x.2.1 : Int) :: .int .i64 x.2.2 :: WV S := rfl
theorem wv_app (S T : List Way) : WV (S ++ T) = WV S ++ WV T := by unfold WV; rw [List.flatMap_append]
theorem wv_len : ∀ S : List Way, (WV S).length = S.length * 3
  | [] => rfl
  | x :: S => by rw [wv_cons]; simp only [List.length_cons, wv_len S]; omega
theorem wv_at : ∀ (S : List Way) (i : Nat), i < S.length → (WV S)[i * 3]? = some (.int .i64 ((S.getD i noW).1 : Int)) ∧ (WV S)[i * 3 + 1]? = some (.int .i64 ((S.getD i noW).2.1 : Int)) ∧ (WV S)[i * 3 + 2]? = some (.int .i64 (S.getD i noW).2.2)
  | x :: S, 0, _ => ⟨rfl, rfl, rfl⟩
  | x :: S, i + 1, h => by
    obtain ⟨h1, h2, h3⟩ := wv_at S i (by simpa using h)
    rw [wv_cons, show (i + 1) * 3 = i * 3 + 1 + 1 + 1 by omega]
    exact ⟨by simpa using h1, by rw [show i * 3 + 1 + 1 + 1 + 1 = (i * 3 + 1) + 1 + 1 + 1 by omega]; simpa using h2, by rw [show i * 3 + 1 + 1 + 1 + 2 = (i * 3 + 2) + 1 + 1 + 1 by omega]; simpa using h3⟩
theorem wv_set : ∀ (S : List Way) (i : Nat) (y : Way), i < S.length → (((WV S).set (i * 3) (.int .i64 (y.1 : Int))).set (i * 3 + 1) (.int .i64 (y.2.1 : Int))).set (i * 3 + 2) (.int .i64 y.2.2) = WV (S.set i y)
  | x :: S, 0, y, _ => rfl
  | x :: S, i + 1, y, h => by
    have h1 := wv_set S i y (by simpa using h)
    rw [List.set_cons_succ, wv_cons, wv_cons, ← h1, show (i + 1) * 3 = i * 3 + 1 + 1 + 1 by omega, show i * 3 + 1 + 1 + 1 + 1 = (i * 3 + 1) + 1 + 1 + 1 by omega, show i * 3 + 1 + 1 + 1 + 2 = (i * 3 + 2) + 1 + 1 + 1 by omega]
    simp only [List.set_cons_succ]
theorem wv_inj : ∀ (S T : List Way), WV S = WV T → S = T
  | [], [], _ => rfl
  | [], y :: T, h => by rw [wv_cons] at h; cases h
  | x :: S, [], h => by rw [wv_cons] at h; cases h
  | x :: S, y :: T, h => by
    rw [wv_cons, wv_cons] at h
    simp only [List.cons.injEq, Value.int.injEq, true_and] at h
    obtain ⟨h1, h2, h3, h4⟩ := h
    rw [wv_inj S T h4]
    obtain ⟨a, b, c⟩ := x
    obtain ⟨a', b', c'⟩ := y
    simp only at h1 h2 h3
    rw [show a = a' by omega, show b = b' by omega, h3]
theorem wv_one (S : List Way) : ∀ v ∈ WV S, v.oneCell' = true := fun v hv => by
  unfold WV at hv
  obtain ⟨x, _, hx⟩ := List.mem_flatMap.1 hv
  simp only [cW, List.mem_cons, List.not_mem_nil, or_false] at hx
  rcases hx with rfl | rfl | rfl <;> rfl
theorem mod3 (n : Nat) : (n * 3) % 3 = 0 ∧ (n * 3 + 1) % 3 = 1 ∧ (n * 3 + 2) % 3 = 2 := by omega
theorem toList_made3 (a b c : Value) (y : Way) (h : cW y = [a, b, c]) : ∀ n, (madeCells #[a, b, c] (n * 3)).toList = WV (List.replicate n y) := fun n => by
  have hlen : (WV (List.replicate n y)).length = n * 3 := by rw [wv_len]; simp
  apply List.ext_getElem (by simp [madeCells, hlen])
  intro i h1 h2
  have hi : i < n * 3 := by rw [hlen] at h2; exact h2
  have hq : i / 3 < n := by omega
  obtain ⟨g0, g1, g2⟩ := wv_at (List.replicate n y) (i / 3) (by simpa using hq)
  have hy : (List.replicate n y).getD (i / 3) noW = y := by rw [List.getD_eq_getElem?_getD, List.getElem?_replicate, if_pos hq]; rfl
  rw [hy] at g0 g1 g2
  simp only [cW, List.cons.injEq, and_true] at h
  obtain ⟨rfl, rfl, rfl⟩ := h
  have hc : i % 3 = 0 ∨ i % 3 = 1 ∨ i % 3 = 2 := by omega
  rw [List.getElem?_eq_some_iff] at g0 g1 g2
  obtain ⟨p0, g0⟩ := g0
  obtain ⟨p1, g1⟩ := g1
  obtain ⟨p2, g2⟩ := g2
  rcases hc with c | c | c
  · have e : i = i / 3 * 3 := by omega
    simp only [madeCells, Array.toList_ofFn, List.getElem_ofFn]
    simp [c]
    simp only [← e] at g0
    exact g0.symm
  · have e : i = i / 3 * 3 + 1 := by omega
    simp only [madeCells, Array.toList_ofFn, List.getElem_ofFn]
    simp [c]
    simp only [← e] at g1
    exact g1.symm
  · have e : i = i / 3 * 3 + 2 := by omega
    simp only [madeCells, Array.toList_ofFn, List.getElem_ofFn]
    simp [c]
    simp only [← e] at g2
    exact g2.symm
theorem run_copy_n {P : Program} (size : Nat) (w : World) (dT sT ty elem : TypeId) (g o dLen dCap : Nat) (a : Addr) (sLen sCap : Nat) (cur : Array Value) (t : TypeId) (cs : List Value)
    (hu : P.underlying dT = some (.slice elem)) (hs : (P.info? elem).map (·.size) = some size)
    (hg : w.heap[g]? = some (.cells cur t (0, 0))) (hn : cs.length = Nat.min sLen dLen * size)
    (hsrc : ∀ j v, cs[j]? = some v → w.cell? (a.add j) = some v) (hfit : o + cs.length ≤ cur.size) (h1 : ∀ v ∈ cs, v.oneCell' = true) :
    (Builtin.copy_ #[dT, sT] ty #[.slice (some ⟨g, o, none⟩) dLen dCap, .slice (some a) sLen sCap]).run P w =
      .ok (goInt (Nat.min sLen dLen)) (w.setRow g (cur.toList.take o ++ cs ++ cur.toList.drop (o + cs.length)).toArray) := by
  have hl := run_loadCells_list (P := P) w a cs hsrc
  have hst := run_storeCells_at P g o t cs 0 cur w hg (by simpa using hfit) h1
  cases hq : P.info? elem with
  | none => simp [hq] at hs
  | some i =>
    have hi : i.size = size := by simpa [hq] using hs
    simp [Builtin.copy_, run_underlying hu, Builtin.lenOf, Builtin.firstCells, sizeOf, typeInfo, hq, hi, ← hn, hl, hst]
end Ytljkobijoenabaa.dv
end Go.Proofs
namespace Go.Proofs.Ytljkobijoenabaa.dv
open Go.ChangeShapes Go.WideShapes Go.ChangeAt Go.RowKit Go.Maps Go.WideMaps Go.WideElems Go.Shelf
set_option linter.unusedVariables false
set_option linter.unusedSimpArgs false
/-! slices.Repeat of one way -/
theorem mul_any (w : World) (n : Nat) (hn : n < 9223372036854775808) : Calls Try.prog 98 #[.int .u64 1, .int .u64 n] w fun e w' => e = .returned (.tuple #[.int .u64 0, .int .u64 n]) ∧ w' = w := by
  refine (Any.bits_Mul Try.lays212 1 n (by decide) (by omega) w).mono ?_
  rintro e w' ⟨rfl, rfl⟩
  have e1 : 1 * n / 18446744073709551616 = 0 := by omega
  have e2 : 1 * n % 18446744073709551616 = n := by omega
  rw [e1, e2]
  exact ⟨rfl, rfl⟩
theorem info_way : (Try.prog.info? 115).map (fun i => (i.zero, i.size, i.bytes)) = some (some (.agg #[.int .i64 0, .int .i64 0, .int .i64 0]), 3, 24) := by kernel_rfl
theorem wp_copy_n {P : Program} (w : World) {o : Oper} {a : Act} {K : Act → World → Prop} {Q : Exit → Act → World → Prop} (d s : Operand) (t t' : TypeId)
    (ho : o.op = .call { callee := .builtin .copy, args := #[d, s], argTypes := #[t, t'] }) (v u : Value) (hd : a.eval d = v) (hs : a.eval s = u) {v' : Value} {w' : World}
    (hr : (Builtin.copy_ #[t, t'] o.type #[v, u]).run P w = .ok v' w') (h : K (a.put o.dst v') w') : o.wp P a w K Q := by
  unfold Oper.wp execOp
  simp only [ho, resolve, invoke, builtin, Sem.run_bind, Sem.run_pure, Result.andThen_ok, List.map_toArray, List.map_cons, List.map_nil, hd, hs, hr]
  exact h
theorem wpl_copy_n {P : Program} (w : World) {ops : Array Oper} {rest : List Oper} {o : Oper} {a : Act} {Q : Exit → Act → World → Prop} (hgd : o.guard = none) (d s : Operand) (t t' : TypeId)
    (ho : o.op = .call { callee := .builtin .copy, args := #[d, s], argTypes := #[t, t'] }) (v u : Value) (hd : a.eval d = v) (hs : a.eval s = u) {v' : Value} {w' : World}
    (hr : (Builtin.copy_ #[t, t'] o.type #[v, u]).run P w = .ok v' w') (h : wpList P ops Q rest (a.put o.dst v') w') : wpList P ops Q (o :: rest) a w :=
  wpList_plain hgd fun _ hK => wp_copy_n w d s t t' ho v u hd hs hr (hK _ _ h)
theorem step_copy_n {P : Program} (w : World) {ops : Array Oper} {o : Oper} {a : Act} {K : Act → World → Prop} {Q : Exit → Act → World → Prop} {E : Prop} (hgd : o.guard = none) (d s : Operand) (t t' : TypeId)
    (ho : o.op = .call { callee := .builtin .copy, args := #[d, s], argTypes := #[t, t'] }) (v u : Value) (hd : a.eval d = v) (hs : a.eval s = u) {v' : Value} {w' : World}
    (hr : (Builtin.copy_ #[t, t'] o.type #[v, u]).run P w = .ok v' w') (h : K (a.put o.dst v') w') : if Region.wanted o (yielded ops a.tmps) = true then Oper.wp P o a w K Q else E := by
  have hw : Region.wanted o (yielded ops a.tmps) = true := by simp [Region.wanted, hgd]
  rw [if_pos hw]
  exact wp_copy_n w d s t t' ho v u hd hs hr h
theorem wv_take (a b : List Way) (m : Nat) (h : m = a.length * 3) : (WV (a ++ b)).take m = WV a := by
  subst h
  rw [wv_app, ← wv_len, List.take_left]
theorem wv_drop (a b : List Way) (m : Nat) (h : m = a.length * 3) : (WV (a ++ b)).drop m = WV b := by
  subst h
  rw [wv_app, ← wv_len, List.drop_left]
def zW : Way := (0, 0, 0)
def WaysAt (w : World) (B m : Nat) (v : Value) (S : List Way) : Prop := (∃ cap, v = .slice (some ⟨m, 0, none⟩) S.length cap) ∧ w.ownsRow B 115 3 v S.length (WV S)
def RepR (B m n : Nat) (y : Way) (w : World) (q : Value) (wr : World) : Prop := ∃ k : Nat, 0 < k ∧ k ≤ n ∧ q = .int .i64 k ∧ wr.heap[m]? = some (.cells (WV (List.replicate k y ++ List.replicate (n - k) zW)).toArray 115 (0, 0)) ∧ Below B w wr
set_option maxRecDepth 100000 in
/-- what copy does to a row of ways -/
theorem copy_ways (W : World) (B g n k m o dLen dCap sLen sCap : Nat) (a : Addr) (y : Way) (ty : TypeId) (hg : W.heap[g]? = some (.cells (WV (List.replicate k y ++ List.replicate (n - k) zW)).toArray 115 (0, 0))) (hk : k ≤ n) (ho : o = k * 3) (hm : m = Nat.min sLen dLen) (hkm : k + m ≤ n)
    (hsrc : ∀ j v, (WV (List.replicate m y))[j]? = some v → W.cell? (a.add j) = some v) (hB : B ≤ g) :
    ∃ w', (Builtin.copy_ #[112, 112] ty #[.slice (some ⟨g, o, none⟩) dLen dCap, .slice (some a) sLen sCap]).run Try.prog W = .ok (.int .i64 (m : Int)) w' ∧ w'.heap[g]? = some (.cells (WV (List.replicate (k + m) y ++ List.replicate (n - (k + m)) zW)).toArray 115 (0, 0)) ∧ Below B W w' := by
  have hlm : (WV (List.replicate m y)).length = m * 3 := by rw [wv_len]; simp
  have hlen : (WV (List.replicate k y ++ List.replicate (n - k) zW)).length = n * 3 := by rw [wv_len]; simp; omega
  have h := run_copy_n (P := Try.prog) 3 W 112 112 ty 115 g o dLen dCap a sLen sCap _ 115 (WV (List.replicate m y)) Try.underlying112 (by kernel_rfl) hg (by rw [hlm, hm]) hsrc (by rw [hlm, ho]; simp only [List.size_toArray, hlen]; omega) (wv_one _)
  refine ⟨_, by rw [h, ← hm]; rfl, ?_, below_setRow (Below.refl _ _) hB _⟩
  rw [setRow_heap W g _ _ 115 _ hg]
  refine congrArg (fun l : List Value => some (Obj.cells l.toArray 115 (0, 0))) ?_
  have e1 : List.replicate (n - k) zW = List.replicate m zW ++ List.replicate (n - (k + m)) zW := by rw [List.replicate_append_replicate]; congr 1; omega
  rw [wv_take _ _ o (by simpa using ho), e1, ← List.append_assoc (List.replicate k y), wv_drop _ _ (o + (WV (List.replicate m y)).length) (by rw [hlm, ho]; simp; omega), ← wv_app, ← wv_app]
  congr 2
  rw [List.replicate_append_replicate]
set_option maxRecDepth 100000 in
set_option maxHeartbeats 2000000 in
theorem repeat_any (w : World) (so : Addr) (y : Way) (n : Nat) (hn : n ≤ 1000) (hs : so.block < w.heap.size) (hc : ∀ j v, (cW y)[j]? = some v → w.cell? (so.add j) = some v) :
    Calls Try.prog 105 #[.slice (some so) 1 1, .int .i64 n] w fun e w' => ∃ v, e = .returned v ∧ WaysAt w' w.heap.size w.heap.size v (List.replicate n y) ∧ Below w.heap.size w w' := by
  obtain ⟨i0, hi, hz0, hz1, hz2⟩ := info_parts info_way
  have hmul := mul_any w n (by omega)
  have hw1 : IntKind.u64.wrap (n : Int) = (n : Int) := by rw [IntKind.wrap_u64]; omega
  have hn0 : decide ((n : Int) < 0) = false := decide_eq_false (by omega)
  have hov : decide ((9223372036854775807 : Int) < (n : Int)) = false := decide_eq_false (by omega)
  have hsz : (Try.prog.info? 115).map (·.size) = some 3 := by kernel_rfl
  have HC := Lib.hid hc
  clear hc
  go_enter Try.func105, Try.ntmps105
  go_wp2_with fail
  refine hmul.mono ?_
  rintro e w' ⟨rfl, hw'⟩
  obtain rfl : w = w' := hw'.symm
  clear hw'
  by_cases h0 : n = 0
  · subst h0
    have hcp : ∀ (W : World) (ty : TypeId) (g : Nat), (Builtin.copy_ #[112, 112] ty #[.slice (some ⟨g, 0, none⟩) 0 0, .slice (some so) 1 1]).run Try.prog W = .ok (goInt 0) W := fun W ty g => by
      have hq := hi
      simp [Builtin.copy_, run_underlying Try.underlying112, Builtin.lenOf, Builtin.firstCells, sizeOf, typeInfo, hq, storeCells, loadCells, loadCellsFrom]
    go_wp2_with (first | (at_make; refine wpList_make_full _ rfl _ _ 112 rfl w.heap.size 115 i0 (.agg #[.int .i64 0, .int .i64 0, .int .i64 0]) 3 Try.underlying112 hi hz0 hz1 .i64 .i64 _ _ 0 rfl rfl rfl rfl (by rw [hz2]; omega) (by unfold maxLen; omega) (Nat.le_refl _) ?_; intro w1 hown1 hgrow1) | (refine wpl_copy_n _ rfl _ _ 112 112 rfl _ _ rfl rfl (hcp _ _ _) ?_))
    go_rounds 1
    go_ret
    exact ⟨_, rfl, ⟨⟨0, rfl⟩, by simpa [madeCells, WV] using hown1⟩, (Below.refl _ w).grown hgrow1 (Nat.le_refl _) (fun k e => by cases e)⟩
  · have hpos : 0 < n := by omega
    have hcp : ∀ w1 : World, w1.ownsRow w.heap.size 115 3 (.slice (some ⟨w.heap.size, 0, none⟩) n n) n (madeCells (Value.agg #[.int .i64 0, .int .i64 0, .int .i64 0]).cells (n * 3)).toList → w.grownBy w1 none → ∃ w', (Builtin.copy_ #[112, 112] 3 #[.slice (some ⟨w.heap.size, 0, none⟩) n n, .slice (some so) 1 1]).run Try.prog w1 = .ok (.int .i64 1) w' ∧ w'.heap[w.heap.size]? = some (.cells (WV (List.replicate 1 y ++ List.replicate (n - 1) zW)).toArray 115 (0, 0)) ∧ Below w.heap.size w w' := fun w1 hown hg => by
      rw [show (Value.agg #[Value.int .i64 0, .int .i64 0, .int .i64 0]).cells = #[.int .i64 0, .int .i64 0, .int .i64 0] from rfl, toList_made3 (.int .i64 0) (.int .i64 0) (.int .i64 0) zW rfl n] at hown
      have hb1 : Below w.heap.size w w1 := (Below.refl _ w).grown hg (Nat.le_refl _) (fun k e => by cases e)
      rcases hown.2 with ⟨h', _⟩ | ⟨g', cap', cur, h', _, hh, _, _, hcs, htk⟩
      · cases h'
      · cases h'
        have hcur : cur = (WV (List.replicate 0 y ++ List.replicate (n - 0) zW)).toArray := by
          apply Array.toList_inj.1
          rw [List.take_of_length_le (by rw [Array.length_toList, hcs]; exact Nat.le_refl _)] at htk
          simpa using htk
        rw [hcur] at hh
        obtain ⟨w', h1, h2, h3⟩ := copy_ways w1 w.heap.size w.heap.size n 0 1 0 n n 1 1 so y 3 hh (Nat.zero_le _) rfl (by show 1 = min 1 n; omega) (by omega) (fun j v hj => (hb1.cell (p := so.add j) (by rw [add_block]; exact hs)).trans (HC.out j v (by simpa [WV] using hj))) (Nat.le_refl _)
        exact ⟨w', h1, by simpa using h2, hb1.trans h3⟩
    have HCP := Lib.hid hcp
    clear hcp
    go_wp2_with (first | (at_make; refine wpList_make_full _ rfl _ _ 112 rfl w.heap.size 115 i0 (.agg #[.int .i64 0, .int .i64 0, .int .i64 0]) 3 Try.underlying112 hi hz0 hz1 .i64 .i64 _ _ n rfl rfl rfl rfl (by rw [hz2]; omega) (by unfold maxLen; omega) (Nat.le_refl _) ?_; intro w1 hown1 hgrow1; obtain ⟨w2, hr2, hh2, hb2⟩ := HCP.out w1 hown1 hgrow1; have HH2 := Lib.hid hh2; clear hh2 hown1 hgrow1))
    go_loopw [8] (fun q wr => RepR w.heap.size w.heap.size n y w q wr) (fun q _ => n - (intOf q).toNat)
    case atStart => exact ⟨1, by omega, by omega, rfl, HH2.out, hb2⟩
    case round =>
      obtain ⟨k, hk0, hkn, rfl, hh, hb⟩ := hrel
      have HH := Lib.hid hh
      clear hh
      by_cases hlt : k < n
      · have hne : (n = k) = False := by simp; omega
        have hne2 : (k = n) = False := by simp; omega
        have hi0 : (0 : Int) ≤ (k : Int) := by omega
        have hi1 : (k : Int) ≤ (n : Int) := by omega
        have hpre : ∀ j v, (WV (List.replicate (Nat.min k (n - k)) y))[j]? = some v → wr.drew.cell? ((⟨w.heap.size, 0, none⟩ : Addr).add j) = some v := fun j v hj => by
          have hl := (List.getElem?_eq_some_iff.1 hj).1
          have hle : Nat.min k (n - k) ≤ k := Nat.min_le_left _ _
          have e1 : List.replicate k y = List.replicate (Nat.min k (n - k)) y ++ List.replicate (k - Nat.min k (n - k)) y := by rw [List.replicate_append_replicate]; congr 1; omega
          have e2 : (⟨w.heap.size, 0, none⟩ : Addr).add j = ⟨w.heap.size, j, none⟩ := by unfold Addr.add; by_cases h : j = 0 <;> simp [h]
          rw [e2]
          refine (cell_of_row wr w.heap.size j _ 115 (0, 0) HH.out).trans ?_
          rw [e1, List.append_assoc, wv_app, List.getElem?_toArray, List.getElem?_append_left hl]
          exact hj
        obtain ⟨m, hm⟩ : ∃ m, m = Nat.min k (n - k) := ⟨_, rfl⟩
        have hm1 : 0 < m ∧ k + m ≤ n := by
          have : m = min k (n - k) := hm
          omega
        rw [← hm] at hpre
        obtain ⟨w3, hr3, hh3, hb3⟩ := copy_ways wr.drew w.heap.size w.heap.size n k m (k * 3) (n - k) (n - k) k n ⟨w.heap.size, 0, none⟩ y 3 HH.out (by omega) rfl hm hm1.2 hpre (Nat.le_refl _)
        have HH3 := Lib.hid hh3
        have hsum : IntKind.i64.wrap ((k : Int) + (m : Int)) = (k : Int) + (m : Int) := by rw [IntKind.wrap_i64]; omega
        have HB3 := Lib.hid (hb.drew.trans hb3)
        clear hpre hm hh3 hb3
        go_wp2
        go_region
        all_goals go_wp2
        exact ⟨⟨k + m, by omega, hm1.2, congrArg (Value.int .i64) (by omega), HH3.out, HB3.out⟩, by simp only [intOf]; omega⟩
      · obtain rfl : k = n := by omega
        have hcs : (WV (List.replicate k y)).length = k * 3 := by rw [wv_len]; simp
        have hh := HH.out
        rw [Nat.sub_self, List.replicate_zero, List.append_nil] at hh
        have HW : Hid (WaysAt wr w.heap.size w.heap.size (.slice (some ⟨w.heap.size, 0, none⟩) k k) (List.replicate k y)) := Lib.hid ⟨⟨k, by simp⟩, by
          rw [List.length_replicate]
          exact ⟨hcs, .inr ⟨w.heap.size, k, _, rfl, Nat.le_refl _, hh, Nat.le_refl _, by unfold maxLen; omega, by simpa using hcs, by rw [← hcs]; simp⟩⟩⟩
        clear hh hcs
        go_wp2
        go_ret
        exact ⟨_, rfl, HW.out, hb⟩
end Go.Proofs.Ytljkobijoenabaa.dv
namespace Go.Proofs.Ytljkobijoenabaa.dv
open Go.ChangeShapes Go.WideShapes Go.ChangeAt Go.RowKit Go.Maps Go.WideMaps Go.WideElems
set_option linter.unusedVariables false
set_option linter.unusedSimpArgs false
/-! the closure of ways: a better way is taken -/
attribute [local go_sem] run_store_fl
theorem ways_alloc {w : World} {B m : Nat} {v : Value} {S : List Way} (h : WaysAt w B m v S) (o : Obj) : WaysAt (w.alloc o) B m v S := ⟨h.1, h.2.alloc o⟩
theorem row_lt {w : World} {B size g n cap : Nat} {e : TypeId} {xs : List Value} (h : w.ownsRow B e size (.slice (some ⟨g, 0, none⟩) n cap) n xs) : g < w.heap.size ∧ n ≤ cap ∧ cap ≤ maxLen := by
  rcases h.2 with ⟨h', _⟩ | ⟨g', cap', cur, h', _, hg, hnc, hcm, _⟩
  · cases h'
  · cases h'
    exact ⟨(Array.getElem?_eq_some_iff.1 hg).1, hnc, hcm⟩
theorem ways_lt {w : World} {B m : Nat} {v : Value} {S : List Way} (h : WaysAt w B m v S) : m < w.heap.size := by
  obtain ⟨⟨cap, rfl⟩, ho⟩ := h
  exact (row_lt ho).1
theorem ways_below {w w' : World} {B m : Nat} {v : Value} {S : List Way} (h : WaysAt w B m v S) (hb : Below w.heap.size w w') : WaysAt w' B m v S := ⟨h.1, ownsRow_keep h.2 (fun g hg _ => hb.block g hg)⟩
theorem ways_weak {w : World} {B B' m : Nat} {v : Value} {S : List Way} (h : WaysAt w B m v S) (hb : B' ≤ B) : WaysAt w B' m v S := ⟨h.1, own_weak h.2 hb⟩
theorem ways_cell {w : World} {B m cap : Nat} {S : List Way} (h : w.ownsRow B 115 3 (.slice (some ⟨m, 0, none⟩) S.length cap) S.length (WV S)) (i : Nat) (hi : i < S.length) : w.cell? ⟨m, i * 3, none⟩ = some (.int .i64 ((S.getD i noW).1 : Int)) ∧ w.cell? ⟨m, i * 3 + 1, none⟩ = some (.int .i64 ((S.getD i noW).2.1 : Int)) ∧ w.cell? ⟨m, i * 3 + 2, none⟩ = some (.int .i64 (S.getD i noW).2.2) := by
  obtain ⟨h1, h2, h3⟩ := wv_at S i hi
  exact ⟨(h.cellAt _ (by omega)).trans h1, (h.cellAt _ (by omega)).trans h2, (h.cellAt _ (by omega)).trans h3⟩
theorem zero_add_addr (m n : Nat) : (⟨m, 0, none⟩ : Addr).add n = ⟨m, n, none⟩ := by unfold Addr.add; by_cases h : n = 0 <;> simp [h]
theorem WaysAt.read {w : World} {B m : Nat} {v : Value} {S : List Way} (h : WaysAt w B m v S) : ReadW w v S := by
  have hlt := ways_lt h
  obtain ⟨⟨cap, rfl⟩, ho⟩ := h
  obtain ⟨_, h1, h2⟩ := row_lt ho
  refine ⟨_, cap, rfl, by omega, fun i hi => ⟨_, rfl, hlt, ?_⟩⟩
  obtain ⟨h1, h2, h3⟩ := ways_cell ho i hi
  rw [zero_add_addr, zero_add_addr, zero_add_addr]
  exact ⟨h1, h2, h3⟩
/-- the ways that the closure has: in a box, in block m, as they are made of one another -/
def StW (R : List Rl) (n B m bx : Nat) (S : List Way) (W : World) : Prop := Inv R n S ∧ bx < W.heap.size ∧ bx ≠ m ∧ ∃ v, W.heap[bx]? = some (.cells #[v] 112 (0, 0)) ∧ WaysAt W B m v S
theorem stW_alloc {R : List Rl} {n B m bx : Nat} {S : List Way} {W : World} (o : Obj) (h : StW R n B m bx S W) : StW R n B m bx S (W.alloc o) := by
  obtain ⟨h1, h3, h4, v, h5, h6⟩ := h
  exact ⟨h1, by rw [World.size_alloc]; omega, h4, v, (Below.heap_alloc W o bx h3).trans h5, ways_alloc h6 o⟩
theorem stW_below {R : List Rl} {n B m bx : Nat} {S : List Way} {W W' : World} (h : StW R n B m bx S W) (hb : Below W.heap.size W W') : StW R n B m bx S W' := by
  obtain ⟨h1, h3, h4, v, h5, h6⟩ := h
  exact ⟨h1, Nat.lt_of_lt_of_le h3 hb.size, h4, v, (hb.block bx h3).trans h5, ways_below h6 hb⟩
def muS (S : List Way) : Nat := (S.map fun x => x.1 * (Far + 1) + x.2.1).sum
theorem muS_set : ∀ (S : List Way) (k : Nat) (y : Way), k < S.length → ahd y (S.getD k noW) → y.2.1 ≤ Far → muS (S.set k y) < muS S
  | x :: S, 0, y, _, ha, hy => by
    unfold muS
    simp only [List.set_cons_zero, List.map_cons, List.sum_cons]
    unfold ahd at ha
    simp only [List.getD_cons_zero] at ha
    rcases ha with h | ⟨h, h2⟩
    · have : (y.1 + 1) * (Far + 1) ≤ x.1 * (Far + 1) := Nat.mul_le_mul_right _ h
      rw [Nat.add_mul, Nat.one_mul] at this
      omega
    · rw [h]; omega
  | x :: S, k + 1, y, hk, ha, hy => by
    have := muS_set S k y (by simpa using hk) (by simpa using ha) hy
    unfold muS at *
    simp only [List.set_cons_succ, List.map_cons, List.sum_cons]
    omega
theorem stW_mu {R : List Rl} {n B m bx : Nat} (X Y : List Way) (W : World) (h : StW R n B m bx X W) (k : StW R n B m bx Y W) : muS X = muS Y := by
  obtain ⟨h1, _, _, v, h5, ⟨c, hv⟩, h6⟩ := h
  obtain ⟨k1, _, _, u, k5, ⟨d, hu⟩, k6⟩ := k
  rw [h5] at k5
  cases k5
  subst hv
  have hl := h1.len
  have kl := k1.len
  have e : WV X = WV Y := by
    apply List.ext_getElem? 
    intro i
    by_cases hi : i < n * 3
    · have a := h6.cellAt i (by omega)
      have b' : W.cell? ⟨m, i, none⟩ = (WV Y)[i]? := by
        rw [hu] at k6
        exact k6.cellAt i (by omega)
      rw [← a, b']
    · rw [List.getElem?_eq_none (by rw [wv_len]; omega), List.getElem?_eq_none (by rw [wv_len]; omega)]
  rw [wv_inj _ _ e]
def SatW (R : List Rl) (S : List Way) (i : Nat) : Prop := ∀ r, R[i]? = some r → ¬ ahd (wayB S i r.right) (S.getD r.left.toNat noW)
theorem small_of {R : List Rl} {n : Nat} {S : List Way} (h : Inv R n S) : SmallW S := fun x => by
  unfold wat
  split
  · exact ⟨by decide, by decide⟩
  · exact h.small _
theorem wayB_steps (S : List Way) (i : Nat) (F : List Int) : (wayB S i F).2.1 ≤ Far := by
  unfold wayB
  split
  · exact Nat.le_refl _
  · exact Nat.min_le_right _ _
theorem goes_ways1 : Goes 107 := fun args w => enters_of Try.func107 (by kernel_rfl) rfl args w
set_option maxRecDepth 100000 in
set_option maxHeartbeats 4000000 in
theorem ways1_step (R : List Rl) (n B m bx B0 : Nat) (w : World) (hl : ∀ r ∈ R, 0 ≤ r.left ∧ r.left < n) (hlen : R.length ≤ maxLen) (hbm : B0 ≤ m) : StepOf R 107 #[.pointer (some ⟨bx, 0, none⟩)] m (StW R n B m bx) muS (SatW R) B0 w := by
  intro S i r ao cp W hbw hSt hrk hrow _
  obtain ⟨hI, hbx, hne, v, hbox, hmk⟩ := hSt
  obtain ⟨hl0, hl1⟩ := hl r (List.mem_of_getElem? hrk)
  have hil : i < R.length := (List.getElem?_eq_some_iff.1 hrk).1
  have hSl := hI.len
  have HSTEP := Lib.hid (fun ha => inv_step hI hrk hl0 (by omega) ha)
  have HI := Lib.hid hI
  have hsmall := small_of hI
  obtain ⟨lf, F, wt⟩ := r
  dsimp only at hl0 hl1 hrow
  obtain ⟨k, rfl⟩ : ∃ k : Nat, lf = k := ⟨lf.toNat, by omega⟩
  have hA : Below W.heap.size W (W.alloc (.cells #[.int .i64 k, .slice ao F.length cp, .float .f64 wt] 52)) := (Below.refl _ W).alloc (Nat.le_refl _) _
  have b0 := Blk.new W 52 #[.int .i64 k, .slice ao F.length cp, .float .f64 wt]
  have hbx2 : Blk W bx 112 #[v] := hbox
  have hwb := wayBy_any (W.alloc (.cells #[.int .i64 k, .slice ao F.length cp, .float .f64 wt] 52)) i ⟨k, F, wt⟩ ao cp v S (hrow.below hA) ((hmk.read).below hA) hsmall
  have c0 := b0.cell 0
  have c1 := b0.cell 1
  have c2 := b0.cell 2
  have c3 := (hbx2.below hA hbx).cell 0
  simp only [List.getElem?_toArray, List.getElem?_cons_zero, List.getElem?_cons_succ] at c0 c1 c2 c3
  have HMK := Lib.hid hmk
  have hmlt := ways_lt hmk
  have HBX := Lib.hid hbx2
  obtain ⟨⟨vc, rfl⟩, _⟩ := hmk
  have hkS : k < S.length := by omega
  unfold RlV at hwb ⊢
  have hST := wayB_steps S i F
  dsimp only at hwb
  have HW0 : Hid (∃ y, y = wayB S i F) := Lib.hid ⟨_, rfl⟩
  obtain ⟨y, hy⟩ := HW0.out
  rw [← hy] at hwb hST
  have HY := Lib.hid hy
  have HSL := Lib.hid hSl
  clear hy HW0 hbox hbx2 hI hsmall hrow hSl hl hbw
  obtain ⟨y1, y2, y3⟩ := y
  unfold WayV at hwb
  dsimp only at hwb hST
  go_enter Try.func107, Try.ntmps107
  go_wp2_with fail
  refine hwb.mono ?_
  rintro e w2 ⟨rfl, hb2⟩
  have hW2 := hA.trans (hb2.mono (by simp))
  have hz2 : W.heap.size < w2.heap.size := by have := hb2.size; simp at this; omega
  have bn := Blk.new w2 115 #[.int .i64 y1, .int .i64 y2, .int .i64 y3]
  have hW3 : Below W.heap.size W (w2.alloc (.cells #[.int .i64 y1, .int .i64 y2, .int .i64 y3] 115)) := hW2.alloc hW2.size _
  have br := (b0.below hb2 (by simp)).alloc (.cells #[.int .i64 y1, .int .i64 y2, .int .i64 y3] 115)
  have bb := HBX.out.below hW3 hbx
  have hmk3 := ways_below HMK.out hW3
  obtain ⟨q0, q1, q2⟩ := ways_cell hmk3.2 k hkS
  have HZ2 := Lib.hid hz2
  have e0 := bn.cell 0
  have e1 := bn.cell 1
  have e2 := bn.cell 2
  have d0 := br.cell 0
  have g0 := bb.cell 0
  simp only [List.getElem?_toArray, List.getElem?_cons_zero, List.getElem?_cons_succ] at e0 e1 e2 d0 g0
  have HMK3 := Lib.hid hmk3
  clear hmk3 hwb c0 c1 c2 c3 hz2
  have HO : Hid (∃ z, z = S.getD k noW) := Lib.hid ⟨_, rfl⟩
  obtain ⟨z, hz⟩ := HO.out
  rw [← hz] at q0 q1 q2
  have HZ := Lib.hid hz
  clear hz HO
  obtain ⟨z1, z2, z3⟩ := z
  dsimp only at q0 q1 q2
  have hah := fun W' => ahead_any W' (y1, y2, y3) (z1, z2, z3)
  unfold WayV at hah
  dsimp only at hah
  have HAH := Lib.hid hah
  have hk2 : (k : Int) < (S.length : Int) := by omega
  have hk0 : (0 : Int) ≤ (k : Int) := by omega
  clear hah
  go_wp2
  refine wp_region_E (fun U => (U.cell? ⟨w2.heap.size, 0, none⟩ = some (.int .i64 y1) ∧ U.cell? ⟨w2.heap.size, 1, none⟩ = some (.int .i64 y2) ∧ U.cell? ⟨w2.heap.size, 2, none⟩ = some (.int .i64 y3)) ∧ U.cell? ⟨bx, 0, none⟩ = some (.slice (some ⟨m, 0, none⟩) S.length vc) ∧ U.cell? ⟨W.heap.size, 0, none⟩ = some (.int .i64 k) ∧ (U.cell? ⟨m, k * 3, none⟩ = some (.int .i64 z1) ∧ U.cell? ⟨m, k * 3 + 1, none⟩ = some (.int .i64 z2) ∧ U.cell? ⟨m, k * 3 + 2, none⟩ = some (.int .i64 z3))) [6, 7] (by kernel_rfl) ?_
  have HS : _ := And.intro (And.intro (DRC _ _ _ e0) (And.intro (DRC _ _ _ e1) (DRC _ _ _ e2))) (And.intro (DRC _ _ _ g0) (And.intro (DRC _ _ _ d0) (And.intro (DRC _ _ _ q0) (And.intro (DRC _ _ _ q1) (DRC _ _ _ q2)))))
  change anyE _ _ _ _ _ _ _ _ _ (World.drew _)
  refine anyE_take (i := 2) (v := ?_) rfl (by kernel_rfl) (by kernel_rfl) (by kernel_rfl) (by kernel_rfl) (by kernel_rfl) (fun _ _ _ h => h) (Or.inl ⟨by kernel_rfl, ?_⟩) HS ?_
  rotate_left
  · intro w _; go_simp; with_reducible rfl
  refine anyE_take (i := 0) (v := ?_) rfl (by kernel_rfl) (by kernel_rfl) (by kernel_rfl) (by kernel_rfl) (by kernel_rfl) (fun _ _ _ h => h) (Or.inl ⟨by kernel_rfl, ?_⟩) HS ?_
  rotate_left
  · intro w hw; have hw := hw.1; go_simp; with_reducible rfl
  refine anyE_take (i := 1) (v := ?_) rfl (by kernel_rfl) (by kernel_rfl) (by kernel_rfl) (by kernel_rfl) (by kernel_rfl) (fun _ _ _ h => h) (Or.inl ⟨by kernel_rfl, ?_⟩) HS ?_
  rotate_left
  · intro w hw; have hw := hw.2.1; go_simp; with_reducible rfl
  refine anyE_take (i := 3) (v := ?_) rfl (by kernel_rfl) (by kernel_rfl) (by kernel_rfl) (by kernel_rfl) (by kernel_rfl) (fun _ _ _ h => h) (Or.inl ⟨by kernel_rfl, ?_⟩) HS ?_
  rotate_left
  · intro w hw; have hw := hw.2.2.1; go_simp; with_reducible rfl
  refine anyE_take (i := 4) (v := ?_) rfl (by kernel_rfl) (by kernel_rfl) (by kernel_rfl) (by kernel_rfl) (by kernel_rfl) (fun _ _ _ h => h) (Or.inl ⟨by kernel_rfl, ?_⟩) HS ?_
  rotate_left
  · intro w _; go_simp; with_reducible rfl
  refine anyE_take (i := 5) (v := ?_) rfl (by kernel_rfl) (by kernel_rfl) (by kernel_rfl) (by kernel_rfl) (by kernel_rfl) (fun _ _ _ h => h) (Or.inl ⟨by kernel_rfl, ?_⟩) HS ?_
  rotate_left
  · intro w hw; have hw := hw.2.2.2; go_simp; with_reducible rfl
  refine anyE_rest (by kernel_rfl) ?_
  refine wpAny_ready (rs := [6]) (by kernel_rfl) (by simp) ?_
  refine AllReady.cons rfl (fun K hK => ?_) AllReady.nil
  go_simp
  go_at_call 109
  refine (HAH.out _).mono ?_
  rintro e w5 ⟨⟨b, rfl, hbb⟩, hb5⟩
  refine hK _ _ ?_
  clear hK K
  refine wpAny_ready (rs := [7]) (by kernel_rfl) (by simp) ?_
  refine AllReady.cons rfl (fun K hK => ?_) AllReady.nil
  go_simp
  refine hK _ _ ?_
  clear hK K
  refine wpAny_done (by kernel_rfl) ?_ _
  have hW5 : Below W.heap.size W w5 := hW3.drew.trans (hb5.mono (by show W.heap.size ≤ (w2.alloc _).heap.size; simp; have := HZ2.out; omega))
  have HB5 := Lib.hid hW5
  cases b
  · have hno : ¬ ahd (y1, y2, y3) (z1, z2, z3) := fun h => by have := hbb.2 h; cases this
    have HNO := Lib.hid hno
    clear hno hbb
    go_wp2
    go_ret
    refine ⟨grown_below HB5.out _, .inr ⟨rfl, stW_below ⟨HI.out, hbx, hne, _, HBX.out, HMK.out⟩ HB5.out, fun q hq => ?_⟩⟩
    rw [hrk] at hq
    cases hq
    have h := HNO.out
    rw [HY.out, HZ.out] at h
    simpa using h
  · have HYES := Lib.hid (hbb.1 rfl)
    have mk5 := ways_below HMK.out hW5
    have f0 := mk5.2.frozenAt (k * 3)
    have f1 := mk5.2.frozenAt (k * 3 + 1)
    have f2 := mk5.2.frozenAt (k * 3 + 2)
    have bn5 := (show Blk (World.drew (w2.alloc (.cells #[.int .i64 y1, .int .i64 y2, .int .i64 y3] 115))) w2.heap.size 115 #[.int .i64 y1, .int .i64 y2, .int .i64 y3] from bn).below hb5 (by show w2.heap.size < (w2.alloc _).heap.size; simp)
    have br5 := (show Blk (World.drew (w2.alloc (.cells #[.int .i64 y1, .int .i64 y2, .int .i64 y3] 115))) W.heap.size 52 #[.int .i64 k, .slice ao F.length cp, .float .f64 wt] from br).below hb5 (by show W.heap.size < (w2.alloc _).heap.size; simp; have := HZ2.out; omega)
    have bb5 := HBX.out.below hW5 hbx
    have p0 := bn5.cell 0
    have p1 := bn5.cell 1
    have p2 := bn5.cell 2
    have p3 := br5.cell 0
    have p4 := bb5.cell 0
    obtain ⟨r0, r1, r2⟩ := ways_cell mk5.2 k hkS
    simp only [List.getElem?_toArray, List.getElem?_cons_zero, List.getElem?_cons_succ] at p0 p1 p2 p3 p4
    rw [← HZ.out] at r0 r1 r2
    dsimp only at r0 r1 r2
    obtain ⟨s1, t1⟩ := mk5.2.stored (k * 3) (.int .i64 y1)
    obtain ⟨s2, t2⟩ := s1.stored (k * 3 + 1) (.int .i64 y2)
    obtain ⟨s3, t3⟩ := s2.stored (k * 3 + 2) (.int .i64 y3)
    rw [wv_set S k (y1, y2, y3) hkS] at s3
    have HS3 := Lib.hid s3
    have HT := Lib.hid ((grown_below hW5 (some m)).trans (t1.trans (t2.trans t3)))
    clear s1 s2 s3 t1 t2 t3 hbb mk5 HS hW5
    go_wp2
    go_ret
    have hy := HY.out
    have hz := HZ.out
    have ha := HYES.out
    rw [hy, hz] at ha
    have hi := HSTEP.out (by simpa using ha)
    rw [Int.toNat_natCast, ← hy] at hi
    have hgr := HT.out
    refine ⟨hgr, .inl ⟨rfl, S.set k (y1, y2, y3), ⟨hi, Nat.lt_of_lt_of_le hbx hgr.size, hne, _, (hgr.block bx hbx (fun e => hne (Option.some.inj e))).trans HBX.out, ⟨vc, by simp⟩, by simpa using HS3.out⟩, ?_⟩⟩
    exact muS_set S k _ hkS (by rw [hy]; exact ha) hST
end Go.Proofs.Ytljkobijoenabaa.dv
namespace Go.Proofs.Ytljkobijoenabaa.dv
open Go.ChangeShapes Go.WideShapes Go.ChangeAt Go.RowKit Go.Maps Go.WideMaps Go.WideElems
set_option linter.unusedVariables false
set_option linter.unusedSimpArgs false
/-! ways -/
theorem rep_no (n v : Nat) : (List.replicate n noW).getD v noW = noW := by
  rw [List.getD_eq_getElem?_getD, List.getElem?_replicate]
  split <;> rfl
theorem inv_no (R : List Rl) (n : Nat) : Inv R n (List.replicate n noW) := by
  refine ⟨by simp, fun v => by rw [rep_no]; exact ⟨Nat.le_refl _, Nat.le_refl _⟩, fun v => .inl (rep_no n v), fun _ => 0, fun v k r h => ?_⟩
  rw [rep_no] at h
  unfold noW at h
  simp only at h
  omega
theorem done_of {R : List Rl} {S : List Way} (h : ∀ i, i < R.length → SatW R S i) : Done R S := fun i r hr => h i (List.getElem?_eq_some_iff.1 hr).1 r hr
theorem ways_set {w : World} {B m : Nat} {v : Value} {S : List Way} (h : WaysAt w B m v S) (p : Addr) (u : Value) (hp : p.block ≠ m) : WaysAt (w.setCell p u) B m v S := by
  obtain ⟨⟨cap, rfl⟩, ho⟩ := h
  exact ⟨⟨cap, rfl⟩, ownsRow_keep ho (fun g hg hv => Below.heap_setCell w p u g (fun e => by
    have e1 : m = g := by simpa [Value.ownBlock] using hv
    omega))⟩
set_option maxRecDepth 100000 in
set_option maxHeartbeats 4000000 in
theorem ways_any (w : World) (B : Nat) (ta va : Option Addr) (tl tc vl vc : Nat) (rv : Value) (R : List Rl) (hR : RulesAt B w rv R) (hB : B ≤ w.heap.size) (hl : ∀ r ∈ R, 0 ≤ r.left ∧ r.left < vl) (hv : vl ≤ 1000) :
    Calls Try.prog 96 #[.agg #[.slice ta tl tc, .slice va vl vc, rv]] w fun e w' => ∃ v m S, e = .returned v ∧ WaysAt w' w.heap.size m v S ∧ Inv R vl S ∧ Done R S ∧ Below w.heap.size w w' := by
  obtain ⟨ra, rc, rfl, hn, _⟩ := id hR
  have b0 := Blk.new w 25 #[.slice ta tl tc, .slice va vl vc, .slice ra R.length rc]
  have hbl : Below w.heap.size w (w.alloc (.cells #[.slice ta tl tc, .slice va vl vc, .slice ra R.length rc] 25)) := (Below.refl _ w).alloc (Nat.le_refl _) _
  have HR := Lib.hid hR
  have HL := Lib.hid hl
  have HN := Lib.hid hn
  generalize hW0 : w.alloc (.cells #[.slice ta tl tc, .slice va vl vc, .slice ra R.length rc] 25) = w0 at *
  have hz : w0.heap.size = w.heap.size + 1 := by rw [← hW0]; simp
  have HZ := Lib.hid hz
  clear hR hl hn hz
  go_enter Try.func96, Try.ntmps96
  have HB0 := Lib.hid b0
  have c1 := b0.cell 1
  simp only [List.getElem?_toArray, List.getElem?_cons_zero, List.getElem?_cons_succ] at c1
  go_wp2
  refine wp_region_E (fun U => U.cell? ⟨w.heap.size, 1, none⟩ = some (.slice va vl vc)) [] (by kernel_rfl) ?_
  have HS : _ := DRC w0 _ _ c1
  have hA0 : Below w0.heap.size w0 w0.drew := (Below.refl _ _).drew
  change anyE _ _ _ _ _ _ _ _ _ (World.drew _)
  generalize World.drew w0 = y0 at *
  refine anyE_take (i := 2) (v := ?_) rfl (by kernel_rfl) (by kernel_rfl) (by kernel_rfl) (by kernel_rfl) (by kernel_rfl) (fun _ _ _ h => h) (Or.inl ⟨by kernel_rfl, ?_⟩) HS ?_
  rotate_left
  · intro w _; go_simp; with_reducible rfl
  refine anyE_take (i := 3) (v := ?_) rfl (by kernel_rfl) (by kernel_rfl) (by kernel_rfl) (by kernel_rfl) (by kernel_rfl) (fun _ _ _ h => h) (Or.inl ⟨by kernel_rfl, ?_⟩) HS ?_
  rotate_left
  · intro w hw; have hw := hw; go_simp; with_reducible rfl
  refine anyE_take (i := 4) (v := ?_) rfl (by kernel_rfl) (by kernel_rfl) (by kernel_rfl) (by kernel_rfl) (by kernel_rfl) (fun _ _ _ h => h) (Or.inl ⟨by kernel_rfl, ?_⟩) HS ?_
  rotate_left
  · intro w _; go_simp; with_reducible rfl
  refine anyE_ready (rs := [0, 6]) (by kernel_rfl) (by simp) ?_
  refine ReadyE.cons rfl (by kernel_rfl) (fun K hK => ?_) (ReadyE.cons rfl (by kernel_rfl) (fun K hK => ?_) ReadyE.nil)
  · go_simp
    go_at_call 106
    refine (none_any y0).mono ?_
    rintro e x1 ⟨rfl, hx1⟩
    unfold WayV noW Far
    have hA1 := hA0.trans (hx1.mono hA0.size)
    have hS1 : World.cell? x1 ⟨w.heap.size, 1, none⟩ = some (.slice va vl vc) := ((HB0.out.below hA1 HB0.out.lt).cell 1)
    refine hK.out _ _ (fun _ => hS1) ?_
    clear hK K
    refine anyE_ready (rs := [1, 6]) (by kernel_rfl) (by simp) ?_
    refine ReadyE.cons rfl (by kernel_rfl) (fun K hK => ?_) (ReadyE.cons rfl (by kernel_rfl) (fun K hK => ?_) ReadyE.nil)
    · go_simp
      have hA2 := hA1.alloc hA1.size (.cells #[.int .i64 1073741824, .int .i64 1073741824, .int .i64 (-1)] 115)
      have hsrc2 := Blk.new x1 115 #[.int .i64 1073741824, .int .i64 1073741824, .int .i64 (-1)]
      have hS2 : World.cell? (x1.alloc (.cells #[.int .i64 1073741824, .int .i64 1073741824, .int .i64 (-1)] 115)) ⟨w.heap.size, 1, none⟩ = some (.slice va vl vc) := ((HB0.out.below hA2 HB0.out.lt).cell 1)
      refine hK.out _ _ (fun _ => hS2) ?_
      clear hK K
      generalize hE2 : x1.alloc (.cells #[.int .i64 1073741824, .int .i64 1073741824, .int .i64 (-1)] 115) = x2 at *
      clear hE2
      refine anyE_ready (rs := [5, 6]) (by kernel_rfl) (by simp) ?_
      refine ReadyE.cons rfl (by kernel_rfl) (fun K hK => ?_) (ReadyE.cons rfl (by kernel_rfl) (fun K hK => ?_) ReadyE.nil)
      · go_simp
        go_at_call 105
        refine (repeat_any x2 ⟨x1.heap.size, 0, none⟩ noW vl hv (hsrc2).lt (fun j u hj => by rw [zero_add_addr]; exact ((hsrc2).cell j).trans (by simpa [cW, noW, Far] using hj))).mono ?_
        rintro e x3 ⟨v3, rfl, hw3, hx3⟩
        have HWK3 := Lib.hid hw3
        obtain ⟨⟨cp3, hv3⟩, _⟩ := hw3
        rw [List.length_replicate] at hv3
        subst hv3
        have hA3 := hA2.trans (hx3.mono hA2.size)
        have hsrc3 := (hsrc2).below hx3 (hsrc2).lt
        have hS3 : World.cell? x3 ⟨w.heap.size, 1, none⟩ = some (.slice va vl vc) := ((HB0.out.below hA3 HB0.out.lt).cell 1)
        refine hK.out _ _ (fun _ => hS3) ?_
        clear hK K
        refine anyE_ready (rs := [6]) (by kernel_rfl) (by simp) ?_
        refine ReadyE.cons rfl (by kernel_rfl) (fun K hK => ?_) ReadyE.nil
        go_simp
        have hA4 := hA3.alloc hA3.size (.cells #[.slice none 0 0] 112)
        have hsrc4 := (hsrc3).alloc (.cells #[.slice none 0 0] 112)
        have hways4 := ways_alloc HWK3.out (.cells #[.slice none 0 0] 112)
        have hlw4 := ways_lt HWK3.out
        have hbox4 := Blk.new x3 112 #[.slice none 0 0]
        have hS4 : World.cell? (x3.alloc (.cells #[.slice none 0 0] 112)) ⟨w.heap.size, 1, none⟩ = some (.slice va vl vc) := ((HB0.out.below hA4 HB0.out.lt).cell 1)
        refine hK.out _ _ (fun _ => hS4) ?_
        clear hK K
        generalize hE4 : x3.alloc (.cells #[.slice none 0 0] 112) = x4 at *
        clear hE4
        refine anyE_ready (rs := [7]) (by kernel_rfl) (by simp) ?_
        refine ReadyE.cons rfl (by kernel_rfl) (fun K hK => ?_) ReadyE.nil
        have qc5 := (hbox4).cell 0
        have qf5 := (hbox4).frozen 0
        simp only [List.getElem?_toArray, List.getElem?_cons_zero] at qc5
        go_simp
        clear qc5 qf5
        have hA5 := hA4.setCell (p := ⟨x3.heap.size, 0, none⟩) hA3.size (.slice (some ⟨x2.heap.size, 0, none⟩) vl cp3)
        have hb5 := (hbox4).set_ 0 (.slice (some ⟨x2.heap.size, 0, none⟩) vl cp3)
        have hw5 := ways_set hways4 ⟨x3.heap.size, 0, none⟩ (.slice (some ⟨x2.heap.size, 0, none⟩) vl cp3) (Nat.ne_of_gt hlw4)
        have hS5 : World.cell? (x4.setCell ⟨x3.heap.size, 0, none⟩ (.slice (some ⟨x2.heap.size, 0, none⟩) vl cp3)) ⟨w.heap.size, 1, none⟩ = some (.slice va vl vc) := ((HB0.out.below hA5 HB0.out.lt).cell 1)
        refine hK.out _ _ (fun _ => hS5) ?_
        clear hK K
        generalize hE5 : x4.setCell ⟨x3.heap.size, 0, none⟩ (.slice (some ⟨x2.heap.size, 0, none⟩) vl cp3) = x5 at *
        clear hE5
        refine anyE_done (by kernel_rfl) ?_ _
        have hBU : Below w.heap.size w x5 := hbl.trans (hA5.mono (by have := HZ.out; omega))
        have hgU := HB0.out.below hA5 HB0.out.lt
        have hmm : w.heap.size ≤ x2.heap.size ∧ x2.heap.size < x5.heap.size := ⟨by have := HZ.out; have := hA2.size; omega, ways_lt hw5⟩
        have hst0 : StW R vl w.heap.size x2.heap.size x3.heap.size (List.replicate vl noW) x5 := ⟨inv_no R vl, (hb5).lt, (Nat.ne_of_gt hlw4), _, hb5, ways_weak hw5 (by have := HZ.out; omega)⟩
        have hset := settle_any x5 B x2.heap.size ta va tl tc vl vc (.slice ra R.length rc) R (HR.out.far (hBU.mono hB)) (by omega) hmm.2 HL.out 107 #[.pointer (some ⟨x3.heap.size, 0, none⟩)] goes_ways1 (StW R vl w.heap.size x2.heap.size x3.heap.size) muS (SatW R) (fun x y W h k => stW_mu x y W h k) (fun x W o h => stW_alloc o h) (ways1_step R vl w.heap.size x2.heap.size x3.heap.size B _ HL.out HN.out (by omega)) (List.replicate vl noW) hst0
        have HSET := Lib.hid hset
        have g0 := hgU.cell 0
        have g1 := hgU.cell 1
        have g2 := hgU.cell 2
        simp only [List.getElem?_toArray, List.getElem?_cons_zero, List.getElem?_cons_succ] at g0 g1 g2
        have HBU := Lib.hid hBU
        clear hset hst0 hgU hBU
        go_wp2_with fail
        refine HSET.out.mono ?_
        rintro e w9 ⟨⟨v9, rfl⟩, hg9, S, ⟨hSi, hSb, hSn, u, hSu, hSm⟩, hsat⟩
        have hcu := (show Blk w9 x3.heap.size 112 #[u] from hSu).cell 0
        simp only [List.getElem?_toArray, List.getElem?_cons_zero, List.getElem?_cons_succ] at hcu
        have HF : Hid (Inv R vl S ∧ Done R S ∧ Below w.heap.size w w9) := Lib.hid ⟨hSi, done_of hsat, HBU.out.grown hg9 HBU.out.size (fun k e => by cases e; exact hmm.1)⟩
        have HSM := Lib.hid hSm
        obtain ⟨⟨uc, rfl⟩, _⟩ := hSm
        clear hSi hsat hSu hg9
        go_wp2
        go_ret
        exact ⟨_, _, S, rfl, HSM.out, HF.out⟩
      · go_simp
        have hA6 := hA2.alloc hA2.size (.cells #[.slice none 0 0] 112)
        have hsrc6 := (hsrc2).alloc (.cells #[.slice none 0 0] 112)
        have hbox6 := Blk.new x2 112 #[.slice none 0 0]
        have hS6 : World.cell? (x2.alloc (.cells #[.slice none 0 0] 112)) ⟨w.heap.size, 1, none⟩ = some (.slice va vl vc) := ((HB0.out.below hA6 HB0.out.lt).cell 1)
        refine hK.out _ _ (fun _ => hS6) ?_
        clear hK K
        generalize hE6 : x2.alloc (.cells #[.slice none 0 0] 112) = x6 at *
        clear hE6
        refine anyE_ready (rs := [5]) (by kernel_rfl) (by simp) ?_
        refine ReadyE.cons rfl (by kernel_rfl) (fun K hK => ?_) ReadyE.nil
        go_simp
        go_at_call 105
        refine (repeat_any x6 ⟨x1.heap.size, 0, none⟩ noW vl hv (hsrc6).lt (fun j u hj => by rw [zero_add_addr]; exact ((hsrc6).cell j).trans (by simpa [cW, noW, Far] using hj))).mono ?_
        rintro e x7 ⟨v7, rfl, hw7, hx7⟩
        have HWK7 := Lib.hid hw7
        obtain ⟨⟨cp7, hv7⟩, _⟩ := hw7
        rw [List.length_replicate] at hv7
        subst hv7
        have hA7 := hA6.trans (hx7.mono hA6.size)
        have hsrc7 := (hsrc6).below hx7 (hsrc6).lt
        have hbox7 := (hbox6).below hx7 (hbox6).lt
        have hS7 : World.cell? x7 ⟨w.heap.size, 1, none⟩ = some (.slice va vl vc) := ((HB0.out.below hA7 HB0.out.lt).cell 1)
        refine hK.out _ _ (fun _ => hS7) ?_
        clear hK K
        refine anyE_ready (rs := [7]) (by kernel_rfl) (by simp) ?_
        refine ReadyE.cons rfl (by kernel_rfl) (fun K hK => ?_) ReadyE.nil
        have qc8 := (hbox7).cell 0
        have qf8 := (hbox7).frozen 0
        simp only [List.getElem?_toArray, List.getElem?_cons_zero] at qc8
        go_simp
        clear qc8 qf8
        have hA8 := hA7.setCell (p := ⟨x2.heap.size, 0, none⟩) hA2.size (.slice (some ⟨x6.heap.size, 0, none⟩) vl cp7)
        have hb8 := (hbox7).set_ 0 (.slice (some ⟨x6.heap.size, 0, none⟩) vl cp7)
        have hw8 := ways_set HWK7.out ⟨x2.heap.size, 0, none⟩ (.slice (some ⟨x6.heap.size, 0, none⟩) vl cp7) (Nat.ne_of_lt (hbox6).lt)
        have hS8 : World.cell? (x7.setCell ⟨x2.heap.size, 0, none⟩ (.slice (some ⟨x6.heap.size, 0, none⟩) vl cp7)) ⟨w.heap.size, 1, none⟩ = some (.slice va vl vc) := ((HB0.out.below hA8 HB0.out.lt).cell 1)
        refine hK.out _ _ (fun _ => hS8) ?_
        clear hK K
        generalize hE8 : x7.setCell ⟨x2.heap.size, 0, none⟩ (.slice (some ⟨x6.heap.size, 0, none⟩) vl cp7) = x8 at *
        clear hE8
        refine anyE_done (by kernel_rfl) ?_ _
        have hBU : Below w.heap.size w x8 := hbl.trans (hA8.mono (by have := HZ.out; omega))
        have hgU := HB0.out.below hA8 HB0.out.lt
        have hmm : w.heap.size ≤ x6.heap.size ∧ x6.heap.size < x8.heap.size := ⟨by have := HZ.out; have := hA6.size; omega, ways_lt hw8⟩
        have hst0 : StW R vl w.heap.size x6.heap.size x2.heap.size (List.replicate vl noW) x8 := ⟨inv_no R vl, (hb8).lt, (Nat.ne_of_lt (hbox6).lt), _, hb8, ways_weak hw8 (by have := HZ.out; omega)⟩
        have hset := settle_any x8 B x6.heap.size ta va tl tc vl vc (.slice ra R.length rc) R (HR.out.far (hBU.mono hB)) (by omega) hmm.2 HL.out 107 #[.pointer (some ⟨x2.heap.size, 0, none⟩)] goes_ways1 (StW R vl w.heap.size x6.heap.size x2.heap.size) muS (SatW R) (fun x y W h k => stW_mu x y W h k) (fun x W o h => stW_alloc o h) (ways1_step R vl w.heap.size x6.heap.size x2.heap.size B _ HL.out HN.out (by omega)) (List.replicate vl noW) hst0
        have HSET := Lib.hid hset
        have g0 := hgU.cell 0
        have g1 := hgU.cell 1
        have g2 := hgU.cell 2
        simp only [List.getElem?_toArray, List.getElem?_cons_zero, List.getElem?_cons_succ] at g0 g1 g2
        have HBU := Lib.hid hBU
        clear hset hst0 hgU hBU
        go_wp2_with fail
        refine HSET.out.mono ?_
        rintro e w9 ⟨⟨v9, rfl⟩, hg9, S, ⟨hSi, hSb, hSn, u, hSu, hSm⟩, hsat⟩
        have hcu := (show Blk w9 x2.heap.size 112 #[u] from hSu).cell 0
        simp only [List.getElem?_toArray, List.getElem?_cons_zero, List.getElem?_cons_succ] at hcu
        have HF : Hid (Inv R vl S ∧ Done R S ∧ Below w.heap.size w w9) := Lib.hid ⟨hSi, done_of hsat, HBU.out.grown hg9 HBU.out.size (fun k e => by cases e; exact hmm.1)⟩
        have HSM := Lib.hid hSm
        obtain ⟨⟨uc, rfl⟩, _⟩ := hSm
        clear hSi hsat hSu hg9
        go_wp2
        go_ret
        exact ⟨_, _, S, rfl, HSM.out, HF.out⟩
    · go_simp
      have hA9 := hA1.alloc hA1.size (.cells #[.slice none 0 0] 112)
      have hbox9 := Blk.new x1 112 #[.slice none 0 0]
      have hS9 : World.cell? (x1.alloc (.cells #[.slice none 0 0] 112)) ⟨w.heap.size, 1, none⟩ = some (.slice va vl vc) := ((HB0.out.below hA9 HB0.out.lt).cell 1)
      refine hK.out _ _ (fun _ => hS9) ?_
      clear hK K
      generalize hE9 : x1.alloc (.cells #[.slice none 0 0] 112) = x9 at *
      clear hE9
      refine anyE_ready (rs := [1]) (by kernel_rfl) (by simp) ?_
      refine ReadyE.cons rfl (by kernel_rfl) (fun K hK => ?_) ReadyE.nil
      go_simp
      have hA10 := hA9.alloc hA9.size (.cells #[.int .i64 1073741824, .int .i64 1073741824, .int .i64 (-1)] 115)
      have hbox10 := (hbox9).alloc (.cells #[.int .i64 1073741824, .int .i64 1073741824, .int .i64 (-1)] 115)
      have hsrc10 := Blk.new x9 115 #[.int .i64 1073741824, .int .i64 1073741824, .int .i64 (-1)]
      have hS10 : World.cell? (x9.alloc (.cells #[.int .i64 1073741824, .int .i64 1073741824, .int .i64 (-1)] 115)) ⟨w.heap.size, 1, none⟩ = some (.slice va vl vc) := ((HB0.out.below hA10 HB0.out.lt).cell 1)
      refine hK.out _ _ (fun _ => hS10) ?_
      clear hK K
      generalize hE10 : x9.alloc (.cells #[.int .i64 1073741824, .int .i64 1073741824, .int .i64 (-1)] 115) = x10 at *
      clear hE10
      refine anyE_ready (rs := [5]) (by kernel_rfl) (by simp) ?_
      refine ReadyE.cons rfl (by kernel_rfl) (fun K hK => ?_) ReadyE.nil
      go_simp
      go_at_call 105
      refine (repeat_any x10 ⟨x9.heap.size, 0, none⟩ noW vl hv (hsrc10).lt (fun j u hj => by rw [zero_add_addr]; exact ((hsrc10).cell j).trans (by simpa [cW, noW, Far] using hj))).mono ?_
      rintro e x11 ⟨v11, rfl, hw11, hx11⟩
      have HWK11 := Lib.hid hw11
      obtain ⟨⟨cp11, hv11⟩, _⟩ := hw11
      rw [List.length_replicate] at hv11
      subst hv11
      have hA11 := hA10.trans (hx11.mono hA10.size)
      have hsrc11 := (hsrc10).below hx11 (hsrc10).lt
      have hbox11 := (hbox10).below hx11 (hbox10).lt
      have hS11 : World.cell? x11 ⟨w.heap.size, 1, none⟩ = some (.slice va vl vc) := ((HB0.out.below hA11 HB0.out.lt).cell 1)
      refine hK.out _ _ (fun _ => hS11) ?_
      clear hK K
      refine anyE_ready (rs := [7]) (by kernel_rfl) (by simp) ?_
      refine ReadyE.cons rfl (by kernel_rfl) (fun K hK => ?_) ReadyE.nil
      have qc12 := (hbox11).cell 0
      have qf12 := (hbox11).frozen 0
      simp only [List.getElem?_toArray, List.getElem?_cons_zero] at qc12
      go_simp
      clear qc12 qf12
      have hA12 := hA11.setCell (p := ⟨x1.heap.size, 0, none⟩) hA1.size (.slice (some ⟨x10.heap.size, 0, none⟩) vl cp11)
      have hb12 := (hbox11).set_ 0 (.slice (some ⟨x10.heap.size, 0, none⟩) vl cp11)
      have hw12 := ways_set HWK11.out ⟨x1.heap.size, 0, none⟩ (.slice (some ⟨x10.heap.size, 0, none⟩) vl cp11) (Nat.ne_of_lt (hbox10).lt)
      have hS12 : World.cell? (x11.setCell ⟨x1.heap.size, 0, none⟩ (.slice (some ⟨x10.heap.size, 0, none⟩) vl cp11)) ⟨w.heap.size, 1, none⟩ = some (.slice va vl vc) := ((HB0.out.below hA12 HB0.out.lt).cell 1)
      refine hK.out _ _ (fun _ => hS12) ?_
      clear hK K
      generalize hE12 : x11.setCell ⟨x1.heap.size, 0, none⟩ (.slice (some ⟨x10.heap.size, 0, none⟩) vl cp11) = x12 at *
      clear hE12
      refine anyE_done (by kernel_rfl) ?_ _
      have hBU : Below w.heap.size w x12 := hbl.trans (hA12.mono (by have := HZ.out; omega))
      have hgU := HB0.out.below hA12 HB0.out.lt
      have hmm : w.heap.size ≤ x10.heap.size ∧ x10.heap.size < x12.heap.size := ⟨by have := HZ.out; have := hA10.size; omega, ways_lt hw12⟩
      have hst0 : StW R vl w.heap.size x10.heap.size x1.heap.size (List.replicate vl noW) x12 := ⟨inv_no R vl, (hb12).lt, (Nat.ne_of_lt (hbox10).lt), _, hb12, ways_weak hw12 (by have := HZ.out; omega)⟩
      have hset := settle_any x12 B x10.heap.size ta va tl tc vl vc (.slice ra R.length rc) R (HR.out.far (hBU.mono hB)) (by omega) hmm.2 HL.out 107 #[.pointer (some ⟨x1.heap.size, 0, none⟩)] goes_ways1 (StW R vl w.heap.size x10.heap.size x1.heap.size) muS (SatW R) (fun x y W h k => stW_mu x y W h k) (fun x W o h => stW_alloc o h) (ways1_step R vl w.heap.size x10.heap.size x1.heap.size B _ HL.out HN.out (by omega)) (List.replicate vl noW) hst0
      have HSET := Lib.hid hset
      have g0 := hgU.cell 0
      have g1 := hgU.cell 1
      have g2 := hgU.cell 2
      simp only [List.getElem?_toArray, List.getElem?_cons_zero, List.getElem?_cons_succ] at g0 g1 g2
      have HBU := Lib.hid hBU
      clear hset hst0 hgU hBU
      go_wp2_with fail
      refine HSET.out.mono ?_
      rintro e w9 ⟨⟨v9, rfl⟩, hg9, S, ⟨hSi, hSb, hSn, u, hSu, hSm⟩, hsat⟩
      have hcu := (show Blk w9 x1.heap.size 112 #[u] from hSu).cell 0
      simp only [List.getElem?_toArray, List.getElem?_cons_zero, List.getElem?_cons_succ] at hcu
      have HF : Hid (Inv R vl S ∧ Done R S ∧ Below w.heap.size w w9) := Lib.hid ⟨hSi, done_of hsat, HBU.out.grown hg9 HBU.out.size (fun k e => by cases e; exact hmm.1)⟩
      have HSM := Lib.hid hSm
      obtain ⟨⟨uc, rfl⟩, _⟩ := hSm
      clear hSi hsat hSu hg9
      go_wp2
      go_ret
      exact ⟨_, _, S, rfl, HSM.out, HF.out⟩
  · go_simp
    have hA13 := hA0.alloc hA0.size (.cells #[.slice none 0 0] 112)
    have hbox13 := Blk.new y0 112 #[.slice none 0 0]
    have hS13 : World.cell? (y0.alloc (.cells #[.slice none 0 0] 112)) ⟨w.heap.size, 1, none⟩ = some (.slice va vl vc) := ((HB0.out.below hA13 HB0.out.lt).cell 1)
    refine hK.out _ _ (fun _ => hS13) ?_
    clear hK K
    generalize hE13 : y0.alloc (.cells #[.slice none 0 0] 112) = x13 at *
    clear hE13
    refine anyE_ready (rs := [0]) (by kernel_rfl) (by simp) ?_
    refine ReadyE.cons rfl (by kernel_rfl) (fun K hK => ?_) ReadyE.nil
    go_simp
    go_at_call 106
    refine (none_any x13).mono ?_
    rintro e x14 ⟨rfl, hx14⟩
    unfold WayV noW Far
    have hA14 := hA13.trans (hx14.mono hA13.size)
    have hbox14 := (hbox13).below hx14 (hbox13).lt
    have hS14 : World.cell? x14 ⟨w.heap.size, 1, none⟩ = some (.slice va vl vc) := ((HB0.out.below hA14 HB0.out.lt).cell 1)
    refine hK.out _ _ (fun _ => hS14) ?_
    clear hK K
    refine anyE_ready (rs := [1]) (by kernel_rfl) (by simp) ?_
    refine ReadyE.cons rfl (by kernel_rfl) (fun K hK => ?_) ReadyE.nil
    go_simp
    have hA15 := hA14.alloc hA14.size (.cells #[.int .i64 1073741824, .int .i64 1073741824, .int .i64 (-1)] 115)
    have hbox15 := (hbox14).alloc (.cells #[.int .i64 1073741824, .int .i64 1073741824, .int .i64 (-1)] 115)
    have hsrc15 := Blk.new x14 115 #[.int .i64 1073741824, .int .i64 1073741824, .int .i64 (-1)]
    have hS15 : World.cell? (x14.alloc (.cells #[.int .i64 1073741824, .int .i64 1073741824, .int .i64 (-1)] 115)) ⟨w.heap.size, 1, none⟩ = some (.slice va vl vc) := ((HB0.out.below hA15 HB0.out.lt).cell 1)
    refine hK.out _ _ (fun _ => hS15) ?_
    clear hK K
    generalize hE15 : x14.alloc (.cells #[.int .i64 1073741824, .int .i64 1073741824, .int .i64 (-1)] 115) = x15 at *
    clear hE15
    refine anyE_ready (rs := [5]) (by kernel_rfl) (by simp) ?_
    refine ReadyE.cons rfl (by kernel_rfl) (fun K hK => ?_) ReadyE.nil
    go_simp
    go_at_call 105
    refine (repeat_any x15 ⟨x14.heap.size, 0, none⟩ noW vl hv (hsrc15).lt (fun j u hj => by rw [zero_add_addr]; exact ((hsrc15).cell j).trans (by simpa [cW, noW, Far] using hj))).mono ?_
    rintro e x16 ⟨v16, rfl, hw16, hx16⟩
    have HWK16 := Lib.hid hw16
    obtain ⟨⟨cp16, hv16⟩, _⟩ := hw16
    rw [List.length_replicate] at hv16
    subst hv16
    have hA16 := hA15.trans (hx16.mono hA15.size)
    have hsrc16 := (hsrc15).below hx16 (hsrc15).lt
    have hbox16 := (hbox15).below hx16 (hbox15).lt
    have hS16 : World.cell? x16 ⟨w.heap.size, 1, none⟩ = some (.slice va vl vc) := ((HB0.out.below hA16 HB0.out.lt).cell 1)
    refine hK.out _ _ (fun _ => hS16) ?_
    clear hK K
    refine anyE_ready (rs := [7]) (by kernel_rfl) (by simp) ?_
    refine ReadyE.cons rfl (by kernel_rfl) (fun K hK => ?_) ReadyE.nil
    have qc17 := (hbox16).cell 0
    have qf17 := (hbox16).frozen 0
    simp only [List.getElem?_toArray, List.getElem?_cons_zero] at qc17
    go_simp
    clear qc17 qf17
    have hA17 := hA16.setCell (p := ⟨y0.heap.size, 0, none⟩) hA0.size (.slice (some ⟨x15.heap.size, 0, none⟩) vl cp16)
    have hb17 := (hbox16).set_ 0 (.slice (some ⟨x15.heap.size, 0, none⟩) vl cp16)
    have hw17 := ways_set HWK16.out ⟨y0.heap.size, 0, none⟩ (.slice (some ⟨x15.heap.size, 0, none⟩) vl cp16) (Nat.ne_of_lt (hbox15).lt)
    have hS17 : World.cell? (x16.setCell ⟨y0.heap.size, 0, none⟩ (.slice (some ⟨x15.heap.size, 0, none⟩) vl cp16)) ⟨w.heap.size, 1, none⟩ = some (.slice va vl vc) := ((HB0.out.below hA17 HB0.out.lt).cell 1)
    refine hK.out _ _ (fun _ => hS17) ?_
    clear hK K
    generalize hE17 : x16.setCell ⟨y0.heap.size, 0, none⟩ (.slice (some ⟨x15.heap.size, 0, none⟩) vl cp16) = x17 at *
    clear hE17
    refine anyE_done (by kernel_rfl) ?_ _
    have hBU : Below w.heap.size w x17 := hbl.trans (hA17.mono (by have := HZ.out; omega))
    have hgU := HB0.out.below hA17 HB0.out.lt
    have hmm : w.heap.size ≤ x15.heap.size ∧ x15.heap.size < x17.heap.size := ⟨by have := HZ.out; have := hA15.size; omega, ways_lt hw17⟩
    have hst0 : StW R vl w.heap.size x15.heap.size y0.heap.size (List.replicate vl noW) x17 := ⟨inv_no R vl, (hb17).lt, (Nat.ne_of_lt (hbox15).lt), _, hb17, ways_weak hw17 (by have := HZ.out; omega)⟩
    have hset := settle_any x17 B x15.heap.size ta va tl tc vl vc (.slice ra R.length rc) R (HR.out.far (hBU.mono hB)) (by omega) hmm.2 HL.out 107 #[.pointer (some ⟨y0.heap.size, 0, none⟩)] goes_ways1 (StW R vl w.heap.size x15.heap.size y0.heap.size) muS (SatW R) (fun x y W h k => stW_mu x y W h k) (fun x W o h => stW_alloc o h) (ways1_step R vl w.heap.size x15.heap.size y0.heap.size B _ HL.out HN.out (by omega)) (List.replicate vl noW) hst0
    have HSET := Lib.hid hset
    have g0 := hgU.cell 0
    have g1 := hgU.cell 1
    have g2 := hgU.cell 2
    simp only [List.getElem?_toArray, List.getElem?_cons_zero, List.getElem?_cons_succ] at g0 g1 g2
    have HBU := Lib.hid hBU
    clear hset hst0 hgU hBU
    go_wp2_with fail
    refine HSET.out.mono ?_
    rintro e w9 ⟨⟨v9, rfl⟩, hg9, S, ⟨hSi, hSb, hSn, u, hSu, hSm⟩, hsat⟩
    have hcu := (show Blk w9 y0.heap.size 112 #[u] from hSu).cell 0
    simp only [List.getElem?_toArray, List.getElem?_cons_zero, List.getElem?_cons_succ] at hcu
    have HF : Hid (Inv R vl S ∧ Done R S ∧ Below w.heap.size w w9) := Lib.hid ⟨hSi, done_of hsat, HBU.out.grown hg9 HBU.out.size (fun k e => by cases e; exact hmm.1)⟩
    have HSM := Lib.hid hSm
    obtain ⟨⟨uc, rfl⟩, _⟩ := hSm
    clear hSi hsat hSu hg9
    go_wp2
    go_ret
    exact ⟨_, _, S, rfl, HSM.out, HF.out⟩
end Go.Proofs.Ytljkobijoenabaa.dv
namespace Go.Proofs.Ytljkobijoenabaa.dv
open Go.ChangeShapes Go.WideShapes Go.ChangeAt Go.RowKit Go.Maps Go.WideMaps Go.WideElems
set_option linter.unusedVariables false
set_option linter.unusedSimpArgs false
/-! a form's beginning, and a step -/
theorem RowAt.take {w : World} {ao : Option Addr} {cap : Nat} {F : List Int} (h : RowAt w (.slice ao F.length cap) F) (k : Nat) (hk : k ≤ F.length) : RowAt w (.slice ao k cap) (F.take k) := by
  obtain ⟨ao', cap', e, hl, hm, hn, hin, hc⟩ := h
  cases e
  have hL : (F.take k).length = k := by simp; omega
  refine ⟨ao, cap, by rw [hL], by omega, hm, hn, fun n hn => hin n (List.mem_of_mem_take hn), fun i hi => ?_⟩
  obtain ⟨a, e, hab, hca⟩ := hc i (by omega)
  refine ⟨a, e, hab, ?_⟩
  rw [hca, List.getD_eq_getElem?_getD, List.getD_eq_getElem?_getD, List.getElem?_take_of_lt (by omega)]
theorem RowAt.src {w : World} {v : Value} {F : List Int} (h : RowAt w v F) : SrcAt w v F := by
  obtain ⟨ao, cap, rfl, hl, hm, hn, hin, hc⟩ := h
  refine ⟨ao, cap, rfl, fun h => (by have := hn h; omega), fun ad had j u hj => ?_⟩
  have hlt : j < F.length := by have := (List.getElem?_eq_some_iff.1 hj).1; simpa [IV] using this
  obtain ⟨a, e, hab, hca⟩ := hc j hlt
  subst had
  cases e
  refine ⟨hab, ?_⟩
  rw [hca, ← hj]
  simp [IV, List.getD_eq_getElem?_getD, List.getElem?_eq_getElem hlt]
set_option maxRecDepth 100000 in
set_option maxHeartbeats 1000000 in
theorem lead_any (w : World) (v : Value) (F : List Int) (h : RowAt w v F) (hF : F.length ≤ 1000000) : Calls Try.prog 17 #[v] w fun e w' => ∃ u, e = .returned (.tuple #[u, .int .i64 (idxW F)]) ∧ w'.ownsRow w.heap.size 3 1 u (leadW F).length (IV ((leadW F).map fun x => -1 - x)) ∧ Below w.heap.size w w' := by
  have hix := index_any w v F h
  by_cases hr : restW F = []
  · have e1 : idxW F = -1 := by unfold idxW; rw [if_pos hr]
    have e2 : leadW F = F := by have := lead_rest F; rwa [hr, List.append_nil] at this
    rw [e1] at hix ⊢
    rw [e2]
    have hnu := numbers_any w v F h hF
    obtain ⟨ao, cap, rfl, _⟩ := h
    go_enter Try.func17, Try.ntmps17
    go_wp2_with fail
    refine hix.mono ?_
    rintro e w1 ⟨rfl, rfl⟩
    go_wp2_with fail
    refine hnu.mono ?_
    rintro e w2 ⟨u, rfl, ho, hb⟩
    go_wp2
    refine bodyPost_ret (v := .tuple #[u, .int .i64 (-1)]) (by simp [results, Try.results17, go_sem]) rfl ?_
    exact ⟨u, rfl, ho, hb⟩
  · have e1 : idxW F = ((leadW F).length : Int) := by unfold idxW; rw [if_neg hr]
    have hle : (leadW F).length ≤ F.length := by have := congrArg List.length (lead_rest F); simp at this; omega
    have htk : F.take (leadW F).length = leadW F := by
      have := List.take_left (l₁ := leadW F) (l₂ := restW F)
      rwa [lead_rest] at this
    rw [e1] at hix ⊢
    obtain ⟨ao, cap, rfl, hx⟩ := id h
    have hcap : (leadW F).length ≤ cap ∧ cap ≤ 9223372036854775807 := by
      obtain ⟨h1, h2, _⟩ := hx
      unfold maxLen at h2
      omega
    obtain ⟨hc1, hc2⟩ := hcap
    have h2 := h.take (leadW F).length hle
    rw [htk] at h2
    have hnu := numbers_any w (.slice ao (leadW F).length cap) (leadW F) h2 (by omega)
    clear hx h2 h htk
    generalize leadW F = L at *
    go_enter Try.func17, Try.ntmps17
    go_wp2_with fail
    refine hix.mono ?_
    rintro e w1 ⟨rfl, rfl⟩
    go_wp2_with fail
    refine hnu.mono ?_
    rintro e w2 ⟨u, rfl, ho, hb⟩
    go_wp2
    refine bodyPost_ret (v := .tuple #[u, .int .i64 L.length]) (by simp [results, Try.results17, go_sem]) rfl ?_
    exact ⟨u, rfl, ho, hb⟩
def fvW (F : List Int) : Int := (restW F).headD (-1)
def ruleW (R : List Rl) (k : Int) : List Int := (R.getD k.toNat ⟨0, [], 0⟩).right
def stepL (R : List Rl) (F : List Int) (k : Int) : List Int := leadW F ++ (ruleW R k ++ (restW F).tail)
theorem RowAt.drop {w : World} {ao : Option Addr} {cap : Nat} {F : List Int} (h : RowAt w (.slice ao F.length cap) F) (k : Nat) (hk : k ≤ F.length) (a : Addr) (ha : ao = some a) : RowAt w (.slice (some (a.add k)) (F.length - k) (cap - k)) (F.drop k) := by
  obtain ⟨ao', cap', e, hl, hm, hn, hin, hc⟩ := h
  cases e
  subst ha
  have hL : (F.drop k).length = F.length - k := by simp
  refine ⟨_, cap - k, by rw [hL], by omega, by omega, fun h => (by cases h), fun n hn => hin n (List.mem_of_mem_drop hn), fun i hi => ?_⟩
  obtain ⟨a', e, hab, hca⟩ := hc (k + i) (by omega)
  cases e
  refine ⟨_, rfl, by rw [add_block]; exact hab, ?_⟩
  rw [Addr.add_add, hca, List.getD_eq_getElem?_getD, List.getD_eq_getElem?_getD, List.getElem?_drop]
theorem rest_nth (F : List Int) (h : restW F ≠ []) : F.getD (leadW F).length 0 = fvW F ∧ 0 ≤ fvW F ∧ (leadW F).length < F.length ∧ F.drop ((leadW F).length + 1) = (restW F).tail := by
  have e := lead_rest F
  have hg : ∀ x l, restW F = x :: l → ¬ x < 0 := fun x l hx => by
    have := List.head?_dropWhile_not (fun x => decide (x < 0)) F
    rw [show F.dropWhile (fun x => decide (x < 0)) = x :: l from hx] at this
    simpa using this
  cases hr : restW F with
  | nil => exact absurd hr h
  | cons x l =>
    have hx := hg x l hr
    rw [hr] at e
    have hf : fvW F = x := by unfold fvW; rw [hr]; rfl
    rw [hf, hr] at *
    generalize leadW F = L at *
    subst e
    exact ⟨by simp [List.getD_eq_getElem?_getD], by omega, by simp, by simp⟩
theorem refW_err {R : List Rl} {v k : Int} (h : ¬ 0 ≤ v) : refW R v k ≠ 0 := by
  unfold refW
  rw [if_neg h]
  split <;> decide
theorem refW_ok {R : List Rl} {v k : Int} (h : refW R v k = 0) : 0 ≤ k ∧ k < R.length ∧ 0 ≤ v := by
  unfold refW at h
  split at h
  · rename_i h1
    split at h
    · rename_i h2
      simp [isRl] at h1
      exact ⟨h1.1, h1.2, h2⟩
    · exact absurd h (by decide)
  · exact absurd h (by decide)
theorem RulesAt.below {B : Nat} {w w' : World} {v : Value} {R : List Rl} (h : RulesAt B w v R) (hb : Below B w w') : RulesAt B w' v R := by
  obtain ⟨ao, cap, e, hn, hr⟩ := h
  refine ⟨ao, cap, e, hn, fun k r hk => ?_⟩
  obtain ⟨a, ea, hab, ao2, c2, h1, h2, h3, h4, h5, h6, h7, h8⟩ := hr k r hk
  have hc : ∀ n v, w.cell? (a.add n) = some v → w'.cell? (a.add n) = some v := fun n v hv => (hb.cell (p := a.add n) (by rw [add_block]; exact hab)).trans hv
  refine ⟨a, ea, hab, ao2, c2, hc _ _ h1, hc _ _ h2, hc _ _ h3, h4, h5, h6, fun j hj => ?_, h8⟩
  obtain ⟨a2, e2, hab2, hca⟩ := h7 j hj
  exact ⟨a2, e2, hab2, (hb.cell (p := a2.add j) (by rw [add_block]; exact hab2)).trans hca⟩
theorem RlAt.row {B : Nat} {w : World} {a : Addr} {k : Nat} {r : Rl} (h : RlAt B w a k r) (hB : B ≤ w.heap.size) : ∃ ao cap, w.cell? (a.add (k * 3 + 1)) = some (.slice ao r.right.length cap) ∧ RowAt w (.slice ao r.right.length cap) r.right ∧ RowUnder B w ao r.right := by
  obtain ⟨ao, cap, h1, h2, h3, h4, h5, h6, h7, h8⟩ := h
  refine ⟨ao, cap, h2, ⟨ao, cap, rfl, h4, h5, h6, h8.1, fun i hi => ?_⟩, h7⟩
  obtain ⟨a2, e2, hab, hca⟩ := h7 i hi
  exact ⟨a2, e2, by omega, hca⟩
theorem add_form (a : Addr) (n m : Nat) (hm : m ≠ 0) : a.add (n + m) = { block := (a.add n).block, off := (a.add n).off + m } := by
  unfold Addr.add
  rw [if_neg (by omega)]
  by_cases h : n = 0
  · subst h; simp
  · rw [if_neg h]; simp [Nat.add_assoc]
theorem rows_three {w : World} {v u z : Value} {x y q : List Int} {a : Nat} (hb : Blk w a 26 #[v, u, z]) (hv : SrcAt w v x) (hu : SrcAt w u y) (hz : SrcAt w z q) : RowsIn w ⟨a, 0, none⟩ [v, u, z] [x, y, q] := by
  refine ⟨rfl, hb.lt, fun i s hi => ?_⟩
  match i, hi with
  | 0, hi =>
    simp at hi
    subst hi
    exact ⟨by simpa [Addr.add] using hb.cell 0, hv⟩
  | 1, hi =>
    simp at hi
    subst hi
    exact ⟨by simpa [Addr.add] using hb.cell 1, hu⟩
  | 2, hi =>
    simp at hi
    subst hi
    exact ⟨by simpa [Addr.add] using hb.cell 2, hz⟩
  | i + 3, hi => simp at hi
end Go.Proofs.Ytljkobijoenabaa.dv
namespace Go.Proofs.Ytljkobijoenabaa.dv
open Go.ChangeShapes Go.WideShapes Go.ChangeAt Go.RowKit Go.Maps Go.WideMaps Go.WideElems
set_option linter.unusedVariables false
set_option linter.unusedSimpArgs false
/-! steps, one behind the other -/
def replW (R : List Rl) : List Int → List Int → Nat → List Int × Nat × Int
  | F, [], _ => (F, 0, 0)
  | F, k :: ks, i => if refW R (fvW F) k = 0 then replW R (stepL R F k) ks (i + 1) else ([], i, refW R (fvW F) k)
theorem lead_app (D X : List Int) (h : ∀ x ∈ D, x < 0) : leadW (D ++ X) = D ++ leadW X ∧ restW (D ++ X) = restW X := by
  have ht : ∀ x ∈ D, decide (x < 0) = true := fun x hx => by simpa using h x hx
  exact ⟨List.takeWhile_append_of_pos ht, List.dropWhile_append_of_pos ht⟩
theorem lead_var (D X : List Int) (v : Int) (h : ∀ x ∈ D, x < 0) (hv : 0 ≤ v) : leadW (D ++ v :: X) = D ∧ restW (D ++ v :: X) = v :: X ∧ fvW (D ++ v :: X) = v := by
  obtain ⟨h1, h2⟩ := lead_app D (v :: X) h
  have e1 : leadW (v :: X) = [] := by unfold leadW; rw [List.takeWhile_cons, if_neg (by simp; omega)]
  have e2 : restW (v :: X) = v :: X := by unfold restW; rw [List.dropWhile_cons, if_neg (by simp; omega)]
  rw [e1, List.append_nil] at h1
  rw [e2] at h2
  exact ⟨h1, h2, by unfold fvW; rw [h2]; rfl⟩
theorem fv_none (D : List Int) (h : ∀ x ∈ D, x < 0) : fvW D = -1 := by
  have := (lead_app D [] h).2
  rw [List.append_nil] at this
  unfold fvW
  rw [this]
  rfl
theorem step_parts (R : List Rl) (D T0 : List Int) (v k : Int) (h : ∀ x ∈ D, x < 0) (hv : 0 ≤ v) : stepL R (D ++ (T0 ++ [v]).reverse) k = D ++ (T0 ++ (ruleW R k).reverse).reverse := by
  rw [List.reverse_append, List.reverse_singleton, List.singleton_append]
  obtain ⟨h1, h2, _⟩ := lead_var D T0.reverse v h hv
  unfold stepL
  rw [h1, h2]
  simp
def ReplR (R : List Rl) (F ks : List Int) (w : World) : Ending → World → Prop := fun e w' => ∃ u, e = .returned (.tuple #[u, .int .i64 (replW R F ks 0).2.1, .int .i64 (replW R F ks 0).2.2]) ∧ ((replW R F ks 0).2.2 = 0 → w'.ownsRow w.heap.size 3 1 u (replW R F ks 0).1.length (IV (replW R F ks 0).1)) ∧ ((replW R F ks 0).2.2 ≠ 0 → u = .slice none 0 0) ∧ Below w.heap.size w w'
theorem parts_new {B n : Nat} {w1 : World} {vd vt : Value} {s : List Int} (ho1 : w1.ownsRow B 3 1 vd 0 (IV [])) (ho2 : w1.ownsRow B 3 1 vt n (IV s)) (hn : s.length = n) (hne : vd.ownBlock = none ∨ vd.ownBlock ≠ vt.ownBlock) (hB : B ≤ w1.heap.size) :
    Parts B (w1.alloc (.cells #[vd, vt] 73)) w1.heap.size [] s ∧ Below B w1 (w1.alloc (.cells #[vd, vt] 73)) := by
  subst hn
  exact ⟨⟨hB, vd, vt, Blk.new _ _ _, ho1.alloc _, ho2.alloc _, hne⟩, (Below.refl B w1).alloc hB _⟩
theorem Parts.below {B : Nat} {w w' : World} {b : Nat} {D T : List Int} (h : Parts B w b D T) (hb : Below w.heap.size w w') : Parts B w' b D T := by
  obtain ⟨hB, vd, vt, h1, h2, h3, h4⟩ := h
  exact ⟨hB, vd, vt, h1.below hb h1.lt, ownsRow_keep h2 (fun g hg _ => hb.block g hg), ownsRow_keep h3 (fun g hg _ => hb.block g hg), h4⟩
/-- first, told by the form alone -/
def Fst2 (B : Nat) (w0 w' : World) (b : Nat) (F : List Int) : Prop := ∃ D' T', D' ++ T'.reverse = F ∧ (∀ x ∈ D', x < 0) ∧ Parts B w' b D' T' ∧ Below B w0 w' ∧ ((T' = [] ∧ ¬ 0 ≤ fvW F) ∨ ∃ T0, T' = T0 ++ [fvW F] ∧ 0 ≤ fvW F)
theorem first_form (w : World) (B b : Nat) (D T : List Int) (hp : Parts B w b D T) (hneg : ∀ x ∈ D, x < 0) (hl : D.length + T.length ≤ 1000000) (hBw : B ≤ w.heap.size) :
    Calls Try.prog 51 #[.pointer (some ⟨b, 0, none⟩)] w fun e w' => e = .returned (.int .i64 (fvW (D ++ T.reverse))) ∧ Fst2 B w w' b (D ++ T.reverse) := by
  refine (first_any w B b D T hp hneg hl hBw).mono ?_
  rintro e w' ⟨D', T', ⟨h1, h2, h3, h4⟩, ⟨rfl, rfl⟩ | ⟨T0, v, rfl, hv, rfl⟩⟩
  · have e1 : fvW (D ++ T.reverse) = -1 := by
      rw [← h1, List.reverse_nil, List.append_nil]
      exact fv_none D' h2
    rw [e1]
    exact ⟨rfl, D', [], h1, h2, h3, h4, .inl ⟨rfl, by rw [e1]; decide⟩⟩
  · have e1 : fvW (D ++ T.reverse) = v := by
      rw [← h1, List.reverse_append, List.reverse_singleton, List.singleton_append]
      exact (lead_var D' T0.reverse v h2 hv).2.2
    refine ⟨by rw [e1], D', T0 ++ [v], h1, h2, h3, h4, .inr ⟨T0, by rw [e1], by rw [e1]; exact hv⟩⟩
set_option maxRecDepth 100000 in
set_option maxHeartbeats 1000000 in
theorem replay_any (w : World) (B0 : Nat) (ta va : Option Addr) (tl tc vl vc : Nat) (rv v kv : Value) (R : List Rl) (F ks : List Int) (hR : RulesAt B0 w rv R) (hB : B0 ≤ w.heap.size) (h : RowAt w v F) (hk : RowAt w kv ks) (hks : ks.length ≤ 4096) (hF : F.length + 8 * ks.length ≤ 100000) (h8 : ∀ r ∈ R, r.right.length ≤ 8) :
    Calls Try.prog 21 #[.agg #[.slice ta tl tc, .slice va vl vc, rv], v, kv] w (ReplR R F ks w) := by
  obtain ⟨ra, rc, rfl, hn, hrl⟩ := id hR
  have b0 := Blk.new w 25 #[.slice ta tl tc, .slice va vl vc, .slice ra R.length rc]
  have hbl : Below w.heap.size w (w.alloc (.cells #[.slice ta tl tc, .slice va vl vc, .slice ra R.length rc] 25)) := (Below.refl _ w).alloc (Nat.le_refl _) _
  have hR1 : RulesAt B0 (w.alloc (.cells #[.slice ta tl tc, .slice va vl vc, .slice ra R.length rc] 25)) (.slice ra R.length rc) R := hR.below (hbl.mono hB)
  have h1 := h.below hbl
  have hk1 := hk.below hbl
  obtain ⟨ao, cap, rfl, hcp, hcm, hcn, hcin, hcc⟩ := h
  obtain ⟨ko, kcap, rfl, kcp, kcm, kcn, kcin, kcc⟩ := hk
  generalize hW0 : w.alloc (.cells #[.slice ta tl tc, .slice va vl vc, .slice ra R.length rc] 25) = w0 at *
  have hz0 : w0.heap.size = w.heap.size + 1 := by rw [← hW0]; simp
  have hbg := begin_any w0 (w.heap.size + 1) cap ao F (fun j hj => by
    obtain ⟨a, e, hab, hca⟩ := hcc j hj
    exact ⟨a, e, by omega, (hbl.cell (p := a.add j) (by rw [add_block]; exact hab)).trans hca⟩) (by omega) (by omega)
  have KC := Lib.hid kcc
  have HR1 := Lib.hid hR1
  have H8 := Lib.hid h8
  clear hcc kcc hR hrl hcin kcin h8 hR1
  go_enter Try.func21, Try.ntmps21
  go_wp2_with fail
  refine hbg.mono ?_
  rintro e w1 ⟨vd, vt, rfl, ho1, ho2, hne, hb1⟩
  obtain ⟨ad, cd, rfl⟩ := own_len ho1
  obtain ⟨at_, ct, rfl⟩ := own_len ho2
  have n0 := Blk.new w1 73 #[.slice none 0 0, .slice none 0 0]
  have x0 := n0.cell 0
  have x1 := n0.cell 1
  have y0 := n0.frozen 0
  have y1 := n0.frozen 1
  simp only [List.getElem?_toArray, List.getElem?_cons_zero, List.getElem?_cons_succ] at x0 x1
  clear hbg
  go_wp2
  obtain ⟨hP0, hbl0⟩ := parts_new ho1 ho2 (by simp) hne (by have := hb1.size; omega)
  have hBb : Below (w.heap.size + 1) w0 (w1.alloc (.cells #[.slice ad 0 cd, .slice at_ F.length ct] 73)) := hb1.trans hbl0
  go_loopw [20] (fun i wr => ∃ (j : Nat) (D T : List Int), j ≤ ks.length ∧ i = .int .i64 j ∧ Parts (w.heap.size + 1) wr w1.heap.size D T ∧ (∀ x ∈ D, x < 0) ∧ Below (w.heap.size + 1) w0 wr ∧ replW R F ks 0 = replW R (D ++ T.reverse) (ks.drop j) j ∧ D.length + T.length + 8 * (ks.length - j) ≤ 100000) (fun i _ => ks.length - (intOf i).toNat)
  case atStart => exact ⟨0, [], F.reverse, Nat.zero_le _, rfl, hP0, by simp, hBb, by simp, by simpa using hF⟩
  case round =>
    obtain ⟨j, D, T, hj, rfl, hP, hneg, hbr, heq, hbd⟩ := hrel
    clear hP0 hBb x0 x1 y0 y1 n0 hbl0
    have hzr := hbr.size
    have bx := b0.below hbr (by omega)
    have d0 := bx.cell 0
    have d1 := bx.cell 1
    have d2 := bx.cell 2
    simp only [List.getElem?_toArray, List.getElem?_cons_zero, List.getElem?_cons_succ] at d0 d1 d2
    by_cases hlt : j < ks.length
    · obtain ⟨ka, rfl, kab, kca⟩ := KC.out j hlt
      have kc1 : wr.cell? (ka.add j) = some (.int .i64 (ks.getD j 0)) := (hbr.cell (p := ka.add j) (by rw [add_block]; omega)).trans ((hbl.cell (p := ka.add j) (by rw [add_block]; exact kab)).trans kca)
      have hdrop : ks.drop j = ks.getD j 0 :: ks.drop (j + 1) := by rw [List.drop_eq_getElem_cons hlt, List.getD_eq_getElem?_getD, List.getElem?_eq_getElem hlt]; rfl
      rw [hdrop] at heq
      have HEQ := Lib.hid heq
      clear heq hdrop kca
      generalize ks.getD j 0 = k at *
      have hfst := first_form wr.drew (w.heap.size + 1) w1.heap.size D T hP hneg (by omega) (by show w.heap.size + 1 ≤ wr.heap.size; omega)
      generalize hG : D ++ T.reverse = G at *
      have hGl : D.length + T.length = G.length := by rw [← hG]; simp
      have HGL := Lib.hid hGl
      clear hGl hG
      have hf2 : Calls Try.prog 51 #[.pointer (some ⟨w1.heap.size, 0, none⟩)] wr.drew fun e w3 => e = .returned (.int .i64 (fvW G)) ∧ Fst2 (w.heap.size + 1) wr.drew w3 w1.heap.size G ∧ Blk w3 w.heap.size 25 #[.slice ta tl tc, .slice va vl vc, .slice ra R.length rc] ∧ Below (w.heap.size + 1) w0 w3 := hfst.mono fun e w3 ⟨he, hF⟩ => by
        obtain ⟨D3, T3, hG3, hn3, hP3, hb3, hor3⟩ := id hF
        exact ⟨he, hF, Blk.below (w := wr.drew) bx hb3 (by omega), hbr.drew.trans hb3⟩
      have hrf : ∀ w3, Below (w.heap.size + 1) w0 w3 → Calls Try.prog 46 #[.agg #[.slice ta tl tc, .slice va vl vc, .slice ra R.length rc], .int .i64 (fvW G), .int .i64 k] w3 fun e w' => e = .returned (.int .i64 (refW R (fvW G) k)) ∧ Below w3.heap.size w3 w' := fun w3 hb =>
        refusal_any w3 B0 ta va tl tc vl vc (.slice ra R.length rc) R (fvW G) k (HR1.out.below (hb.mono (by omega))) (by have := hb.size; omega)
      have HRF := Lib.hid hrf
      clear hfst hrf
      go_wp2
      go_region_law (first
        | (go_simp; go_at_call 51; refine hf2.mono ?_; rintro e w3 ⟨rfl, hF3, bx3, hb3⟩; have e0 := bx3.cell 0; have e1 := bx3.cell 1; have e2 := bx3.cell 2; simp only [List.getElem?_toArray, List.getElem?_cons_zero, List.getElem?_cons_succ] at e0 e1 e2)
        | (go_simp; go_at_call 46; refine (HRF.out _ hb3).mono ?_; rintro e w4 ⟨rfl, hb4⟩))
      all_goals
        obtain ⟨D3, T3, hG3, hn3, hP3, hb3', hor3⟩ := hF3
        have hP4 := hP3.below hb4
        have hz3 := hb3.size
        have hz4 := hb4.size
        have hb4' : Below (w.heap.size + 1) w0 w4 := hb3.trans (hb4.mono (by omega))
        have bx4 := bx3.below hb4 bx3.lt
        have g2 := bx4.cell 2
        simp only [List.getElem?_toArray, List.getElem?_cons_zero, List.getElem?_cons_succ] at g2
        clear hP3 hb3' hP hneg hf2 bx bx3
        by_cases hE : refW R (fvW G) k = 0
        · obtain ⟨hk0, hk1, hv0⟩ := refW_ok hE
          rcases hor3 with ⟨_, hv1⟩ | ⟨T0, rfl, _⟩
          · exact absurd hv0 hv1
          · obtain ⟨kn, rfl⟩ : ∃ kn : Nat, k = kn := ⟨k.toNat, by omega⟩
            obtain ⟨r, hrk⟩ : ∃ r, R[kn]? = some r := ⟨_, List.getElem?_eq_getElem (by omega)⟩
            have hrw : ruleW R (kn : Int) = r.right := by simp [ruleW, List.getD_eq_getElem?_getD, hrk]
            have hr8 : r.right.length ≤ 8 := H8.out r (List.mem_of_getElem? hrk)
            have hsp := step_parts R D3 T0 (fvW G) kn hn3 hv0
            rw [hG3, hrw] at hsp
            obtain ⟨ra', rc', er, _, hr2⟩ := HR1.out.below (hb4'.mono (by omega : B0 ≤ w.heap.size + 1))
            cases er
            obtain ⟨a2, rfl, hab2, hrl2⟩ := hr2 kn r hrk
            obtain ⟨ao3, cap3, hc3, hrow3, hun3⟩ := hrl2.row (by omega)
            rw [add_form a2 (kn * 3) 1 (by decide)] at hc3
            have hlen3 : D3.length + (T0.length + 1) = G.length := by rw [← hG3]; simp
            have hglb := HGL.out
            have hrep := replace_any w4 (w.heap.size + 1) w1.heap.size cap3 ao3 D3 T0 r.right (fvW G) hP4 (fun j hj => by
              obtain ⟨a, e, hab, hca⟩ := hun3 j hj
              exact ⟨a, e, by omega, hca⟩) (by omega) (by omega) (by omega)
            have hfin : replW R F ks 0 = replW R (D3 ++ (T0 ++ r.right.reverse).reverse) (ks.drop (j + 1)) (j + 1) := by
              rw [HEQ.out]
              conv => lhs; unfold replW
              rw [if_pos hE, hsp]
            have HFIN := Lib.hid hfin
            have HLN := Lib.hid hlen3
            have HGB := Lib.hid hglb
            rw [hE]
            clear hfin hsp hrl2 hr2 hun3 hrow3 hlen3 hglb hrw
            go_wp2_with fail
            refine hrep.mono ?_
            rintro e w5 ⟨⟨v5, rfl⟩, hP5, hb5⟩
            go_wp2
            refine ⟨⟨j + 1, D3, T0 ++ r.right.reverse, hlt, congrArg (Value.int .i64) (by omega), hP5, hn3, hb4'.trans hb5, HFIN.out, ?_⟩, by simp only [intOf]; omega⟩
            have h1 := HLN.out
            have h2 := HGB.out
            simp
            omega
        · have hrs : replW R F ks 0 = ([], j, refW R (fvW G) k) := by
            rw [HEQ.out]
            conv => lhs; unfold replW
            rw [if_neg hE]
          have hfinal : ReplR R F ks w (.returned (.tuple #[.slice none 0 0, .int .i64 (j : Int), .int .i64 (refW R (fvW G) k)])) w4 := by
            unfold ReplR
            rw [hrs]
            exact ⟨.slice none 0 0, rfl, fun h => absurd h hE, fun _ => rfl, hbl.trans (hb4'.mono (by omega))⟩
          have HF := Lib.hid hfinal
          clear hfinal hrs
          generalize refW R (fvW G) k = E at *
          go_wp2
          refine bodyPost_ret (v := .tuple #[.slice none 0 0, .int .i64 (j : Int), .int .i64 E]) (by simp [results, Try.results21, go_sem]) rfl HF.out
    · obtain rfl : j = ks.length := by omega
      have hfo := form_any wr (w.heap.size + 1) w1.heap.size D T hP (by omega) (by omega)
      have hrs : replW R F ks 0 = (D ++ T.reverse, 0, 0) := by
        rw [heq, List.drop_length]
        rfl
      have HRS := Lib.hid hrs
      clear hrs heq
      go_wp2_with fail
      refine hfo.mono ?_
      rintro e w5 ⟨u, rfl, ho5, hb5⟩
      go_wp2
      refine bodyPost_ret (v := .tuple #[u, .int .i64 0, .int .i64 0]) (by simp [results, Try.results21, go_sem]) rfl ?_
      unfold ReplR
      rw [HRS.out]
      exact ⟨u, rfl, fun _ => own_weak ho5 (by omega), fun h => absurd rfl h, hbl.trans ((hbr.trans hb5).mono (by omega))⟩
end Go.Proofs.Ytljkobijoenabaa.dv
namespace Go.Proofs.Ytljkobijoenabaa.dv
open Go.ChangeShapes Go.WideShapes Go.ChangeAt Go.RowKit Go.Maps Go.WideMaps Go.WideElems
set_option linter.unusedVariables false
set_option linter.unusedSimpArgs false
/-! replays by mathematics alone -/
theorem repl_cons (R : List Rl) (k : Int) (ks F : List Int) (i : Nat) : replW R F (k :: ks) i = if refW R (fvW F) k = 0 then replW R (stepL R F k) ks (i + 1) else ([], i, refW R (fvW F) k) := by rw [replW]
theorem repl_app (R : List Rl) : ∀ (xs ys F : List Int) (i : Nat), replW R F (xs ++ ys) i = if (replW R F xs i).2.2 = 0 then replW R (replW R F xs i).1 ys (i + xs.length) else replW R F xs i
  | [], ys, F, i => by simp [replW]
  | k :: xs, ys, F, i => by
    rw [List.cons_append, repl_cons, repl_cons]
    by_cases hE : refW R (fvW F) k = 0
    · rw [if_pos hE, if_pos hE, repl_app R xs ys (stepL R F k) (i + 1), List.length_cons, show i + 1 + xs.length = i + (xs.length + 1) by omega]
    · rw [if_neg hE, if_neg hE]
      simp [hE]
theorem repl_ok (R : List Rl) : ∀ (ks F : List Int) (i : Nat), (replW R F ks i).2.2 = 0 → (replW R F ks i).2.1 = 0
  | [], F, i, _ => rfl
  | k :: ks, F, i, h => by
    rw [repl_cons] at h ⊢
    by_cases hE : refW R (fvW F) k = 0
    · rw [if_pos hE] at h ⊢
      exact repl_ok R ks _ _ h
    · rw [if_neg hE] at h
      exact absurd h hE
/-- one step more -/
theorem repl_take (R : List Rl) (F G ks : List Int) (j : Nat) (hj : j < ks.length) (h : replW R F (ks.take j) 0 = (G, 0, 0)) : replW R F (ks.take (j + 1)) 0 = if refW R (fvW G) (ks.getD j 0) = 0 then (stepL R G (ks.getD j 0), 0, 0) else ([], j, refW R (fvW G) (ks.getD j 0)) := by
  have e : ks.take (j + 1) = ks.take j ++ [ks.getD j 0] := by
    rw [List.take_succ_eq_append_getElem hj, List.getD_eq_getElem?_getD, List.getElem?_eq_getElem hj]; rfl
  rw [e, repl_app, h]
  simp only [if_true]
  rw [repl_cons]
  simp [replW, Nat.min_eq_left (Nat.le_of_lt hj)]
theorem fv_rest {G : List Int} (h : 0 ≤ fvW G) : restW G ≠ [] := by
  intro e
  unfold fvW at h
  rw [e] at h
  exact absurd h (by decide)
theorem step_len (R : List Rl) (G : List Int) (k : Int) (h : 0 ≤ fvW G) : (stepL R G k).length + 1 = G.length + (ruleW R k).length ∧ 1 ≤ G.length := by
  have hr := fv_rest h
  have e := congrArg List.length (lead_rest G)
  have ht : (restW G).length = (restW G).tail.length + 1 := by
    cases hx : restW G with
    | nil => exact absurd hx hr
    | cons x l => simp
  simp at e
  unfold stepL
  simp only [List.length_append]
  omega
end Go.Proofs.Ytljkobijoenabaa.dv
namespace Go.Proofs.Ytljkobijoenabaa.dv
/-! steps in parts, and what stands behind -/
theorem repl_shift (R : List Rl) : ∀ (ks F : List Int) (i j : Nat), (replW R F ks i).1 = (replW R F ks j).1 ∧ (replW R F ks i).2.2 = (replW R F ks j).2.2 ∧ ((replW R F ks i).2.2 ≠ 0 → (replW R F ks i).2.1 + j = (replW R F ks j).2.1 + i)
  | [], F, i, j => ⟨rfl, rfl, fun h => absurd rfl h⟩
  | k :: ks, F, i, j => by
    rw [repl_cons, repl_cons]
    by_cases hE : refW R (fvW F) k = 0
    · rw [if_pos hE, if_pos hE]
      obtain ⟨h1, h2, h3⟩ := repl_shift R ks (stepL R F k) (i + 1) (j + 1)
      exact ⟨h1, h2, fun h => by have := h3 h; omega⟩
    · rw [if_neg hE, if_neg hE]
      exact ⟨rfl, rfl, fun _ => by simp only; omega⟩
theorem repl_err (R : List Rl) : ∀ (ks F : List Int) (i : Nat), (replW R F ks i).2.2 ≠ 0 → (replW R F ks i).1 = []
  | [], F, i, h => absurd rfl h
  | k :: ks, F, i, h => by
    rw [repl_cons] at h ⊢
    by_cases hE : refW R (fvW F) k = 0
    · rw [if_pos hE] at h ⊢
      exact repl_err R ks _ _ h
    · rw [if_neg hE]
theorem lead_neg : ∀ (F : List Int) (x : Int), x ∈ leadW F → x < 0
  | [], x, h => by cases h
  | y :: F, x, h => by
    unfold leadW at h
    rw [List.takeWhile_cons] at h
    split at h
    · rename_i hy
      rcases List.mem_cons.1 h with rfl | h
      · simpa using hy
      · exact lead_neg F x h
    · cases h
theorem lead_step (R : List Rl) (F : List Int) (k : Int) : ∃ X, leadW (stepL R F k) = leadW F ++ X :=
  ⟨_, (lead_app (leadW F) _ (lead_neg F)).1⟩
theorem repl_lead (R : List Rl) : ∀ (ks F : List Int) (i : Nat), (replW R F ks i).2.2 = 0 → ∃ X, leadW (replW R F ks i).1 = leadW F ++ X
  | [], F, i, _ => ⟨[], by simp [replW]⟩
  | k :: ks, F, i, h => by
    rw [repl_cons] at h ⊢
    by_cases hE : refW R (fvW F) k = 0
    · rw [if_pos hE] at h ⊢
      obtain ⟨X, hX⟩ := repl_lead R ks _ _ h
      obtain ⟨Y, hY⟩ := lead_step R F k
      exact ⟨Y ++ X, by rw [hX, hY, List.append_assoc]⟩
    · rw [if_neg hE] at h
      exact absurd h hE
/-- in two parts -/
theorem repl_parts (R : List Rl) (F ks : List Int) (c : Nat) (hc : c ≤ ks.length) (h : (replW R F (ks.take c) 0).2.2 = 0) :
    (replW R F ks 0).1 = (replW R (replW R F (ks.take c) 0).1 (ks.drop c) 0).1 ∧ (replW R F ks 0).2.2 = (replW R (replW R F (ks.take c) 0).1 (ks.drop c) 0).2.2 ∧ ((replW R F ks 0).2.2 ≠ 0 → (replW R F ks 0).2.1 = c + (replW R (replW R F (ks.take c) 0).1 (ks.drop c) 0).2.1) := by
  have e := repl_app R (ks.take c) (ks.drop c) F 0
  rw [List.take_append_drop, if_pos h] at e
  rw [e]
  have hl : 0 + (ks.take c).length = c := by simp; omega
  rw [hl]
  obtain ⟨h1, h2, h3⟩ := repl_shift R (ks.drop c) (replW R F (ks.take c) 0).1 c 0
  exact ⟨h1, h2, fun h => by have := h3 h; omega⟩
theorem repl_part_err (R : List Rl) (F ks : List Int) (c : Nat) (h : (replW R F (ks.take c) 0).2.2 ≠ 0) : replW R F ks 0 = replW R F (ks.take c) 0 := by
  have e := repl_app R (ks.take c) (ks.drop c) F 0
  rwa [List.take_append_drop, if_neg h] at e
theorem rest_var {F : List Int} (h : restW F ≠ []) : ∃ v X, restW F = v :: X ∧ 0 ≤ v := by
  cases hr : restW F with
  | nil => exact absurd hr h
  | cons v X =>
    have := List.head?_dropWhile_not (fun x => decide (x < 0)) F
    rw [show F.dropWhile (fun x => decide (x < 0)) = v :: X from hr] at this
    exact ⟨v, X, rfl, by simpa using this⟩
/-- what stands behind a form that has a variable -/
theorem behind_form (F B : List Int) (h : restW F ≠ []) : leadW (F ++ B) = leadW F ∧ restW (F ++ B) = restW F ++ B ∧ fvW (F ++ B) = fvW F := by
  obtain ⟨v, X, hr, hv⟩ := rest_var h
  have e : F ++ B = leadW F ++ v :: (X ++ B) := by
    conv => lhs; rw [← lead_rest F, hr]
    simp
  obtain ⟨h1, h2, h3⟩ := lead_var (leadW F) (X ++ B) v (lead_neg F) hv
  rw [← e] at h1 h2 h3
  refine ⟨h1, by rw [h2, hr]; rfl, ?_⟩
  rw [h3]
  unfold fvW
  rw [hr]
  rfl
theorem repl_behind (R : List Rl) (B : List Int) : ∀ (ks F : List Int) (i : Nat), (replW R F ks i).2.2 = 0 → replW R (F ++ B) ks i = ((replW R F ks i).1 ++ B, 0, 0)
  | [], F, i, _ => by simp [replW]
  | k :: ks, F, i, h => by
    rw [repl_cons] at h ⊢
    by_cases hE : refW R (fvW F) k = 0
    · rw [if_pos hE] at h
      rw [repl_cons, if_pos hE]
      obtain ⟨h1, h2, h3⟩ := behind_form F B (fv_rest (refW_ok hE).2.2)
      rw [h3, if_pos hE]
      have hs : stepL R (F ++ B) k = stepL R F k ++ B := by
        obtain ⟨v, X, hr, hv⟩ := rest_var (fv_rest (refW_ok hE).2.2)
        unfold stepL
        rw [h1, h2, hr]
        simp
      rw [hs]
      exact repl_behind R B ks _ _ h
    · rw [if_neg hE] at h
      exact absurd h hE
end Go.Proofs.Ytljkobijoenabaa.dv
namespace Go.Proofs.Ytljkobijoenabaa.dv
set_option linter.unusedVariables false
/-! whatever stands in a derivation of a word -/
def varsIn (P : Int → Prop) (F : List Int) : Prop := ∀ s ∈ F, 0 ≤ s → P s
theorem rl_at {R : List Rl} {v k : Int} (h : refW R v k = 0) : ∃ r ∈ R, r.left = v ∧ r.right = ruleW R k ∧ 0 ≤ v ∧ R[k.toNat]? = some r := by
  obtain ⟨h0, h1, h2⟩ := refW_ok h
  have hk : k.toNat < R.length := by omega
  refine ⟨R[k.toNat], List.getElem_mem hk, ?_, ?_, h2, List.getElem?_eq_getElem hk⟩
  · unfold refW at h
    have hi : isRl R k = true := by simp [isRl]; omega
    rw [if_pos hi, if_pos h2] at h
    split at h
    · rename_i e
      rw [List.getD_eq_getElem?_getD, List.getElem?_eq_getElem hk] at e
      exact e
    · exact absurd h (by decide)
  · unfold ruleW
    rw [List.getD_eq_getElem?_getD, List.getElem?_eq_getElem hk]
    rfl
theorem split_form {F : List Int} (h : 0 ≤ fvW F) : F = leadW F ++ fvW F :: (restW F).tail := by
  have hr := fv_rest h
  conv => lhs; rw [← lead_rest F]
  cases hx : restW F with
  | nil => exact absurd hx hr
  | cons x l =>
    have : fvW F = x := by unfold fvW; rw [hx]; rfl
    rw [this]
    rfl
/-- what holds of rules from their right to their left holds all along a derivation of terminals -/
theorem back_all {R : List Rl} (P : Int → Prop) (hP : ∀ r ∈ R, varsIn P r.right → P r.left) : ∀ (ks F : List Int) (i : Nat) (G : List Int), replW R F ks i = (G, 0, 0) → (∀ s ∈ G, s < 0) → varsIn P F ∧ ∀ k ∈ ks, ∃ r ∈ R, R[k.toNat]? = some r ∧ 0 ≤ k ∧ P r.left ∧ varsIn P r.right
  | [], F, i, G, h, hG => by
    have : F = G := congrArg Prod.fst h
    subst this
    exact ⟨fun s hs h0 => by have := hG s hs; omega, fun k hk => by cases hk⟩
  | k :: ks, F, i, G, h, hG => by
    rw [repl_cons] at h
    by_cases hE : refW R (fvW F) k = 0
    · rw [if_pos hE] at h
      obtain ⟨r, hr, hl, hrt, hv, hk⟩ := rl_at hE
      obtain ⟨ih1, ih2⟩ := back_all P hP ks _ _ G h hG
      have hright : varsIn P r.right := fun s hs h0 => ih1 s (by unfold stepL; rw [← hrt]; simp [hs]) h0
      have hleft := hP r hr hright
      refine ⟨fun s hs h0 => ?_, fun k' hk' => ?_⟩
      · rw [split_form hv] at hs
        rcases List.mem_append.1 hs with h1 | h1
        · exact ih1 s (by unfold stepL; simp [h1]) h0
        · rcases List.mem_cons.1 h1 with h1 | h1
          · rw [h1, ← hl]; exact hleft
          · exact ih1 s (by unfold stepL; simp [h1]) h0
      · rcases List.mem_cons.1 hk' with rfl | hk'
        · exact ⟨r, hr, hk, (refW_ok hE).1, hleft, hright⟩
        · exact ih2 k' hk'
    · rw [if_neg hE] at h
      exact absurd (congrArg (fun z => z.2.2) h) hE
/-- what holds of rules from their left to their right, if it does of the form -/
theorem forth_all {R : List Rl} (P Q : Int → Prop) (hQ : ∀ r ∈ R, Q r.left → varsIn P r.right → varsIn Q r.right) (hP : ∀ r ∈ R, varsIn P r.right → P r.left) : ∀ (ks F : List Int) (i : Nat) (G : List Int), replW R F ks i = (G, 0, 0) → (∀ s ∈ G, s < 0) → varsIn Q F → ∀ k ∈ ks, ∃ r ∈ R, R[k.toNat]? = some r ∧ Q r.left
  | [], F, i, G, h, hG, hF => fun k hk => by cases hk
  | k :: ks, F, i, G, h, hG, hF => by
    have hb := back_all P hP (k :: ks) F i G h hG
    rw [repl_cons] at h
    by_cases hE : refW R (fvW F) k = 0
    · rw [if_pos hE] at h
      obtain ⟨r, hr, hl, hrt, hv, hk⟩ := rl_at hE
      have hsp := split_form hv
      have hq : Q r.left := by
        rw [hl]
        have hm : fvW F ∈ leadW F ++ fvW F :: (restW F).tail := by simp
        rw [← hsp] at hm
        exact hF _ hm hv
      obtain ⟨r', _, hk2, _, _, hp⟩ := hb.2 k (by simp)
      rw [hk] at hk2
      cases hk2
      have hr2 := hQ r hr hq hp
      have hF2 : varsIn Q (stepL R F k) := fun s hs h0 => by
        unfold stepL at hs
        rw [← hrt] at hs
        rcases List.mem_append.1 hs with h1 | h1
        · exact hF s (by rw [hsp]; simp [h1]) h0
        · rcases List.mem_append.1 h1 with h1 | h1
          · exact hr2 s h1 h0
          · exact hF s (by rw [hsp]; simp [h1]) h0
      intro k' hk'
      rcases List.mem_cons.1 hk' with rfl | hk'
      · exact ⟨r, hr, hk, hq⟩
      · exact forth_all P Q hQ hP ks _ _ G h hG hF2 k' hk'
    · rw [if_neg hE] at h
      exact absurd (congrArg (fun z => z.2.2) h) hE
theorem sumC_app (f : Nat → Nat) (A B : List Int) : sumC f (A ++ B) = sumC f A + sumC f B := by
  unfold sumC
  rw [List.map_append, List.sum_append]
theorem sumC_term (f : Nat → Nat) : ∀ (G : List Int), (∀ s ∈ G, s < 0) → sumC f G = G.length
  | [], _ => rfl
  | s :: G, h => by
    have ih := sumC_term f G (fun t ht => h t (List.mem_cons_of_mem _ ht))
    have h0 := h s (by simp)
    unfold sumC at *
    simp only [List.map_cons, List.sum_cons, List.length_cons, if_pos h0]
    omega
theorem sumC_at (f : Nat → Nat) (F : List Int) (s : Int) (hs : s ∈ F) (h0 : 0 ≤ s) : f s.toNat ≤ sumC f F := by
  induction F with
  | nil => cases hs
  | cons t F ih =>
    unfold sumC at *
    simp only [List.map_cons, List.sum_cons]
    rcases List.mem_cons.1 hs with rfl | hs
    · rw [if_neg (by omega)]; omega
    · have := ih hs; omega
/-- no word is shorter than its form costs -/
theorem cost_all {R : List Rl} {f : Nat → Nat} (hT : InT R f) : ∀ (ks F : List Int) (i : Nat) (G : List Int), replW R F ks i = (G, 0, 0) → (∀ s ∈ G, s < 0) → sumC f F ≤ G.length ∧ ∀ k ∈ ks, ∃ r ∈ R, R[k.toNat]? = some r ∧ f r.left.toNat ≤ G.length
  | [], F, i, G, h, hG => by
    have : F = G := congrArg Prod.fst h
    subst this
    exact ⟨Nat.le_of_eq (sumC_term f F hG), fun k hk => by cases hk⟩
  | k :: ks, F, i, G, h, hG => by
    rw [repl_cons] at h
    by_cases hE : refW R (fvW F) k = 0
    · rw [if_pos hE] at h
      obtain ⟨r, hr, hl, hrt, hv, hk⟩ := rl_at hE
      obtain ⟨ih1, ih2⟩ := cost_all hT ks _ _ G h hG
      have h1 := hT r hr
      have e1 : sumC f (stepL R F k) = sumC f (leadW F) + (sumC f r.right + sumC f (restW F).tail) := by
        unfold stepL
        rw [sumC_app, sumC_app, hrt]
      have e2 : sumC f F = sumC f (leadW F) + (f r.left.toNat + sumC f (restW F).tail) := by
        conv => lhs; rw [split_form hv]
        rw [sumC_app]
        unfold sumC
        simp only [List.map_cons, List.sum_cons]
        rw [if_neg (by omega), hl]
      have hsum : sumC f F ≤ G.length := by omega
      refine ⟨hsum, fun k' hk' => ?_⟩
      rcases List.mem_cons.1 hk' with rfl | hk'
      · exact ⟨r, hr, hk, by omega⟩
      · exact ih2 k' hk'
    · rw [if_neg hE] at h
      exact absurd (congrArg (fun z => z.2.2) h) hE
/-- where the word is empty -/
theorem back_empty {R : List Rl} (P : Int → Prop) (hP : ∀ r ∈ R, (∀ s ∈ r.right, 0 ≤ s ∧ P s) → P r.left) : ∀ (ks F : List Int) (i : Nat), replW R F ks i = ([], 0, 0) → ∀ s ∈ F, 0 ≤ s ∧ P s
  | [], F, i, h => by
    have : F = [] := congrArg Prod.fst h
    subst this
    exact fun s hs => by cases hs
  | k :: ks, F, i, h => by
    rw [repl_cons] at h
    by_cases hE : refW R (fvW F) k = 0
    · rw [if_pos hE] at h
      obtain ⟨r, hr, hl, hrt, hv, hk⟩ := rl_at hE
      have ih := back_empty P hP ks _ _ h
      have hleft := hP r hr fun s hs => ih s (by unfold stepL; rw [← hrt]; simp [hs])
      intro s hs
      rw [split_form hv] at hs
      rcases List.mem_append.1 hs with h1 | h1
      · exact ih s (by unfold stepL; simp [h1])
      · rcases List.mem_cons.1 h1 with h1 | h1
        · rw [h1]; exact ⟨hv, by rw [← hl]; exact hleft⟩
        · exact ih s (by unfold stepL; simp [h1])
    · rw [if_neg hE] at h
      exact absurd (congrArg (fun z => z.2.2) h) hE
/-! the derivation by first rules -/
inductive Exps (R : List Rl) (W : List Way) : List Int → List Int → Prop
  | nil : Exps R W [] []
  | term {s : Int} {F ks : List Int} (h0 : s < 0) (h : Exps R W F ks) : Exps R W (s :: F) ks
  | var {s : Int} {k : Nat} {r : Rl} {F ks : List Int} (h0 : 0 ≤ s) (h1 : (W.getD s.toNat noW).2.2 = k) (h2 : R[k]? = some r) (h : Exps R W (r.right ++ F) ks) : Exps R W (s :: F) ((k : Int) :: ks)
theorem fv_app {D X : List Int} {s : Int} (h : ∀ x ∈ D, x < 0) (hs : 0 ≤ s) : fvW (D ++ s :: X) = s ∧ leadW (D ++ s :: X) = D ∧ restW (D ++ s :: X) = s :: X := by
  obtain ⟨h1, h2, h3⟩ := lead_var D X s h hs
  exact ⟨h3, h1, h2⟩
theorem exps_ok {R : List Rl} {n : Nat} {W : List Way} (hI : Inv R n W) (hd : Done R W) {F ks : List Int} (h : Exps R W F ks) : ∀ (D : List Int) (i : Nat), (∀ x ∈ D, x < 0) →
    ∃ G, replW R (D ++ F) ks i = (G, 0, 0) ∧ (∀ x ∈ G, x < 0) ∧ G.length = D.length + sumC (fun v => (W.getD v noW).1) F := by
  induction h with
  | nil =>
    intro D i hD
    exact ⟨D, by simp [replW], hD, by simp [sumC]⟩
  | @term s F ks h0 _ ih =>
    intro D i hD
    obtain ⟨G, h1, h2, h3⟩ := ih (D ++ [s]) i (fun x hx => by
      rcases List.mem_append.1 hx with h | h
      · exact hD x h
      · rw [List.mem_singleton.1 h]; exact h0)
    refine ⟨G, by simpa using h1, h2, ?_⟩
    rw [h3]
    unfold sumC
    simp [h0]
    omega
  | @var s k r F ks h0 h1 h2 _ ih =>
    intro D i hD
    obtain ⟨e1, e2, e3, _⟩ := way_eq hI hd h1 h2
    obtain ⟨f1, f2, f3⟩ := fv_app (X := F) hD h0
    have hk : k < R.length := (List.getElem?_eq_some_iff.1 h2).1
    have hE : refW R (fvW (D ++ s :: F)) k = 0 := by
      rw [f1]
      unfold refW
      rw [if_pos (by simp [isRl]; omega), if_pos h0, List.getD_eq_getElem?_getD, Int.toNat_natCast, h2, if_pos]
      show r.left = s
      omega
    have hst : stepL R (D ++ s :: F) k = D ++ (r.right ++ F) := by
      unfold stepL ruleW
      rw [f2, f3, List.getD_eq_getElem?_getD, Int.toNat_natCast, h2]
      rfl
    obtain ⟨G, g1, g2, g3⟩ := ih D (i + 1) hD
    refine ⟨G, ?_, g2, ?_⟩
    · rw [repl_cons, if_pos hE, hst]
      exact g1
    · rw [g3, sumC_app]
      have e : cS W r.right = sumC (fun v => (W.getD v noW).1) r.right := by
        unfold cS sumC
        congr 1
        apply List.map_congr_left
        intro s _
        unfold wat
        split <;> rfl
      rw [← e, ← e3]
      unfold sumC
      simp only [List.map_cons, List.sum_cons]
      rw [if_neg (by omega)]
theorem exps_best {R : List Rl} {n : Nat} {W : List Way} (hI : Inv R n W) (hd : Done R W) {F ks : List Int} (h : Exps R W F ks) : ∀ k ∈ ks, ∃ r, R[k.toNat]? = some r ∧ 0 ≤ k ∧ (W.getD r.left.toNat noW).2.2 = k := by
  induction h with
  | nil => intro k hk; cases hk
  | term _ _ ih => exact ih
  | @var s k r F ks h0 h1 h2 _ ih =>
    intro k' hk
    rcases List.mem_cons.1 hk with rfl | hk
    · obtain ⟨e1, _⟩ := way_eq hI hd h1 h2
      refine ⟨r, by simpa using h2, by omega, ?_⟩
      rw [show r.left.toNat = s.toNat by omega]
      exact h1
    · exact ih k' hk
/-- how many steps are left, and symbols -/
def todoM (W : List Way) (F : List Int) : Nat := 16 * sS W F + F.length
theorem todo_term (W : List Way) {s : Int} (h : s < 0) (F : List Int) : todoM W F < todoM W (s :: F) := by
  unfold todoM sS
  simp only [List.map_cons, List.sum_cons, List.length_cons]
  omega
theorem todo_var (W : List Way) {s : Int} {r : Rl} (h0 : 0 ≤ s) (h8 : r.right.length ≤ 8) (h : (W.getD s.toNat noW).2.1 = 1 + sS W r.right) (F : List Int) : todoM W (r.right ++ F) < todoM W (s :: F) := by
  unfold todoM sS at *
  simp only [List.map_append, List.sum_append, List.length_append, List.map_cons, List.sum_cons, List.length_cons, wat_var h0]
  omega
end Go.Proofs.Ytljkobijoenabaa.dv
