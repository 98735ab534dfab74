import Derived.Test.YtomikgkoegkofaaDwd
import Derived.Test.YtomikgkoegkofaaDwg
namespace Go.Proofs.Ytomikgkoegkofaa.dv
open Go.ChangeShapes Go.WideShapes Go.ChangeAt Go.RowKit Go.Maps Go.WideMaps Go.WideElems
set_option linter.unusedVariables false
set_option linter.unusedSimpArgs false
/-! the document's Weight -/
set_option maxRecDepth 100000 in
set_option maxHeartbeats 2000000 in
theorem rweight_any (w : World) (B : Nat) (ta va : Option Addr) (tl tc vl vc : Nat) (rv kv : Value) (R : List Rl) (ks : List Int) (hR : RulesAt B w rv R) (hB : B ≤ w.heap.size) (hk : RowAt w kv ks) (hks : ks.length ≤ 60) (hW : Wf R) :
    Calls Try.prog 27 #[.agg #[.slice ta tl tc, .slice va vl vc, rv], kv] w fun e w' => ∃ r, e = .returned (.float .f64 r) ∧ IsF (sumF (wtsW R ks)) r ∧ Below w.heap.size w w' := by
  obtain ⟨i0, hi, hz0, hz1, hz2⟩ := info_parts info24
  have hwf := wts_wf hW ks
  have hwl := wts_len R ks
  obtain ⟨ra, rc, rfl, hn, hrl⟩ := id hR
  have b0 := Blk.new w 25 #[.slice ta tl tc, .slice va vl vc, .slice ra R.length rc]
  have hbl : Below w.heap.size w (w.alloc (.cells #[.slice ta tl tc, .slice va vl vc, .slice ra R.length rc] 25)) := (Below.refl _ w).alloc (Nat.le_refl _) _
  obtain ⟨ko, kcap, rfl, kcp, kcm, kcn, kcin, kcc⟩ := hk
  have hR1 : RulesAt B (w.alloc (.cells #[.slice ta tl tc, .slice va vl vc, .slice ra R.length rc] 25)) (.slice ra R.length rc) R := hR.below (hbl.mono hB)
  generalize hW0 : w.alloc (.cells #[.slice ta tl tc, .slice va vl vc, .slice ra R.length rc] 25) = w0 at *
  have hz0' : w0.heap.size = w.heap.size + 1 := by rw [← hW0]; simp
  have KC := Lib.hid kcc
  have HR1 := Lib.hid hR1
  have HWF := Lib.hid hwf
  have HWL := Lib.hid hwl
  have hn' : R.length ≤ 9223372036854775807 := by unfold maxLen at hn; omega
  have own0 : (w0.alloc (.cells #[] 46)).ownsRow (w.heap.size + 1) 46 1 (.slice (some ⟨w.heap.size + 1, 0, none⟩) 0 0) 0 [] := by
    have := World.ownsRow_lit (base := w.heap.size + 1) (e := 46) (size := 1) w0 #[] 0 (by omega) (by decide) rfl
    rw [hz0'] at this
    exact this
  have hbx0 : Below (w.heap.size + 1) w0 (w0.alloc (.cells #[] 46)) := (Below.refl _ w0).alloc (by omega) _
  clear kcc hR hrl kcin hR1 hwf hwl
  go_enter Try.func27, Try.ntmps27
  go_wp2
  go_loopw [5, 6] (fun v i wr => ∃ j : Nat, j ≤ ks.length ∧ i = .int .i64 j ∧ wr.ownsRow (w.heap.size + 1) 46 1 v (wtsW R (ks.take j)).length (fl (wtsW R (ks.take j))) ∧ Below (w.heap.size + 1) w0 wr) (fun _ i _ => ks.length - (intOf i).toNat)
  case atStart => exact ⟨0, Nat.zero_le _, rfl, by simpa [wtsW, fl] using own0, hbx0⟩
  case round =>
    obtain ⟨j, hj, rfl, hown, hbr⟩ := hrel
    clear own0 hbx0
    have hzr := hbr.size
    have bx := b0.below hbr (by omega)
    have d0 := bx.cell 0
    have d1 := bx.cell 1
    have d2 := bx.cell 2
    simp only [List.getElem?_toArray, List.getElem?_cons_zero, List.getElem?_cons_succ] at d0 d1 d2
    by_cases hlt : j < ks.length
    · obtain ⟨ka, rfl, kab, kca⟩ := KC.out j hlt
      have kc1 : wr.cell? (ka.add j) = some (.int .i64 (ks.getD j 0)) := (hbr.cell (p := ka.add j) (by rw [add_block]; omega)).trans ((hbl.cell (p := ka.add j) (by rw [add_block]; exact kab)).trans kca)
      have hsn := wts_snoc R ks j hlt
      have hln : (wtsW R (ks.take j)).length ≤ 60 := Nat.le_trans (wts_len _ _) (by simp; omega)
      generalize ks.getD j 0 = k at *
      have HSN := Lib.hid hsn
      clear hsn kca
      by_cases h1 : 0 ≤ k ∧ k < R.length
      · obtain ⟨h1, h2⟩ := h1
        obtain ⟨kn, rfl⟩ : ∃ kn : Nat, k = kn := ⟨k.toNat, by omega⟩
        have hir : isRl R (kn : Int) = true := by simp [isRl]; omega
        obtain ⟨r, hrk⟩ : ∃ r, R[kn]? = some r := ⟨_, List.getElem?_eq_getElem (by omega)⟩
        have hsn2 : wtsW R (ks.take (j + 1)) = wtsW R (ks.take j) ++ [r.wt] := by
          rw [HSN.out, if_pos hir]
          simp [List.getD_eq_getElem?_getD, hrk]
        have HS2 := Lib.hid hsn2
        clear hsn2 hir
        generalize wtsW R (ks.take j) = L at *
        obtain ⟨ra', rc', er, _, hr2⟩ := HR1.out.below (hbr.mono (by omega : B ≤ w.heap.size + 1))
        cases er
        obtain ⟨a2, rfl, hab2, ao2, c2, _, _, hwt, _⟩ := hr2 kn r hrk
        rw [add_form a2 (kn * 3) 2 (by decide)] at hwt
        clear hr2
        generalize r.wt = y at *
        have hgf : decide (0 ≤ (kn : Int)) = true := decide_eq_true h1
        have hlf : decide ((kn : Int) < (R.length : Int)) = true := decide_eq_true h2
        have hwt2 : ∀ o, (wr.alloc o).cell? ⟨(a2.add (kn * 3)).block, (a2.add (kn * 3)).off + 2, none⟩ = some (.float .f64 y) := fun o => (World.cell?_alloc_lt wr o _ (by show (a2.add (kn * 3)).block < _; rw [add_block]; omega)).trans hwt
        have HOW := Lib.hid hown
        have hzr' : w.heap.size + 1 ≤ wr.heap.size := by omega
        go_wp2
        go_quiet (fail)
        go_wp2
        go_region_law (first
          | (refine step_append_src (by rfl) (.tmp 29) (.tmp 39) 83 (by rfl) (w.heap.size + 1) 46 i0 (.float .f64 0) 1 8 Try.underlying83 hi hz0 hz1 hz2 (by rfl) (by decide) _ L.length (fl L) (by rfl) (by first | exact HOW.out.alloc _ | exact World.ownsRow.alloc (w := wr.drewN nq) HOW.out _) (some ⟨wr.heap.size, 0, none⟩) 1 1 (fl [y]) (by rfl) (by rfl) (fun h => by cases h) (fun ad had => by cases had; first | exact cell_one_new wr _ _ | exact cell_one_new (wr.drewN nq) _ _ | exact cell_one_new (wr.drewN nq).drew _ _) (one_fl _) (by unfold maxLen; omega) (by omega) (by simp; omega) ?_; intro v2 w2 hown2 hgrow2))
        all_goals
          have hb2 : Below (w.heap.size + 1) w0 w2 := ((below_drewN hbr (nq + 1)).alloc hzr' _).grown hgrow2 (by simp; omega) (fun j hj => (HOW.out.lt j hj).1)
          go_wp2
          refine ⟨⟨j + 1, hlt, congrArg (Value.int .i64) (by omega), ?_, hb2⟩, by simp only [intOf]; omega⟩
          rw [HS2.out, fl_one]
          simpa using hown2
      · have hir : isRl R k = false := isRl_no h1
        have hsn2 : wtsW R (ks.take (j + 1)) = wtsW R (ks.take j) := by
          rw [HSN.out, hir]
          simp
        have HS2 := Lib.hid hsn2
        clear hsn2 hir
        generalize wtsW R (ks.take j) = L at *
        by_cases h0 : 0 ≤ k
        · have h2 : ¬ k < R.length := fun h => h1 ⟨h0, h⟩
          have hgf : decide (0 ≤ k) = true := decide_eq_true h0
          have hlf : decide (k < (R.length : Int)) = false := decide_eq_false h2
          go_wp2
          go_quiet (fail)
          go_wp2
          refine ⟨⟨j + 1, hlt, congrArg (Value.int .i64) (by omega), ?_, below_drewN hbr _⟩, by simp only [intOf]; omega⟩
          rw [HS2.out]
          exact hown
        · have hgf : decide (0 ≤ k) = false := decide_eq_false h0
          go_wp2
          go_quiet (fail)
          go_wp2
          refine ⟨⟨j + 1, hlt, congrArg (Value.int .i64) (by omega), ?_, below_drewN hbr _⟩, by simp only [intOf]; omega⟩
          rw [HS2.out]
          exact hown
    · obtain rfl : j = ks.length := by omega
      rw [List.take_length] at hown
      have hl60 := HWL.out
      have hsu := rsum_own wr _ _ _ _ hown rfl (by omega) HWF.out
      obtain ⟨ao, c, rfl⟩ := own_len hown
      go_wp2_with fail
      refine hsu.mono ?_
      rintro e w1 ⟨r, m, rfl, hf, rfl⟩
      have HF := Lib.hid hf
      clear hf
      go_wp2
      go_ret
      exact ⟨r, rfl, HF.out, hbl.trans (below_drewN (hbr.mono (by omega)) m)⟩
end Go.Proofs.Ytomikgkoegkofaa.dv
