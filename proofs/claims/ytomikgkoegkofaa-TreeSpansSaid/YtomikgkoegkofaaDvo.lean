import Derived.Test.YtomikgkoegkofaaDvn
import Derived.Test.YtomikgkoegkofaaDwn
namespace Go.Proofs.Ytomikgkoegkofaa.dv
open Go.ChangeShapes Go.WideShapes Go.ChangeAt Go.RowKit Go.Maps Go.WideMaps Go.WideElems
set_option linter.unusedVariables false
set_option linter.unusedSimpArgs false
/-! the weight of a derivation -/
theorem wts_wf {R : List Rl} (h : Wf R) (ks : List Int) : ∀ x ∈ wtsW R ks, x < 18446744073709551616 := fun x hx => by
  unfold wtsW at hx
  obtain ⟨k, hk, rfl⟩ := List.mem_map.1 hx
  have hr := (List.mem_filter.1 hk).2
  simp [isRl] at hr
  have : R[k.toNat]? = some (R[k.toNat]'(by omega)) := List.getElem?_eq_getElem (by omega)
  rw [List.getD_eq_getElem?_getD, this]
  exact h _ (List.getElem_mem (by omega))
theorem fl_one (l : List Nat) (x : Nat) : fl (l ++ [x]) = fl l ++ fl [x] := by simp [fl]
set_option maxRecDepth 100000 in
set_option maxHeartbeats 1000000 in
theorem weight_any (w : World) (B : Nat) (ta va : Option Addr) (tl tc vl vc : Nat) (rv kv : Value) (R : List Rl) (ks : List Int) (hR : RulesAt B w rv R) (hB : B ≤ w.heap.size) (hk : RowAt w kv ks) (hks : ks.length ≤ 60) (hW : Wf R) :
    Calls Try.prog 26 #[.agg #[.slice ta tl tc, .slice va vl vc, rv], kv] w fun e w' => ∃ r, e = .returned (.float .f64 r) ∧ IsF (sumF (wtsW R ks)) r ∧ Below w.heap.size w w' := by
  obtain ⟨i0, hi, hz0, hz1, hz2⟩ := info_parts info24
  have hwf := wts_wf hW ks
  have hwl := wts_len R ks
  obtain ⟨ra, rc, rfl, hn, hrl⟩ := id hR
  have b0 := Blk.new w 25 #[.slice ta tl tc, .slice va vl vc, .slice ra R.length rc]
  have hbl : Below w.heap.size w (w.alloc (.cells #[.slice ta tl tc, .slice va vl vc, .slice ra R.length rc] 25)) := (Below.refl _ w).alloc (Nat.le_refl _) _
  obtain ⟨ko, kcap, rfl, kcp, kcm, kcn, kcin, kcc⟩ := hk
  have hR1 : RulesAt B (w.alloc (.cells #[.slice ta tl tc, .slice va vl vc, .slice ra R.length rc] 25)) (.slice ra R.length rc) R := hR.below (hbl.mono hB)
  generalize hW0 : w.alloc (.cells #[.slice ta tl tc, .slice va vl vc, .slice ra R.length rc] 25) = w0 at *
  have hz0' : w0.heap.size = w.heap.size + 1 := by rw [← hW0]; simp
  have KC := Lib.hid kcc
  have HR1 := Lib.hid hR1
  have HWF := Lib.hid hwf
  have HWL := Lib.hid hwl
  clear kcc hR hrl kcin hR1 hwf hwl
  go_enter Try.func26, Try.ntmps26
  go_wp2_with fail
  go_loopw [5, 10] (fun v i wr => ∃ j : Nat, j ≤ ks.length ∧ i = .int .i64 j ∧ wr.ownsRow (w.heap.size + 1) 46 1 v (wtsW R (ks.take j)).length (fl (wtsW R (ks.take j))) ∧ Below (w.heap.size + 1) w0 wr) (fun _ i _ => ks.length - (intOf i).toNat)
  case atStart => exact ⟨0, Nat.zero_le _, rfl, by simpa [wtsW, fl] using World.ownsRow_nil _ _ _ _, Below.refl _ _⟩
  case round =>
    obtain ⟨j, hj, rfl, hown, hbr⟩ := hrel
    have hzr := hbr.size
    have bx := b0.below hbr (by omega)
    have d0 := bx.cell 0
    have d1 := bx.cell 1
    have d2 := bx.cell 2
    simp only [List.getElem?_toArray, List.getElem?_cons_zero, List.getElem?_cons_succ] at d0 d1 d2
    by_cases hlt : j < ks.length
    · obtain ⟨ka, rfl, kab, kca⟩ := KC.out j hlt
      have kc1 : wr.cell? (ka.add j) = some (.int .i64 (ks.getD j 0)) := (hbr.cell (p := ka.add j) (by rw [add_block]; omega)).trans ((hbl.cell (p := ka.add j) (by rw [add_block]; exact kab)).trans kca)
      have hsn := wts_snoc R ks j hlt
      have hln : (wtsW R (ks.take j)).length ≤ 60 := Nat.le_trans (wts_len _ _) (by simp; omega)
      generalize ks.getD j 0 = k at *
      have HSN := Lib.hid hsn
      clear hsn kca
      have his := isRule_any wr ta va ra tl tc vl vc R.length rc k hn
      by_cases h1 : 0 ≤ k ∧ k < R.length
      · obtain ⟨h1, h2⟩ := h1
        obtain ⟨kn, rfl⟩ : ∃ kn : Nat, k = kn := ⟨k.toNat, by omega⟩
        have hir : isRl R (kn : Int) = true := by simp [isRl]; omega
        rw [decide_eq_true h1, decide_eq_true h2] at his
        obtain ⟨r, hrk⟩ : ∃ r, R[kn]? = some r := ⟨_, List.getElem?_eq_getElem (by omega)⟩
        have hsn2 : wtsW R (ks.take (j + 1)) = wtsW R (ks.take j) ++ [r.wt] := by
          rw [HSN.out, if_pos hir]
          simp [List.getD_eq_getElem?_getD, hrk]
        have HS2 := Lib.hid hsn2
        clear hsn2 hir
        generalize wtsW R (ks.take j) = L at *
        go_wp2_with fail
        refine his.mono ?_
        rintro e w1 ⟨rfl, hb1⟩
        have hb1' : Below (w.heap.size + 1) w0 w1 := hbr.trans (hb1.mono (by omega))
        have hz1' := hb1'.size
        obtain ⟨ra', rc', er, _, hr2⟩ := HR1.out.below (hb1'.mono (by omega : B ≤ w.heap.size + 1))
        cases er
        obtain ⟨a2, rfl, hab2, ao2, c2, _, _, hwt, _⟩ := hr2 kn r hrk
        rw [add_form a2 (kn * 3) 2 (by decide)] at hwt
        have bx1 := b0.below hb1' (by omega)
        have e2 := bx1.cell 2
        simp only [List.getElem?_toArray, List.getElem?_cons_zero, List.getElem?_cons_succ] at e2
        have hown1 := ownsRow_keep (w' := w1) hown (fun g hg _ => hb1.block g hg)
        clear hr2 bx bx1
        generalize r.wt = y at *
        go_wp2_with (at_builtin; go_must (refine wpList_append_own _ rfl _ _ 83 rfl (w.heap.size + 1) 46 i0 (.float .f64 0) 1 8 Try.underlying83 hi hz0 hz1 hz2 rfl (by decide) _ _ _ rfl (hown1.alloc _) ⟨w1.heap.size, 0, none⟩ 1 1 (fl [y]) rfl rfl (cell_one_new _ _ _) (one_fl _) (by unfold maxLen; omega) (by omega) (by simp; omega) ?_); intro v' w2 hown' hgrow _)
        have hb2 : Below (w.heap.size + 1) w0 w2 := (hb1'.alloc (by omega) _).grown hgrow (by simp; omega) (fun j hj => (hown1.lt j hj).1)
        refine ⟨⟨j + 1, hlt, congrArg (Value.int .i64) (by omega), ?_, hb2⟩, by simp only [intOf]; omega⟩
        rw [HS2.out, fl_one]
        simpa using hown'
      · have hir : isRl R k = false := isRl_no h1
        rw [isRl_no h1] at his
        have hsn2 : wtsW R (ks.take (j + 1)) = wtsW R (ks.take j) := by
          rw [HSN.out, hir]
          simp
        have HS2 := Lib.hid hsn2
        clear hsn2 hir
        generalize wtsW R (ks.take j) = L at *
        go_wp2_with fail
        refine his.mono ?_
        rintro e w1 ⟨rfl, hb1⟩
        have hb1' : Below (w.heap.size + 1) w0 w1 := hbr.trans (hb1.mono (by omega))
        have hown1 := ownsRow_keep (w' := w1) hown (fun g hg _ => hb1.block g hg)
        go_wp2
        refine ⟨⟨j + 1, hlt, congrArg (Value.int .i64) (by omega), ?_, hb1'⟩, by simp only [intOf]; omega⟩
        rw [HS2.out]
        exact hown1
    · obtain rfl : j = ks.length := by omega
      rw [List.take_length] at hown
      have hl60 := HWL.out
      have hsu := sum_own wr _ _ _ _ hown rfl (by omega) HWF.out
      obtain ⟨ao, c, rfl⟩ := own_len hown
      go_wp2_with fail
      refine hsu.mono ?_
      rintro e w1 ⟨r, m, rfl, hf, rfl⟩
      have HF := Lib.hid hf
      clear hf
      go_wp2
      go_ret
      exact ⟨r, rfl, HF.out, hbl.trans (below_drewN (hbr.mono (by omega)) m)⟩
end Go.Proofs.Ytomikgkoegkofaa.dv
