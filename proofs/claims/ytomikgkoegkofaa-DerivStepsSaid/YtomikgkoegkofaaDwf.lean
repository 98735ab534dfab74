import Derived.Test.YtomikgkoegkofaaDwe
namespace Go.Proofs.Ytomikgkoegkofaa.dv
open Go.ChangeShapes Go.WideShapes Go.ChangeAt Go.RowKit Go.Maps Go.WideMaps Go.WideElems
set_option linter.unusedVariables false
set_option linter.unusedSimpArgs false
/-! the document's Step -/
def outW (L r F : List Int) (j : Nat) : List Int := if j ≤ L.length then F.take j else L ++ (r ++ (F.drop (L.length + 1)).take (j - (L.length + 1)))
theorem out_one (L r F : List Int) (j : Nat) (hL : F.take L.length = L) (hj : j < F.length) (hne : j ≠ L.length) : outW L r F (j + 1) = outW L r F j ++ [F.getD j 0] := by
  have hg : F.getD j 0 = F[j] := by rw [List.getD_eq_getElem?_getD, List.getElem?_eq_getElem hj]; rfl
  unfold outW
  rcases Nat.lt_or_gt_of_ne hne with h | h
  · rw [if_pos (by omega), if_pos (by omega), List.take_succ_eq_append_getElem hj, hg]
  · rw [if_neg (by omega), if_neg (by omega)]
    obtain ⟨m, rfl⟩ : ∃ m, j = L.length + 1 + m := ⟨j - (L.length + 1), by omega⟩
    have e1 : L.length + 1 + m + 1 - (L.length + 1) = m + 1 := by omega
    have e2 : L.length + 1 + m - (L.length + 1) = m := by omega
    rw [e1, e2, List.take_succ_eq_append_getElem (by simp; omega), hg]
    simp [List.getElem_drop]
theorem out_mid (L r F : List Int) (hL : F.take L.length = L) : outW L r F (L.length + 1) = outW L r F L.length ++ r := by
  unfold outW
  rw [if_pos (Nat.le_refl _), if_neg (by omega), Nat.sub_self, List.take_zero, List.append_nil, hL]
theorem out_end (L r F : List Int) (h : L.length < F.length) : outW L r F F.length = L ++ (r ++ F.drop (L.length + 1)) := by
  unfold outW
  rw [if_neg (by omega), List.take_of_length_le (by simp)]
theorem out_len (L r F : List Int) (j : Nat) (hj : j ≤ F.length) : (outW L r F j).length ≤ F.length + L.length + r.length := by
  unfold outW
  split
  · simp; omega
  · simp; omega
theorem one_iv (l : List Int) : ∀ u ∈ IV l, u.oneCell' = true := by
  intro u hu
  simp [IV] at hu
  obtain ⟨q, _, rfl⟩ := hu
  rfl
theorem refW_of {R : List Rl} {v : Int} {k : Nat} {r : Rl} (h : R[k]? = some r) (hv : 0 ≤ v) : refW R v k = if r.left = v then 0 else 14 := by
  have hk : k < R.length := (List.getElem?_eq_some_iff.1 h).1
  have hi : isRl R (k : Int) = true := by simp [isRl]; omega
  unfold refW
  rw [if_pos hi, if_pos hv]
  simp [List.getD_eq_getElem?_getD, h]
theorem refW_out {R : List Rl} {v k : Int} (h : ¬ (0 ≤ k ∧ k < R.length)) : refW R v k = 12 := by
  unfold refW
  rw [if_neg]
  simpa [isRl] using h
theorem refW_end {R : List Rl} {v k : Int} (h1 : 0 ≤ k) (h2 : k < R.length) (hv : ¬ 0 ≤ v) : refW R v k = 13 := by
  unfold refW
  rw [if_pos (by simp [isRl]; omega), if_neg hv]
set_option maxRecDepth 100000 in
set_option maxHeartbeats 2000000 in
theorem rstep_any (w : World) (B : Nat) (ta va : Option Addr) (tl tc vl vc : Nat) (rv v : Value) (R : List Rl) (F : List Int) (k : Int) (hR : RulesAt B w rv R) (hB : B ≤ w.heap.size) (h : RowAt w v F) (hF : F.length ≤ 100000) (h8 : ∀ r ∈ R, r.right.length ≤ 8) :
    Calls Try.prog 16 #[.agg #[.slice ta tl tc, .slice va vl vc, rv], v, .int .i64 k] w (StepR R F k w) := by
  obtain ⟨i0, hi, hz0, hz1, hz2⟩ := info_parts info_int
  obtain ⟨ra, rc, rfl, hn, hrl⟩ := id hR
  have b0 := Blk.new w 25 #[.slice ta tl tc, .slice va vl vc, .slice ra R.length rc]
  have hbl : Below w.heap.size w (w.alloc (.cells #[.slice ta tl tc, .slice va vl vc, .slice ra R.length rc] 25)) := (Below.refl _ w).alloc (Nat.le_refl _) _
  have hR1 : RulesAt B (w.alloc (.cells #[.slice ta tl tc, .slice va vl vc, .slice ra R.length rc] 25)) (.slice ra R.length rc) R := hR.below (hbl.mono hB)
  have hF1 := h.below hbl
  have hfi := rfirst_any (w.alloc (.cells #[.slice ta tl tc, .slice va vl vc, .slice ra R.length rc] 25)) v F hF1
  generalize hW0 : w.alloc (.cells #[.slice ta tl tc, .slice va vl vc, .slice ra R.length rc] 25) = w0 at *
  have hz0' : w0.heap.size = w.heap.size + 1 := by rw [← hW0]; simp
  have c0 := b0.cell 0
  have c1 := b0.cell 1
  have c2 := b0.cell 2
  simp only [List.getElem?_toArray, List.getElem?_cons_zero, List.getElem?_cons_succ] at c0 c1 c2
  have hn' : R.length ≤ 9223372036854775807 := by unfold maxLen at hn; omega
  have HERR : ∀ E, E ≠ 0 → refW R (fvW F) k = E → StepR R F k w (.returned (.tuple #[.slice none 0 0, .int .i64 E])) w0 := fun E hE he => ⟨_, by rw [he], fun h => absurd (he ▸ h) hE, fun _ => rfl, hbl⟩
  have HERR := Lib.hid HERR
  by_cases hk : 0 ≤ k ∧ k < R.length
  · obtain ⟨hk0, hk1⟩ := hk
    obtain ⟨kn, rfl⟩ : ∃ kn : Nat, k = kn := ⟨k.toNat, by omega⟩
    by_cases hr : restW F = []
    · have e1 : idxW F = -1 := by unfold idxW; rw [if_pos hr]
      have e2 : fvW F = -1 := by unfold fvW; rw [hr]; rfl
      have hQ := HERR.out 13 (by decide) (refW_end hk0 hk1 (by rw [e2]; decide))
      have HQ := Lib.hid hQ
      rw [e1] at hfi
      obtain ⟨ao, cap, rfl, _⟩ := h
      clear hR hrl hR1 hF1 hQ
      go_enter Try.func16, Try.ntmps16
      go_wp2_with fail
      refine hfi.mono ?_
      rintro e w1 ⟨rfl, rfl⟩
      go_wp2
      refine bodyPost_ret (v := .tuple #[.slice none 0 0, .int .i64 13]) (by simp [results, Try.results16, go_sem, Act.put]) rfl ?_
      exact HQ.out
    · obtain ⟨hg, hv0, hlt, hdr⟩ := rest_nth F hr
      have e1 : idxW F = ((leadW F).length : Int) := by unfold idxW; rw [if_neg hr]
      rw [e1] at hfi
      obtain ⟨r, hrk⟩ : ∃ r, R[kn]? = some r := ⟨_, List.getElem?_eq_getElem (by omega)⟩
      have href := refW_of hrk hv0
      obtain ⟨ao, cap, rfl, hcp, hcm, hcn, hcin, hcc⟩ := id hF1
      have hcm2 : cap ≤ 9223372036854775807 := by unfold maxLen at hcm; omega
      have HCC := Lib.hid hcc
      have HCIN := Lib.hid hcin
      obtain ⟨a, rfl, hab, hca⟩ := hcc _ hlt
      rw [hg] at hca
      obtain ⟨ra', rc', er, _, hr2⟩ := id hR1
      cases er
      obtain ⟨a2, rfl, hab2, hrl2⟩ := hr2 kn r hrk
      have hl1 := hrl2.choose_spec.choose_spec.1
      have hl1' : w0.cell? (a2.add (kn * 3)) = some (.int .i64 r.left) := hl1
      have htk : F.take (leadW F).length = leadW F := by
        have := List.take_left (l₁ := leadW F) (l₂ := restW F)
        rwa [lead_rest] at this
      by_cases hE : r.left = fvW F
      · rw [if_pos hE] at href
        have hr8 := h8 r (List.mem_of_getElem? hrk)
        have hrow := hrl2.row (w := w0) (by omega)
        have HROW := Lib.hid hrow
        have hQ : ∀ u w', w'.ownsRow (w.heap.size + 1) 3 1 u (outW (leadW F) r.right F F.length).length (IV (outW (leadW F) r.right F F.length)) → Below (w.heap.size + 1) w0 w' → StepR R F kn w (.returned (.tuple #[u, .int .i64 0])) w' := fun u w' ho hb => by
          have hs : stepL R F kn = outW (leadW F) r.right F F.length := by
            rw [out_end _ _ _ hlt, hdr]
            unfold stepL ruleW
            simp [List.getD_eq_getElem?_getD, hrk]
          exact ⟨u, by rw [href], fun _ => by rw [hs]; exact own_weak ho (by omega), fun h => absurd href h, hbl.trans (hb.mono (by omega))⟩
        have HQ := Lib.hid hQ
        have hO1 := fun j h1 h2 => out_one (leadW F) r.right F j htk h1 h2
        have hO2 := out_mid (leadW F) r.right F htk
        have hO3 := fun j h1 => out_len (leadW F) r.right F j h1
        have HO1 := Lib.hid hO1
        have HO2 := Lib.hid hO2
        have HO3 := Lib.hid hO3
        rw [hE] at hl1'
        clear hR hrl hR1 hF1 hQ hO1 hO2 hO3 h hcc hcin hr2 hrl2 hrow hl1 HERR href h8 hdr htk hg
        generalize r.right = X at *
        generalize leadW F = L at *
        generalize fvW F = x at *
        have hkf : decide ((kn : Int) < 0) = false := decide_eq_false (by omega)
        have hLf : decide ((L.length : Int) < 0) = false := decide_eq_false (by omega)
        have hRf : decide (R.length ≤ kn) = false := decide_eq_false (by omega)
        go_enter Try.func16, Try.ntmps16
        go_wp2_with fail
        refine hfi.mono ?_
        rintro e w1 ⟨rfl, rfl⟩
        go_wp2
        go_quiet (fail)
        go_wp2
        have bx0 : Below (w.heap.size + 1) w1 ((w1.drewN nq).alloc (.cells #[] 3)) := (below_drewN (Below.refl _ _) nq).alloc (by show w.heap.size + 1 ≤ w1.heap.size; omega) _
        have hw2 : (w1.drewN nq).heap.size = w.heap.size + 1 := hz0'
        have own0 : ((w1.drewN nq).alloc (.cells #[] 3)).ownsRow (w.heap.size + 1) 3 1 (.slice (some ⟨w.heap.size + 1, 0, none⟩) 0 0) 0 [] := by
          have := World.ownsRow_lit (base := w.heap.size + 1) (e := 3) (size := 1) (w1.drewN nq) #[] 0 (by omega) (by decide) rfl
          rw [hw2] at this
          exact this
        have hfl : F.length ≤ 9223372036854775807 := by omega
        clear hW0
        go_loopw [9, 10] (fun z i wr => ∃ j : Nat, j ≤ F.length ∧ i = .int .i64 j ∧ wr.ownsRow (w.heap.size + 1) 3 1 z (outW L X F j).length (IV (outW L X F j)) ∧ Below (w.heap.size + 1) w1 wr) (fun _ i _ => F.length - (intOf i).toNat)
        case atStart =>
          refine ⟨0, Nat.zero_le _, rfl, ?_, bx0⟩
          have e0 : outW L X F 0 = [] := by unfold outW; rw [if_pos (Nat.zero_le _)]; rfl
          rw [e0]
          exact own0
        case round =>
          obtain ⟨j, hj, rfl, hown, hbr⟩ := hrel
          clear bx0 own0 hw2
          have hzr := hbr.size
          have HOW := Lib.hid hown
          have hbr' : Below w1.heap.size w1 wr := by rw [hz0']; exact hbr
          by_cases hlt2 : j < F.length
          · have hle := HO3.out j hj
            by_cases hjl : j = L.length
            · subst hjl
              have bx := b0.below hbr (by omega)
              have d2 := bx.cell 2
              simp only [List.getElem?_toArray, List.getElem?_cons_zero, List.getElem?_cons_succ] at d2
              obtain ⟨ao3, cap3, hc3, hrow3, _⟩ := HROW.out
              rw [add_form a2 (kn * 3) 1 (by decide)] at hc3
              have hc4 : wr.cell? ⟨(a2.add (kn * 3)).block, (a2.add (kn * 3)).off + 1, none⟩ = some (.slice ao3 X.length cap3) := (hbr.cell (by show (a2.add (kn * 3)).block < _; rw [add_block]; omega)).trans hc3
              obtain ⟨_, _, es, hs1, hs2⟩ := hrow3.src.below hbr'
              cases es
              have HS2 := Lib.hid hs2
              have HN2 := Lib.hid HO2.out
              clear hs2 hrow3 hc3 c2 hbr'
              generalize outW L X F L.length = Z at *
              go_wp2_with (at_builtin; go_must (refine wpList_append_src rfl _ _ 26 rfl (w.heap.size + 1) 3 i0 (.int .i64 0) 1 8 Try.underlying26 hi hz0 hz1 hz2 rfl (by decide) _ _ _ rfl hown ao3 X.length cap3 (IV X) rfl (by simp [IV]) hs1 (fun ad had j u hj => (HS2.out ad had j u hj).2) (one_iv X) (by unfold maxLen; omega) (by omega) (by omega) ?_); intro v' w2 hown' hgrow)
              have hb2 : Below (w.heap.size + 1) w1 w2 := hbr.grown hgrow (by omega) (fun j hj => (HOW.out.lt j hj).1)
              go_wp2
              refine ⟨⟨L.length + 1, by omega, congrArg (Value.int .i64) (by omega), ?_, hb2⟩, by simp only [intOf]; omega⟩
              rw [HN2.out, List.length_append]
              unfold IV at hown' ⊢
              rw [List.map_append]
              exact hown'
            · obtain ⟨a', ea, hab', hca'⟩ := HCC.out j hlt2
              cases ea
              have hc4 : wr.cell? (a.add j) = some (.int .i64 (F.getD j 0)) := (hbr'.cell (p := a.add j) (by rw [add_block]; exact hab')).trans hca'
              have HN2 := Lib.hid (HO1.out j hlt2 hjl)
              clear hca' hbr'
              generalize F.getD j 0 = y at *
              generalize outW L X F j = Z at *
              go_wp2_with (at_builtin; go_must (refine wpList_append_own _ rfl _ _ 26 rfl (w.heap.size + 1) 3 i0 (.int .i64 0) 1 8 Try.underlying26 hi hz0 hz1 hz2 rfl (by decide) _ _ _ rfl (hown.alloc _) ⟨wr.heap.size, 0, none⟩ 1 1 (IV [y]) rfl rfl (cell_one_new _ _ _) (one_iv [y]) (by unfold maxLen; omega) (by omega) (by simp; omega) ?_); intro v' w2 hown' hgrow _)
              have hb2 : Below (w.heap.size + 1) w1 w2 := (hbr.alloc (by omega) _).grown hgrow (by simp; omega) (fun j hj => (HOW.out.lt j hj).1)
              go_wp2
              refine ⟨⟨j + 1, by omega, congrArg (Value.int .i64) (by omega), ?_, hb2⟩, by simp only [intOf]; omega⟩
              rw [HN2.out, List.length_append]
              unfold IV at hown' ⊢
              rw [List.map_append]
              exact hown'
          · obtain rfl : F.length = j := by omega
            clear hown
            go_wp2
            refine bodyPost_ret (v := .tuple #[_, .int .i64 0]) (by simp [results, Try.results16, go_sem, Act.put]; rfl) rfl ?_
            exact HQ.out _ _ HOW.out hbr
      · rw [if_neg hE] at href
        have hQ : ∀ w', Below w.heap.size w w' → StepR R F kn w (.returned (.tuple #[.slice none 0 0, .int .i64 14])) w' := fun w' hb => ⟨_, by rw [href], fun h => absurd (href.symm.trans h) (by decide), fun _ => rfl, hb⟩
        have HQ := Lib.hid hQ
        have hne : (r.left != fvW F) = true := by simpa using hE
        clear hR hrl hR1 hF1 hQ h hcc hcin hr2 hrl2 hl1 HERR href h8 hdr htk hg
        generalize r.left = y at *
        generalize leadW F = L at *
        generalize fvW F = x at *
        go_enter Try.func16, Try.ntmps16
        go_wp2_with fail
        refine hfi.mono ?_
        rintro e w1 ⟨rfl, rfl⟩
        go_wp2
        go_quiet (fail)
        go_wp2
        refine bodyPost_ret (v := .tuple #[.slice none 0 0, .int .i64 14]) (by simp [results, Try.results16, go_sem, Act.put]) rfl ?_
        exact HQ.out _ (below_drewN hbl nq)
  · have hQ := HERR.out 12 (by decide) (refW_out hk)
    have HQ := Lib.hid hQ
    obtain ⟨ao, cap, rfl, _⟩ := h
    clear hR hrl hR1 hF1 hQ
    by_cases hk0 : k < 0
    · go_enter Try.func16, Try.ntmps16
      go_wp2_with fail
      refine hfi.mono ?_
      rintro e w1 ⟨rfl, rfl⟩
      go_wp2
      refine bodyPost_ret (v := .tuple #[.slice none 0 0, .int .i64 12]) (by simp [results, Try.results16, go_sem, Act.put]) rfl ?_
      exact HQ.out
    · have hk1 : (R.length : Int) ≤ k := by omega
      go_enter Try.func16, Try.ntmps16
      go_wp2_with fail
      refine hfi.mono ?_
      rintro e w1 ⟨rfl, rfl⟩
      go_wp2
      refine bodyPost_ret (v := .tuple #[.slice none 0 0, .int .i64 12]) (by simp [results, Try.results16, go_sem, Act.put]) rfl ?_
      exact HQ.out
end Go.Proofs.Ytomikgkoegkofaa.dv
