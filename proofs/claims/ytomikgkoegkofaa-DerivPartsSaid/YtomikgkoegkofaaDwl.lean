import Derived.Test.YtomikgkoegkofaaDvj
namespace Go.Proofs.Ytomikgkoegkofaa.dv
open Go.ChangeShapes Go.WideShapes Go.ChangeAt Go.RowKit Go.Maps Go.WideMaps Go.WideElems
set_option linter.unusedVariables false
set_option linter.unusedSimpArgs false
/-! a step -/
def StepR (R : List Rl) (F : List Int) (k : Int) (w : World) : Ending → World → Prop := fun e w' => ∃ u, e = .returned (.tuple #[u, .int .i64 (refW R (fvW F) k)]) ∧ (refW R (fvW F) k = 0 → w'.ownsRow w.heap.size 3 1 u (stepL R F k).length (IV (stepL R F k))) ∧ (refW R (fvW F) k ≠ 0 → u = .slice none 0 0) ∧ Below w.heap.size w w'
set_option maxRecDepth 100000 in
set_option maxHeartbeats 1000000 in
theorem step_any (w : World) (B : Nat) (ta va : Option Addr) (tl tc vl vc : Nat) (rv v : Value) (R : List Rl) (F : List Int) (k : Int) (hR : RulesAt B w rv R) (hB : B ≤ w.heap.size) (h : RowAt w v F) (hF : F.length ≤ 1000000) (hS : (stepL R F k).length ≤ 1000000) :
    Calls Try.prog 15 #[.agg #[.slice ta tl tc, .slice va vl vc, rv], v, .int .i64 k] w (StepR R F k w) := by
  obtain ⟨ra, rc, rfl, hn, hrl⟩ := id hR
  have b0 := Blk.new w 25 #[.slice ta tl tc, .slice va vl vc, .slice ra R.length rc]
  have c0 := b0.cell 0
  have c1 := b0.cell 1
  have c2 := b0.cell 2
  simp only [List.getElem?_toArray, List.getElem?_cons_zero, List.getElem?_cons_succ] at c0 c1 c2
  have hbl : Below w.heap.size w (w.alloc (.cells #[.slice ta tl tc, .slice va vl vc, .slice ra R.length rc] 25)) := (Below.refl _ w).alloc (Nat.le_refl _) _
  have hR1 : RulesAt B (w.alloc (.cells #[.slice ta tl tc, .slice va vl vc, .slice ra R.length rc] 25)) (.slice ra R.length rc) R := hR.below (hbl.mono hB)
  have hix := index_any (w.alloc (.cells #[.slice ta tl tc, .slice va vl vc, .slice ra R.length rc] 25)) v F (h.below hbl)
  by_cases hr : restW F = []
  · have e1 : idxW F = -1 := by unfold idxW; rw [if_pos hr]
    have e2 : fvW F = -1 := by unfold fvW; rw [hr]; rfl
    have hne : refW R (fvW F) k ≠ 0 := refW_err (by rw [e2]; decide)
    have href := refusal_any (w.alloc (.cells #[.slice ta tl tc, .slice va vl vc, .slice ra R.length rc] 25)) B ta va tl tc vl vc (.slice ra R.length rc) R (-1) k hR1 (by simp; omega)
    rw [e1] at hix
    rw [← e2] at href
    have HQ : ∀ w', Below w.heap.size w w' → StepR R F k w (.returned (.tuple #[.slice none 0 0, .int .i64 (refW R (fvW F) k)])) w' := fun w' hb => ⟨_, rfl, fun h => absurd h hne, fun _ => rfl, hb⟩
    have HQ := Lib.hid HQ
    generalize hE : refW R (fvW F) k = E at *
    obtain ⟨ao, cap, rfl, _⟩ := h
    clear hR hR1 hrl
    go_enter Try.func15, Try.ntmps15
    go_wp2_with fail
    refine hix.mono ?_
    rintro e w1 ⟨rfl, rfl⟩
    rw [e2] at href
    go_wp2_with fail
    refine href.mono ?_
    rintro e w2 ⟨rfl, hb2⟩
    go_wp2
    refine bodyPost_ret (v := .tuple #[.slice none 0 0, .int .i64 E]) (by simp [results, Try.results15, go_sem]) rfl ?_
    exact HQ.out _ (hbl.trans (hb2.mono (by simp)))
  · obtain ⟨hg, hv0, hlt, hdr⟩ := rest_nth F hr
    have e1 : idxW F = ((leadW F).length : Int) := by unfold idxW; rw [if_neg hr]
    have href := refusal_any (w.alloc (.cells #[.slice ta tl tc, .slice va vl vc, .slice ra R.length rc] 25)) B ta va tl tc vl vc (.slice ra R.length rc) R (fvW F) k hR1 (by simp; omega)
    rw [e1] at hix
    obtain ⟨ao, cap, rfl, hcp, hcm, hcn, hcin, hcc⟩ := id h
    have hcm2 : cap ≤ 9223372036854775807 := by unfold maxLen at hcm; omega
    obtain ⟨a, rfl, hab, hca⟩ := hcc _ hlt
    rw [hg] at hca
    have hca1 : (w.alloc (.cells #[.slice ta tl tc, .slice va vl vc, .slice ra R.length rc] 25)).cell? (a.add (leadW F).length) = some (.int .i64 (fvW F)) := (hbl.cell (p := a.add _) (by rw [add_block]; exact hab)).trans hca
    by_cases hE : refW R (fvW F) k = 0
    · obtain ⟨hk0, hk1, _⟩ := refW_ok hE
      obtain ⟨kn, rfl⟩ : ∃ kn : Nat, k = kn := ⟨k.toNat, by omega⟩
      obtain ⟨r, hrk⟩ : ∃ r, R[kn]? = some r := ⟨_, List.getElem?_eq_getElem (by omega)⟩
      have hrw : ruleW R (kn : Int) = r.right := by simp [ruleW, List.getD_eq_getElem?_getD, hrk]
      have hst : stepL R F kn = leadW F ++ (r.right ++ (restW F).tail) := by unfold stepL; rw [hrw]
      have htk : F.take (leadW F).length = leadW F := by
        have := List.take_left (l₁ := leadW F) (l₂ := restW F)
        rwa [lead_rest] at this
      have hs1 : SrcAt w (.slice (some a) (leadW F).length cap) (leadW F) := by
        have := (h.take (leadW F).length (by omega)).src
        rwa [htk] at this
      have hs3a : cap = (leadW F).length + 1 → SrcAt w (.slice (some a) 0 0) (restW F).tail := fun hc => by
        have hl0 : (restW F).tail = [] := by rw [← hdr]; exact List.drop_eq_nil_of_le (by omega)
        rw [hl0]
        exact ⟨some a, 0, rfl, fun h => (by cases h), fun ad _ j u hj => by simp [IV] at hj⟩
      have hs3b : SrcAt w (.slice (some ⟨a.block, a.off + ((leadW F).length + 1), none⟩) (F.length - ((leadW F).length + 1)) (cap - ((leadW F).length + 1))) (restW F).tail := by
        rw [← hdr]
        have := (h.drop ((leadW F).length + 1) (by omega) a rfl).src
        rwa [show a.add ((leadW F).length + 1) = ⟨a.block, a.off + ((leadW F).length + 1), none⟩ by unfold Addr.add; rw [if_neg (by omega)]] at this
      have HST := Lib.hid hst
      have HQ : ∀ u w', w'.ownsRow w.heap.size 3 1 u (stepL R F kn).length (IV (stepL R F kn)) → Below w.heap.size w w' → StepR R F kn w (.returned (.tuple #[u, .int .i64 0])) w' := fun u w' ho hb => ⟨u, by rw [hE], fun _ => ho, fun h => absurd hE h, hb⟩
      have HQ := Lib.hid HQ
      have HR1 := Lib.hid hR1
      rw [hE] at href
      rw [hst] at hS
      have hLn := hlt
      clear hR hR1 hrl hcc hcin hdr e1 hg hv0 hst htk hrw
      generalize leadW F = L at *
      generalize fvW F = x at *
      generalize (restW F).tail = X at *
      go_enter Try.func15, Try.ntmps15
      go_wp2_with fail
      refine hix.mono ?_
      rintro e w1 ⟨rfl, rfl⟩
      go_wp2_with fail
      refine href.mono ?_
      rintro e w2 ⟨rfl, hb2⟩
      have b2 := b0.below hb2 (by simp)
      have d2 := b2.cell 2
      simp only [List.getElem?_toArray, List.getElem?_cons_zero, List.getElem?_cons_succ] at d2
      have hbe : Below w.heap.size w w2 := hbl.trans (hb2.mono (by simp))
      have hze := hbe.size
      obtain ⟨ao2, c2', e2, _, hr2⟩ := HR1.out.below (hb2.mono (by simp; omega))
      cases e2
      obtain ⟨a2, rfl, hab2, hrl2⟩ := hr2 kn r hrk
      obtain ⟨ao3, cap3, hc3, hrow3, _⟩ := hrl2.row (by omega)
      rw [add_form a2 (kn * 3) 1 (by decide)] at hc3
      have hw1 : IntKind.i64.wrap ((L.length : Int) + 1) = (L.length : Int) + 1 := by rw [IntKind.wrap_i64]; omega
      have hA0 : (0 : Int) ≤ (L.length : Int) + 1 := by omega
      have hA1 : (L.length : Int) + 1 ≤ (F.length : Int) := by omega
      go_wp2
      by_cases hcq : cap = L.length + 1
      · have hs3c := hs3a hcq
        subst hcq
        have hA : (L.length : Int) ≤ (L.length : Int) + 1 := by omega
        have hbl3 : Below w2.heap.size w2 ((w2.drew).alloc (.cells #[.slice (some a) L.length (L.length + 1), .slice ao3 r.right.length cap3, .slice (some a) 0 0] 26)) := ((Below.refl _ w2).drew).alloc (Nat.le_refl _) _
        have hcat := concat_any ((w2.drew).alloc (.cells #[.slice (some a) L.length (L.length + 1), .slice ao3 r.right.length cap3, .slice (some a) 0 0] 26)) ⟨w2.heap.size, 0, none⟩ 3 _ [L, r.right, X] (rows_three (Blk.new w2.drew _ _) ((hs1.below hbe).below hbl3) (hrow3.src.below hbl3) ((hs3c.below hbe).below hbl3)) (by simpa using hS) (by simp)
        clear hs1 hs3a hs3b hs3c hrow3 hrl2 hr2
        go_region_law (first | (go_simp; go_at_call 49; refine hcat.mono ?_; rintro e w3 ⟨v, rfl, ho3, hb3⟩))
        all_goals
          go_wp2
          have ho4 : w3.ownsRow w.heap.size 3 1 v (stepL R F kn).length (IV (stepL R F kn)) := by
            have := own_weak (base' := w.heap.size) ho3 (by have := hbl3.size; omega)
            rw [HST.out]
            simpa using this
          refine bodyPost_ret (v := .tuple #[v, .int .i64 0]) (by simp [results, Try.results15, go_sem, Act.put]) rfl ?_
          exact HQ.out v _ ho4 ((hbe.trans (hbl3.mono hze)).trans (hb3.mono (by have := hbl3.size; omega)))
      · have hA : (L.length : Int) ≤ (cap : Int) := by omega
        have hbl3 : Below w2.heap.size w2 ((w2.drew).alloc (.cells #[.slice (some a) L.length cap, .slice ao3 r.right.length cap3, .slice (some ⟨a.block, a.off + (L.length + 1), none⟩) (F.length - (L.length + 1)) (cap - (L.length + 1))] 26)) := ((Below.refl _ w2).drew).alloc (Nat.le_refl _) _
        have hcat := concat_any ((w2.drew).alloc (.cells #[.slice (some a) L.length cap, .slice ao3 r.right.length cap3, .slice (some ⟨a.block, a.off + (L.length + 1), none⟩) (F.length - (L.length + 1)) (cap - (L.length + 1))] 26)) ⟨w2.heap.size, 0, none⟩ 3 _ [L, r.right, X] (rows_three (Blk.new w2.drew _ _) ((hs1.below hbe).below hbl3) (hrow3.src.below hbl3) ((hs3b.below hbe).below hbl3)) (by simpa using hS) (by simp)
        clear hs1 hs3a hs3b hrow3 hrl2 hr2
        go_region_law (first | (go_simp; go_at_call 49; refine hcat.mono ?_; rintro e w3 ⟨v, rfl, ho3, hb3⟩))
        all_goals
          go_wp2
          have ho4 : w3.ownsRow w.heap.size 3 1 v (stepL R F kn).length (IV (stepL R F kn)) := by
            have := own_weak (base' := w.heap.size) ho3 (by have := hbl3.size; omega)
            rw [HST.out]
            simpa using this
          refine bodyPost_ret (v := .tuple #[v, .int .i64 0]) (by simp [results, Try.results15, go_sem, Act.put]) rfl ?_
          exact HQ.out v _ ho4 ((hbe.trans (hbl3.mono hze)).trans (hb3.mono (by have := hbl3.size; omega)))
    · have HQ : ∀ w', Below w.heap.size w w' → StepR R F k w (.returned (.tuple #[.slice none 0 0, .int .i64 (refW R (fvW F) k)])) w' := fun w' hb => ⟨_, rfl, fun h => absurd h hE, fun _ => rfl, hb⟩
      have HQ := Lib.hid HQ
      generalize refW R (fvW F) k = E at *
      clear hR hR1 hrl hcc hcin hdr e1 hg hv0
      generalize leadW F = L at *
      generalize fvW F = x at *
      go_enter Try.func15, Try.ntmps15
      go_wp2_with fail
      refine hix.mono ?_
      rintro e w1 ⟨rfl, rfl⟩
      go_wp2_with fail
      refine href.mono ?_
      rintro e w2 ⟨rfl, hb2⟩
      go_wp2
      refine bodyPost_ret (v := .tuple #[.slice none 0 0, .int .i64 E]) (by simp [results, Try.results15, go_sem]) rfl ?_
      exact HQ.out _ (hbl.trans (hb2.mono (by simp)))
end Go.Proofs.Ytomikgkoegkofaa.dv
